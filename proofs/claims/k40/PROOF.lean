import PyProof.Rows.All
import KE.KIsAll
import KE.KSortTup
import KE.KUnpack
import KE.LcSums
import KE.KItem
import Lean
import PySem.Challenge.RW_turnbase_k40_whole_small_groups
open Array renaming length_toList → aW, getElem?_toList → bP, toList_map → fy, toList_inj → fz
open Bool renaming false_ne_true → aI, and_eq_true → bN, false_eq_true → ck, eq_false_iff → cE, eq_iff_iff → dZ, false_and → eW, and_false → eX, or_eq_true → fJ, false_or → fO, or_true → fQ
open Int renaming emod_nonneg → br, le_of_lt → bx, toNat_of_nonneg → bJ, not_lt → bU, emod_lt_of_pos → bV, le_trans → ci, toNat_natCast → dB, le_refl → dG, mul_le_mul_of_nonneg_left → eQ, natCast_add → eS, le_antisymm → eT, fdiv_eq_ediv_of_nonneg → eZ, mul_ediv_add_emod → fk, one_mul → ft, natCast_emod → fH, natCast_ediv → fI, natCast_mul → fM, zero_add → fU
open List renaming getElem?_eq_getElem → aa, length_map → ae, getElem?_map → ag, mem_singleton → ah, mem_cons_of_mem → ao, getElem?_eq_some_iff → ap, length_append → aq, getD_eq_getElem?_getD → ar, mem_cons_self → au, mem_map → aw, mem_of_getElem? → ax, mem_cons → ay, length_cons → az, length_range → aA, size_toArray → aC, mem_append_right → aD, mem_append → aE, mem_range → aH, mem_append_left → aJ, nodup_cons → aK, getElem?_range → aM, getElem?_append_left → aN, mem_nil_iff → aP, map_cons → aR, length_take → aT, getElem?_eq_none → aU, map_append → aV, pairwise_iff_getElem → aX, mem_iff_getElem → aY, pairwise_map → ba, getElem?_append_right → bd, length_drop → be, map_congr_left → bg, mem_of_mem_take → bh, nodup_append → bj, length_singleton → bn, drop_eq_getElem_cons → bp, filter_cons → bw, take_length → bz, take_append_drop → bA, take_sublist → bB, map_map → bC, append_assoc → bD, length_set → bE, take_of_length_le → bF, mem_flatMap → bG, getElem_mem → bH, take_append_of_le_length → bI, range'_succ → bK, length_eq_zero_iff → bL, getElem?_set_ne → bM, take_add_one → bO, nodup_range → bQ, lookup_cons → bR, all_eq_true → bS, getElem?_take_of_lt → bW, ext_getElem? → bZ, append_nil → ca, getElem?_set_self → cf, getElem?_eq_none_iff → cm, length_nil → cn, drop_sublist → cq, length_erase_of_mem → cr, mem_filterMap → cw, length_replicate → cA, flatMap_cons → cD, range_eq_range' → cF, nodup_nil → cH, mem_erase_of_ne → cI, getElem?_of_mem → cJ, not_mem_nil → cN, mem_flatten → cO, toList_toArray → cR, sum_cons → cT, mem_filter → cU, find?_cons → cV, pairwise_cons → cX, getElem?_drop → cY, getElem?_replicate → de, length_pos_of_mem → di, find?_cons_of_pos → dq, find?_cons_of_neg → dr, filter_eq_nil_iff → du, drop_zero → dv, drop_of_length_le → dw, mem_of_mem_drop → dE, idxOf_lt_length_of_mem → dH, nodup_iff_pairwise_ne → dL, pairwise_lt_range → dP, map_nil → dQ, forIn_cons → dY, map_id → eE, filterMap_cons → eF, any_cons → eG, zip_cons_cons → eI, find?_append → eJ, cons_ne_nil → eL, eq_nil_of_length_eq_zero → eN, of_mem_zip → eP, drop_drop → eV, mem_or_eq_of_mem_set → eY, map_take → fc, map_drop → ff, all_cons → fg, replicate_succ → fq, filter_append → fx, mem_reverse → fB, getElem_inj → fC, drop_length → fD, foldl_cons → fF, filter_map → fG, take_zero → fK, all_map → fP
open Nat renaming le_refl → af, le_trans → aB, lt_of_lt_of_le → aO, zero_le → aQ, ne_of_lt → aS, lt_irrefl → aZ, zero_add → bo, le_of_lt → bu, lt_of_le_of_lt → bT, mul_le_mul_right → bX, le_succ → bY, le_antisymm → cp, le_add_right → cv, sub_self → cz, pow_le_pow_right → cK, one_mul → cM, lt_succ_self → cP, le_of_not_lt → cQ, not_lt_zero → cW, lt_of_le_of_ne → cZ, lt_trichotomy → dz, lt_or_ge → dA, add_mul → dF, sub_zero → dI, pow_succ → dJ, one_pos → dM, lt_succ_of_lt → dN, mul_assoc → dO, ne_of_gt → dR, mul_comm → dU, lt_trans → dW, add_comm → dX, min_eq_left → eA, succ_pos → eK, mod_eq_of_lt → eM, mul_one → eO, zero_mul → fh, le_of_eq → fj, mul_le_mul_left → fv, succ_le_of_lt → fA, max_eq_right → fE, mul_le_mul → fN, succ_mul → fR, le_total → fS, mul_pos → fV, mod_lt → fW
open Option renaming map_eq_some_iff → df, getD_some → dC, map_some → dD, isSome_iff_exists → eU, isSome_map → fm, getD_none → fu
open PySem.Heap renaming get?_push_of_some → av, lt_size → aF, get?_push_size → aG, size_push → eD
set_option Elab.async false
set_option linter.all false
namespace Tb
open PySem PySem.W
def yz6 (st:SharedT->Thread->Option (SharedT×Thread))(ok thr:Thread->Bool):Nat->SharedT->Thread->Option SharedT
 | 0,_,_=>none
 | n+1,s,t=>match thr t with
  | true=>some s
  | false=>match ok t with
   | false=>none
   | true=>match st s t with
    | some (s',t')=>yz6 st ok thr n s' t'
    | none=>none
theorem yn0 {tb:String->Option Builtin}{p:Program}{w:World}{n₀:Nat}{ann:Option Value}:∀{n:Nat} {s r:SharedT} {t:Thread},yz6 (stepT (denote tb) p w) (stepOk n₀ ann) through n s t=some r->topRun tb p w n₀ ann n s.abs t=some r.abs
 | 0,_,_,_,h=>by cases h
 | n+1,s,r,t,h=>by
  unfold yz6 at h
  unfold topRun
  cases ht:through t with
  | true=>rw [ht] at h;cases h;rfl
  | false =>
   rw [ht] at h
   cases hk:stepOk n₀ ann t with
   | false=>rw [hk] at h;cases h
   | true =>
    rw [hk] at h
    cases hs:stepT (denote tb) p w s t with
    | none=>rw [hs] at h;cases h
    | some q =>
     obtain ⟨s₂,t₂⟩:=q
     rw [hs] at h
     rw [stepT_spec hs]
     exact yn0 h
def zf6:List Obj->Nat->BT->Option BT
 | [],_,T=>some T
 | o::r,k,T=>match ((T.ins k o).get k).isSome with
  | true=>zf6 r (k+1) (T.ins k o)
  | false=>none
theorem zn6 {life:Life}:∀{l:List Obj} {k:Nat} {T T':BT},zf6 l k T=some T'->(absHeap T' (k+l.length) life).objs=(absHeap T k life).objs++l.toArray
 | [],k,T,T',h=>by
  cases h
  simp
 | o::r,k,T,T',h=>by
  unfold zf6 at h
  cases hs:((T.ins k o).get k).isSome with
  | false=>rw [hs] at h;cases h
  | true =>
   rw [hs] at h
   have ih:=zn6 (life:=life) h
   rw [absHeap_ins hs] at ih
   rw [az,show k+(r.length+1)=k+1+r.length by omega,ih]
   show ((absHeap T k life).objs.push o)++r.toArray=_
   simp
theorem ye9 {h:Heap}{T:BT}(e:zf6 h.objs.toList 0 .nil=some T):absHeap T h.objs.size h.life=h:=by
 have q:=zn6 (life:=h.life) e
 rw [bo,aW] at q
 have q0:(absHeap BT.nil 0 h.life).objs=#[]:=by
  apply Array.ext_getElem?
  intro i
  rw [absHeap_at]
  simp
 rw [q0] at q
 have:(absHeap T h.objs.size h.life).objs=h.objs:=by rw [q];simp
 show Heap.mk _ _=h
 rw [show h=Heap.mk h.objs h.life from rfl]
 exact congrArg (Heap.mk · h.life) this
def yv3 (fo:Option Shared)(st:SharedT->Thread->Option (SharedT×Thread))(ok:Nat->Option Value->Thread->Bool)(p:Program)(N:Nat):Option (Shared×SharedT) :=
 match fo with
 | none=>none
 | some s₀=>match zf6 s₀.heap.objs.toList 0 .nil with
  | none=>none
  | some T=>match yz6 st (ok s₀.heap.objs.size (s₀.heap.nsMap mainGlobals "__annotations__")) through N ⟨T,s₀.heap.objs.size,s₀.heap.life,s₀.gens,s₀.drawn,s₀.toks,s₀.os⟩ (topStub p) with
   | none=>none
   | some s₁=>some (s₀,s₁)
def yo5 {β:Type}:Nat->List β->List β
 | 0,_=>[]
 | _+1,[]=>[]
 | n+1,x::l=>x::yo5 n l
def zz4 {β:Type}:Nat->List β->List β
 | 0,l=>l
 | _+1,[]=>[]
 | n+1,_::l=>zz4 n l
theorem ye8 {β:Type}:∀(n:Nat) (l:List β),yo5 n l=l.take n
 | 0,_=>rfl
 | _+1,[]=>rfl
 | n+1,x::l=>congrArg (x :: ·) (ye8 n l)
theorem A9 {β:Type}:∀(n:Nat) (l:List β),zz4 n l=l.drop n
 | 0,_=>rfl
 | _+1,[]=>rfl
 | n+1,_::l=>A9 n l
theorem leftC {p q:Program}{loose:List Str}{Xt:Shared->Bool}{β:Type}{Yf:Shared->List β}{Ya:World->List β}{N:Nat}{g0:Bool}(n:Nat)(e:opening p=plainProg p.main.scope.names)(hN:Nat.ble 600 N=true)(f:∀s,fenceModules? p s=some s)
  (hA:∀w os,(yv3 (some ⟨boot_heap w.params,Array.mk [],boot_drawn,boot_toks,os⟩) (stepT (denote treeTable) p w) stepOk p N).map (λr=>(r.1.heap.isNs mainGlobals&&r.1.gens.size==0,staticsOk (importedModules p.main.body) r.1.heap r.2.abs.heap&&namesBound p r.2.abs.heap&&gensDone r.2.abs&&laidKept r.1.heap r.2.abs.heap,openSeen q loose (importedModules p.main.body) Xt g0 r.2.abs))=some (true,true,openGood q loose))
  (hB:∀w os,(yv3 (some ⟨boot_heap w.params,Array.mk [],boot_drawn,boot_toks,os⟩) (stepT (denote treeTable) p w) stepOk p N).map (λr=>(Yf r.2.abs).take n)=some (yo5 n (Ya w)))
  (hC:∀w os,(yv3 (some ⟨boot_heap w.params,Array.mk [],boot_drawn,boot_toks,os⟩) (stepT (denote treeTable) p w) stepOk p N).map (λr=>((Yf r.2.abs).drop n).take n)=some (yo5 n (zz4 n (Ya w))))
  (hD:∀w os,(yv3 (some ⟨boot_heap w.params,Array.mk [],boot_drawn,boot_toks,os⟩) (stepT (denote treeTable) p w) stepOk p N).map (λr=>((Yf r.2.abs).drop n).drop n)=some (zz4 n (zz4 n (Ya w)))):LeftO p q loose Xt Yf Ya N g0:=λw=>by
 obtain ⟨s₀,hs,hv⟩:=df.mp (boot_open e hN f w)
 have es:(⟨boot_heap w.params,Array.mk [],boot_drawn,boot_toks,s₀.os⟩:Shared)=s₀:=by
  obtain ⟨h1,h2⟩:=Prod.mk.inj hv
  obtain ⟨h2,h3⟩:=Prod.mk.inj h2
  obtain ⟨h3,h4⟩:=Prod.mk.inj h3
  rw [←h1,←h2,←h3,←h4]
 have a:=hA w s₀.os
 have b:=hB w s₀.os
 have c:=hC w s₀.os
 have d:=hD w s₀.os
 rw [es] at a b c d
 clear es hv
 unfold openEnds
 rw [hs]
 unfold yv3 at a b c d
 dsimp only at a b c d
 cases ht:zf6 s₀.heap.objs.toList 0 .nil with
 | none=>rw [ht] at a;cases a
 | some T =>
  rw [ht] at a b c d
  dsimp only at a b c d
  cases hr:yz6 (stepT (denote treeTable) p w) (stepOk s₀.heap.objs.size (s₀.heap.nsMap mainGlobals "__annotations__")) through N ⟨T,s₀.heap.objs.size,s₀.heap.life,s₀.gens,s₀.drawn,s₀.toks,s₀.os⟩ (topStub p) with
  | none=>rw [hr] at a;cases a
  | some s₁ =>
   rw [hr] at a b c d
   have a:=Option.some.inj a
   have b:=Option.some.inj b
   have c:=Option.some.inj c
   have d:=Option.some.inj d
   dsimp only at a b c d
   rw [ye8] at b c
   rw [A9] at c
   rw [A9,A9] at d
   have c':(Yf s₁.abs).drop n=(Ya w).drop n:=by rw [←bA n ((Yf s₁.abs).drop n),c,d,bA]
   have b':Yf s₁.abs=Ya w:=by rw [←bA n (Yf s₁.abs),b,c',bA]
   have e1:=(Prod.mk.inj a).1
   have e2:=(Prod.mk.inj (Prod.mk.inj a).2).1
   have e3:=(Prod.mk.inj (Prod.mk.inj a).2).2
   have r:=yn0 hr
   have ab:(SharedT.mk T s₀.heap.objs.size s₀.heap.life s₀.gens s₀.drawn s₀.toks s₀.os).abs=s₀:=by
    show Shared.mk (absHeap T s₀.heap.objs.size s₀.heap.life) s₀.gens s₀.drawn s₀.toks s₀.os=s₀
    rw [ye9 ht]
   rw [ab] at r
   show Option.map _ (topFrom treeTable p w N s₀)=_
   unfold topFrom
   rw [e1]
   dsimp only
   rw [r]
   show Option.map _ (match staticsOk (importedModules p.main.body) s₀.heap s₁.abs.heap&&namesBound p s₁.abs.heap&&gensDone s₁.abs&&laidKept s₀.heap s₁.abs.heap with|true=>some s₁.abs|false=>none)=_
   rw [e2]
   exact congrArg some (Prod.ext e3 b')
end Tb
section
open PySem PySem.W PyProof.Rows
namespace Tb
def seenQ:Program:=view PySem.Challenge.pw_turnbase_k40_whole_small_groups [0,2,3,4,5,6,7,8,10,11,12,13,15,16,17,18,19,21,22,23,24,26,27,28,29,30,31,32,33,34,35,36,37,38,39,40,41]
end Tb
local macro_rules | `(tactic| o_head $H:term)=>`(tactic| refine W.holds_open (q:=Tb.seenQ) (loose:=[]) (Xt:=λs=>xlAt Tb.seenQ [] s&&recOk (RowW.records (OpenRow.toRowW PySem.Challenge.rw_turnbase_k40_whole_small_groups.row)) s) (XP:=XL Tb.seenQ []) (Yf:=Hook.obs $H) (Ya:=Hook.val $H) (YP:=Hook.says $H) (N:=7554) ?hl (Hook.of $H) (Hook.keeps $H) (λs e=>xl_of s (Bool.and_eq_true_iff.mp e).1) XL.keeps (by rfl) (by rfl) (by rfl) (λs e=>recFacts_of (Bool.and_eq_true_iff.mp e).2) (by rfl) (by assumption) (by decide +kernel) ⟨rfl,rfl,rfl,rfl,rfl,by decide +kernel⟩ ?hw ?hc)
set_option maxRecDepth 100000 in
set_option maxHeartbeats 0 in
def Tb.early:PSigma (λT:Prop×Prop×Prop×Prop×Prop=>T.1->T.2.1->T.2.2.1->T.2.2.2.1->T.2.2.2.2->PySem.Challenge.rw_turnbase_k40_whole_small_groups.Holds):=by
 refine ⟨(∀w os,(?A:World->OsState->Prop) w os,∀w os,(?B:World->OsState->Prop) w os,∀w os,(?C:World->OsState->Prop) w os,∀w os,(?D:World->OsState->Prop) w os,?T),λha hb hc hd he=>?m⟩
 (case m =>
  w_on;refine W.holds_law (by kernel_rfl) λsaid=>?_;k_head
  (case hl =>
  refine Tb.leftC (β:=Option Obj) 190 (by kernel_rfl) (by decide) (λs=>by kernel_rfl) ?_ ?_ ?_ ?_ <;> intro w os <;> (try unfold Tb.seenQ) <;> (repeat (first|rw [PySem.W.Fast.te10274390034422433532]|rw [PySem.W.Fast.te14289696077712309145]|rw [PySem.W.Fast.te10156331382660048174]|rw [PySem.W.Fast.te6613529449190102663]|rw [PySem.W.Fast.te11892475500146522536]|rw [PySem.W.Fast.te4187177175401517315]|rw [PySem.W.Fast.te14364793385576792824]|rw [PySem.W.Fast.te1435165496053646825]|rw [PySem.W.Fast.te5923862056798008813]))
  ·exact ha w os
  ·exact hb w os
  ·exact hc w os
  ·exact hd w os)
  (case hw=>w_witness2)
  k_fill
  exact he)
set_option maxRecDepth 100000 in
set_option maxHeartbeats 0 in
theorem Tb.early2:Tb.early.1.1:=by
 refine λw os=>?_
 kernel_rfl
set_option maxRecDepth 100000 in
set_option maxHeartbeats 0 in
theorem Tb.early3:Tb.early.1.2.1:=by
 refine λw os=>?_
 kernel_rfl
set_option maxRecDepth 100000 in
set_option maxHeartbeats 0 in
theorem Tb.early4:Tb.early.1.2.2.1:=by
 refine λw os=>?_
 kernel_rfl
set_option maxRecDepth 100000 in
set_option maxHeartbeats 0 in
theorem Tb.early5:Tb.early.1.2.2.2.1:=by
 refine λw os=>?_
 kernel_rfl
end
set_option Elab.async false
set_option linter.all false
set_option maxRecDepth 100000
namespace L2
open PySem PySem.Spec PyProof.Rows
abbrev Key:=Sum Int Str
def zk7 : Key -> Value -> Bool
  | .inl k,v=>Value.isInt k v
  | .inr x,v=>Value.isStrOf x v
def xs5 (w : World) : Key -> Int
  | .inl k=>hashInt k
  | .inr x=>hashStr w x
theorem g6 : ∀{k : Key} {v : Value}, zk7 k v = true -> (∃i t, k = Sum.inl i /\ v = Value.int i t)∨(∃x t, k = Sum.inr x /\ v = Value.str x t)
  | .inl i,v,h=>by
    obtain ⟨t,e⟩:=Value.isInt_shape (k:=i) (v:=v) h
    exact .inl ⟨i,t,rfl,e⟩
  | .inr x,v,h=>by
    obtain ⟨t,e⟩:=Value.isStrOf_shape (x:=x) (v:=v) h
    exact .inr ⟨x,t,rfl,e⟩
theorem yq7 (i:Int)(t:Tok):zk7 (.inl i) (.int i t)=true:=by simp [zk7,Value.isInt]
theorem yq8 (x:Str)(t:Tok):zk7 (.inr x) (.str x t)=true:=by simp [zk7,Value.isStrOf]
theorem xk8 (a b:Int):decide ((Sum.inl a:Key)=Sum.inl b)=(a==b):=by
  by_cases e:a=b
  . subst e;simp
  . have h : ¬(Sum.inl a : Key) = Sum.inl b := λq => e (Sum.inl.inj q)
    rw [decide_eq_false h]
    exact (beq_eq_false_iff_ne.mpr e).symm
theorem xl1 (a b:Str):decide ((Sum.inr a:Key)=Sum.inr b)=decide (a=b):=by
  by_cases e:a=b
  . subst e;simp
  . have h : ¬(Sum.inr a : Key) = Sum.inr b := λq => e (Sum.inr.inj q)
    rw [decide_eq_false h,decide_eq_false e]
theorem xk9 (a:Int)(b:Str):decide ((Sum.inl a:Key)=Sum.inr b)=false:=decide_eq_false (λq=>nomatch q)
theorem xl0 (a:Str)(b:Int):decide ((Sum.inr a:Key)=Sum.inl b)=false:=decide_eq_false (λq=>nomatch q)
def c0 (prog:Program)(w:World):PySem.KeyKind prog w Key where
  is:=zk7
  hash:=xs5 w
  inj:=λv a b ha hb=>by
    rcases g6 ha with ⟨i,t,rfl,rfl⟩|⟨x,t,rfl,rfl⟩
    . rcases g6 hb with ⟨j, u, rfl, e⟩|⟨y, u, rfl, e⟩
      . injection e with e1 _;rw [e1]
      . exact nomatch e
    . rcases g6 hb with ⟨j, u, rfl, e⟩|⟨y, u, rfl, e⟩
      . exact nomatch e
      . injection e with e1 _;rw [e1]
  byValue:=λk v h=>by
    rcases g6 h with ⟨i,t,rfl,rfl⟩|⟨x,t,rfl,rfl⟩ <;> rfl
  pyHash:=λhv h=>by
    rcases g6 hv with ⟨i,t,rfl,rfl⟩|⟨x,t,rfl,rfl⟩
    . exact wpAny_pyHash_int h
    . exact wpAny_pyHash_str h
  eqBool:=λhu hv h=>by
    rcases g6 hu with ⟨i,t,rfl,rfl⟩|⟨x,t,rfl,rfl⟩
    . rcases g6 hv with ⟨j, u, rfl, rfl⟩|⟨y, u, rfl, rfl⟩
      . rw [xk8] at h;exact wpAny_eqBool_int h
      . rw [xk9] at h;exact SeqAt.EqAt.int_str i t y u _ _ _ _ h
    . rcases g6 hv with ⟨j, u, rfl, rfl⟩|⟨y, u, rfl, rfl⟩
      . rw [xl0] at h;exact SeqAt.EqAt.str_int x t j u _ _ _ _ h
      . rw [xl1] at h;exact wpAny_eqBool_str h
  «strs»:=λk x t v h=>by
    rcases g6 h with ⟨i,u,rfl,e⟩|⟨y,u,rfl,e⟩
    . exact nomatch e
    . injection e with e1 _
      subst e1
      cases v <;> rfl
theorem yb4 (prog:Program)(w:World)(i:Int)(t:Tok):(c0 prog w).is (.inl i) (.int i t)=true:=yq7 i t
theorem yb5 (prog:Program)(w:World)(x:Str)(t:Tok):(c0 prog w).is (.inr x) (.str x t)=true:=yq8 x t
inductive V where
  | non|bl (b:Bool)|int (i:Int)|str (x:Str)|byt (b:Array UInt8)|flt (b:UInt64)|ref (a:Addr)|ty (n:String)
  deriving DecidableEq
def o6 : V -> Value -> Prop
  | .non,u=>u=Value.none
  | .bl b,u=>u=Value.bool b
  | .int i,u=>∃t,u=Value.int i t
  | .str x,u=>∃t,u=Value.str x t
  | .byt b,u=>∃t,u=Value.bytes b t
  | .flt b,u=>∃t,u=Value.float b t
  | .ref a,u=>u=Value.ref a
  | .ty n,u=>u=Value.type n
abbrev p9:List V->List Value->Prop:=Paired o6
theorem p9.length {xs:List V}{us:List Value}(r:p9 xs us):xs.length=us.length:=Paired.length r
theorem p9.get : ∀{xs : List V} {us : List Value} {i : Nat} {x : V}, p9 xs us -> xs[i]? = some x -> ∃u, us[i]? = some u /\ o6 x u
  | _,_,_,_,.nil,e=>by simp at e
  | _,_,0,_,.cons r _,e=>by simp at e;subst e;exact ⟨_,rfl,r⟩
  | _,_,i+1,x,.cons _ t,e=>by
    obtain ⟨u,h1,h2⟩:=p9.get (i:=i) (x:=x) t (by simpa using e)
    exact ⟨u,by simpa using h1,h2⟩
theorem p9.set {x : V}{u : Value}(r : o6 x u) : ∀{xs : List V} {us : List Value} (i : Nat), p9 xs us -> p9 (xs.set i x) (us.set i u)
  | _,_,_,.nil=>.nil
  | _,_,0,.cons _ t=>.cons r t
  | _,_,i+1,.cons q t=>.cons q (p9.set r i t)
theorem p9.append : ∀{xs ys : List V} {us ws : List Value}, p9 xs us -> p9 ys ws -> p9 (xs ++ ys) (us ++ ws)
  | _,_,_,_,.nil,s=>s
  | _,_,_,_,.cons r t,s=>.cons r (p9.append t s)
theorem p9.take : ∀{xs : List V} {us : List Value} (n : Nat), p9 xs us -> p9 (xs.take n) (us.take n)
  | _,_,0,_=>.nil
  | _,_,_+1,.nil=>.nil
  | _,_,n+1,.cons r t=>.cons r (p9.take n t)
theorem p9.drop : ∀{xs : List V} {us : List Value} (n : Nat), p9 xs us -> p9 (xs.drop n) (us.drop n)
  | _,_,0,r=>r
  | _,_,_+1,.nil=>.nil
  | _,_,n+1,.cons _ t=>p9.drop n t
def D8 : Option V -> Option Value -> Prop
  | some v,some u=>o6 v u
  | none,none=>True
  | _,_=>False
def KV {κ:Type}:List (κ×V)->List (κ×Value)->Prop:=Paired λ(p:κ×V) (q:κ×Value)=>p.1=q.1/\o6 p.2 q.2
def kV : Key -> V
  | .inl i=>.int i
  | .inr x=>.str x
inductive HO where
  | lst (xs:List V)
  | tup (xs:List V)
  | dK (kvs:List (Key×V))|dT (kvs:List (List Key×V))
  | set (S:Int->Bool) (n:Nat)
  | ins (C dx:Addr) (fs:List (Str×V))
  | own (x:Addr)
  | xd (fs:List (Str×V))
  | met (f x:Addr)
  | rng (lo hi:Int)
  | frz (o:Obj) (u:HO)
  | tbl (ps:Array Value)
  | ext (φ:Heap->Prop)
abbrev Hp:=Addr->Option HO
def upd (H:Hp)(a:Addr)(o:HO):Hp:=λb=>if b=a then some o else H b
theorem z5 {H:Hp}{a:Addr}{o:HO}:upd H a o a=some o:=by unfold upd;rw [if_pos rfl]
theorem z7 {H:Hp}{a b:Addr}{o:HO}(h:b≠a):upd H a o b=H b:=by unfold upd;rw [if_neg h]
theorem i8 {H:Hp}{a b:Addr}{o u:HO}(h:H a=some o)(h':H b=some u)(d:o≠u):a≠b:=by
  intro e;subst e;rw [h] at h';exact d (Option.some.inj h')
theorem y0 {H:Hp}{a b:Addr}{o:HO}(h:H a=some o)(h':H b=none):a≠b:=by
  intro e;subst e;rw [h] at h';cases h'
def zy1 (h:Heap)(a:Addr)(items:Array Value):Prop:=∃o,h.get? a=some o/\o.cls=.type "tuple"/\∃n,o.data=.seq items n/\o.dict=none
theorem zy1.new (h:Heap)(items:Array Value):zy1 (h.push { cls:=.type "tuple",data:=.seq items }) h.objs.size items:=⟨_,aG _ rfl,rfl,_,rfl,rfl⟩
theorem zy1.is {h:Heap}{a:Addr}{items:Array Value}(x:zy1 h a items):IsTup h a items:=let ⟨o,h1,h2,n,h3,_⟩:=x;⟨o,h1,h2,n,h3⟩
section
variable (P:Program)(w:World)
def n8 (H : Hp)(h : Heap)(a : Addr) : HO -> Prop
  | .lst xs=>xs.length<=sizeLine/\∃(its:List Value) (n:Nat),p9 xs its/\h.get? a=some { cls:=.type "list",data:=.seq its.toArray n }
  | .tup xs=>xs.length<=sizeLine/\∃its:List Value,p9 xs its/\zy1 h a its.toArray
  | .dK kvs=>kvs.length<=sizeLine/\(a==sysModules)=false/\∃vs,KV kvs vs/\h.DictOf (c0 P w) a vs
  | .dT kvs=>kvs.length<=sizeLine/\(a==sysModules)=false/\∃xs:List (List Key×Addr×Value),
      Paired (λ(p:List Key×V) (q:List Key×Addr×Value)=>p.1=q.1/\H q.2.1=some (.tup (p.1.map kV))/\o6 p.2 q.2.2) kvs xs /\
      ∃o es ep,h.get? a=some o/\o.ExactDict/\o.data=.dict es ep/\es.toList=xs.map (entryOfKey (tupleKind (c0 P w)))/\(xs.map (·.1)).Nodup
  | .set S n=>h.SetOf (intKind P w) a S n
  | .ins C dx fs=>H dx=some (.own a)/\fs.length<=1000/\dx≠a/\h.get? a=some (W.instObj C dx) /\
      ∃mA,h.Ns1 dx mA/\(∀f,D8 (fs.lookup f) (mA f))/\PySem.Within mA (fs.map (·.1))
  | .own _=>∃o,h.get? a=some o
  | .xd fs=>∃mA,h.Ns1 a mA/\∀f,D8 (fs.lookup f) (mA f)
  | .rng lo hi=>∃t u v,h.get? a=some { cls:=.type "range",data:=.fields #[.int lo t,.int hi u,.int 1 v] }
  | .frz o u=>h.get? a=some o/\n8 H h a u
  | .tbl ps=>h.get? a=some { cls:=.none,data:=.fields ps }
  | .met f x=>h.get? a=some (W.methodObj (.ref f) (.ref x))
  | .ext φ=>φ h/\(∃o,h.get? a=some o)/\∀h1 h2:Heap,φ h1->(∀o,h1.get? a=some o->h2.get? a=some o)->φ h2
def HOk (H:Hp)(h:Heap):Prop:=∀a o,H a=some o->n8 P w H h a o
end
section
variable {P:Program}{w:World}{H H':Hp}{h h':Heap}{a:Addr}{o:HO}
theorem n8.lt (x:n8 P w H h a o):a<h.objs.size:=by
  cases o with
  | lst xs=>obtain ⟨_,_,_,_,e⟩:=x;exact aF e
  | tup xs=>obtain ⟨_,_,_,p⟩:=x;exact p.is.lt
  | dK kvs=>obtain ⟨_,_,_,_,o,_,_,e,_⟩:=x;exact aF e
  | dT kvs=>obtain ⟨_,_,_,_,o,_,_,e,_⟩:=x;exact aF e
  | set S n=>obtain ⟨o,_,_,_,e,_⟩:=x;exact aF e
  | ins C dx fs=>obtain ⟨_,_,_,e,_⟩:=x;exact aF e
  | own y=>obtain ⟨_,e⟩:=x;exact aF e
  | xd fs=>obtain ⟨_,⟨_,_,_,e,_⟩,_⟩:=x;exact aF e
  | rng lo hi=>obtain ⟨_,_,_,e⟩:=x;exact aF e
  | frz ob u=>obtain ⟨e,_⟩:=x;exact aF e
  | tbl ps=>exact aF (show h.get? a=some _ from x)
  | met f y=>exact aF (show h.get? a=some _ from x)
  | ext φ=>obtain ⟨_,⟨_,e⟩,_⟩:=x;exact aF e
theorem Paired.mapP {α β : Type}{F G : α -> β -> Prop} : ∀{l₁ : List α} {l₂ : List β}, Paired F l₁ l₂ -> (∀a b, F a b -> G a b) -> Paired G l₁ l₂
  | _,_,.nil,_=>.nil
  | _,_,.cons r t,f=>.cons (f _ _ r) (Paired.mapP t f)
theorem Paired.imp' {α β:Type}{F G:α->β->Prop}(f:∀a b,F a b->G a b){l₁:List α}{l₂:List β}(r:Paired F l₁ l₂):Paired G l₁ l₂:=Paired.mapP r f
theorem n8.stay (x : n8 P w H h a o)(k : ∀b u, (b = a∨H b = some (.own a)) -> h.get? b = some u -> h'.get? b = some u)
    (ho:∀b,H b=some (.own a)->H' b=some (.own a)) (ht:∀b xs,H b=some (.tup xs)->H' b=some (.tup xs)):n8 P w H' h' a o:=by
  induction o with
  | lst xs=>obtain ⟨z,its,n,r,e⟩:=x;exact ⟨z,its,n,r,k _ _ (.inl rfl) e⟩
  | tup xs=>obtain ⟨z,its,r,ob,e,c⟩:=x;exact ⟨z,its,r,ob,k _ _ (.inl rfl) e,c⟩
  | dK kvs=>obtain ⟨z,y,vs,r,ob,es,ep,e,c⟩:=x;exact ⟨z,y,vs,r,ob,es,ep,k _ _ (.inl rfl) e,c⟩
  | dT kvs =>
    obtain ⟨z,y,xs,r,ob,es,ep,e,c⟩:=x
    exact ⟨z,y,xs,Paired.mapP r λp q z=>⟨z.1,ht _ _ z.2.1,z.2.2⟩,ob,es,ep,k _ _ (.inl rfl) e,c⟩
  | set S n=>obtain ⟨ob,es,ep,t,e,c⟩:=x;exact ⟨ob,es,ep,t,k _ _ (.inl rfl) e,c⟩
  | ins C dx fs =>
    obtain ⟨d,z,ne,e,mA,⟨od,es,ep,e2,c⟩,r⟩:=x
    exact ⟨ho _ d,z,ne,k _ _ (.inl rfl) e,mA,⟨od,es,ep,k _ _ (.inr d) e2,c⟩,r⟩
  | own y=>obtain ⟨ob,e⟩:=x;exact ⟨ob,k _ _ (.inl rfl) e⟩
  | xd fs=>obtain ⟨mA,⟨od,es,ep,e,c⟩,r⟩:=x;exact ⟨mA,⟨od,es,ep,k _ _ (.inl rfl) e,c⟩,r⟩
  | rng lo hi=>obtain ⟨t,u,v,e⟩:=x;exact ⟨t,u,v,k _ _ (.inl rfl) e⟩
  | frz ob u ih=>obtain ⟨e,q⟩:=x;exact ⟨k _ _ (.inl rfl) e,ih q⟩
  | tbl ps =>
    have e:h.get? a=some { cls:=.none,data:=.fields ps }:=x
    show h'.get? a=some { cls:=.none,data:=.fields ps }
    exact k a _ (.inl rfl) e
  | met f y =>
    have e:h.get? a=some (W.methodObj (.ref f) (.ref y)):=x
    show h'.get? a=some (W.methodObj (.ref f) (.ref y))
    exact k a _ (.inl rfl) e
  | ext φ=>obtain ⟨p,⟨o,e⟩,st⟩:=x;exact ⟨st _ _ p λo q=>k _ _ (.inl rfl) q,⟨o,k _ _ (.inl rfl) e⟩,st⟩
theorem HOk.lt (x:HOk P w H h)(e:H a=some o):a<h.objs.size:=(x a o e).lt
theorem HOk.fresh (x:HOk P w H h)(e:h.objs.size<=a):H a=none:=by
  cases q:H a with
  | none=>rfl
  | some u=>exact absurd (aO (x.lt q) e) (aZ _)
theorem HOk.kept (x:HOk P w H h)(k:∀b u,h.get? b=some u->h'.get? b=some u):HOk P w H h':=λa o e =>
  (x a o e).stay (λb u _ q=>k b u q) (λ_ q=>q) λ_ _ q=>q
theorem HOk.laid (x:HOk P w H h)(k:∀b u,h.get? b=some u->h'.get? b=some u)(hp:h.objs.size<=a)(new:n8 P w (upd H a o) h' a o):HOk P w (upd H a o) h':=λb u e=>by
  have hn:=x.fresh hp
  by_cases hb:b=a
  . subst hb;rw [z5] at e;cases e;exact new
  . rw [z7 hb] at e
    exact (x b u e).stay (λc v _ q=>k c v q) (λc q=>by rw [z7 (y0 q hn)];exact q) λc xs q=>by rw [z7 (y0 q hn)];exact q
end
def Rd (H:Hp)(a:Addr)(u:HO):Prop:=H a=some u∨∃o,H a=some (.frz o u)
theorem Rd.ok {P:Program}{w:World}{H:Hp}{h:Heap}{a:Addr}{u:HO}(r:Rd H a u)(x:HOk P w H h):n8 P w H h a u:=by
  rcases r with r|⟨o,r⟩
  . exact x a u r
  . obtain ⟨_, q⟩ := x a _ r
    exact q
def Mut : Option HO -> Prop
  | some (.lst _)=>True
  | some (.dK _)=>True
  | some (.dT _)=>True
  | some (.set _ _)=>True
  | some (.ins _ _ _)=>True
  | some (.ext _)=>True
  | _=>False
section
variable {P:Program}{w:World}{H:Hp}{h h':Heap}{x e:Addr}{o':HO}
theorem HOk.write (ok : HOk P w H h)(mu : Mut (H x))(he : e = x∨H e = some (.own x))(k : ∀b u, b ≠ e -> h.get? b = some u -> h'.get? b = some u)(heo : ∃u, h'.get? e = some u)
    (new:n8 P w (upd H x o') h' x o'):HOk P w (upd H x o') h':=λb u q=>by
  have nown:∀c y,H c=some (.own y)->c≠x:=λc y r z=>by subst z;rw [r] at mu;exact mu
  have ntup:∀c xs,H c=some (.tup xs)->c≠x:=λc xs r z=>by subst z;rw [r] at mu;exact mu
  by_cases hb:b=x
  . subst hb;rw [z5] at q;cases q;exact new
  . rw [z7 hb] at q
    by_cases hbe:b=e
    . have q':H b=some (.own x):=by
        rcases he with z|z
        . exact absurd (hbe.trans z) hb
        . rw [hbe];exact z
      rw [q] at q';cases q'
      obtain ⟨v,hv⟩:=heo
      exact ⟨v,by rw [hbe];exact hv⟩
    . refine (ok b u q).stay (λc v hc r => k c v ?_ r) (λc r => by rw [z7 (nown c b r)]; exact r) λc xs r => by rw [z7 (ntup c xs r)]; exact r
      rcases hc with rfl|hc
      . exact hbe
      . rintro rfl
        rcases he with z|z
        . exact nown c b hc z
        . rw [hc] at z;cases z;exact hb rfl
end
structure Un (fs ex:List Addr) (H H':Hp) (h h':Heap):Prop where
  keep:∀b o,h.get? b=some o->H b=none->b∉fs->b∉ex->h'.get? b=some o
  slot:∀b o,h.get? b=some o->H b=none->b∈fs->b∉ex->∃sl,h'.get? b=some { o with slots:=sl }
  free:∀b o,h.get? b=some o->H b=none->b∉ex->H' b=none
  there:∀b o,h.get? b=some o->b∉ex->∃o',h'.get? b=some o'
  tups:∀b xs,H b=some (.tup xs)->H' b=some (.tup xs)
  frzs:∀b o u,H b=some (.frz o u)->H' b=some (.frz o u)
  tbls:∀b ps,H b=some (.tbl ps)->∃more,H' b=some (.tbl (ps++more))
section
variable {fs fs' ex ex':List Addr}{H H1 H2:Hp}{h h1 h2 h':Heap}{a x e:Addr}{o:HO}
theorem Un.any (u:Un fs ex H H1 h h1){b:Addr}{ob:Obj}(q:h.get? b=some ob)(n:H b=none)(hx:b∉ex):∃sl,h1.get? b=some { ob with slots:=sl }:=by
  by_cases hb:b∈fs
  . exact u.slot b ob q n hb hx
  . exact ⟨ob.slots,u.keep b ob q n hb hx⟩
theorem Un.kept (k:∀b u,h.get? b=some u->h'.get? b=some u):Un fs ex H H h h' :=
  ⟨λb ob q _ _ _=>k b ob q,λb ob q _ _ _=>⟨ob.slots,k b ob q⟩,λ_ _ _ n _=>n,λb ob q _=>⟨ob,k b ob q⟩,λ_ _ q=>q,λ_ _ _ q=>q,λ_ ps q=>⟨#[],by rw [q];simp⟩⟩
theorem Un.refl:Un fs ex H H h h:=Un.kept λ_ _ q=>q
theorem Un.laid (k:∀b u,h.get? b=some u->h'.get? b=some u)(hp:h.objs.size<=a)(hn:H a=none):Un fs ex H (upd H a o) h h' where
  keep:=λb u q _ _ _=>k b u q
  slot:=λb u q _ _ _=>⟨u.slots,k b u q⟩
  free:=λb u q n _=>by rw [z7 (aS (aO (aF q) hp))];exact n
  there:=λb u q _=>⟨u,k b u q⟩
  tups:=λb xs q=>by rw [z7 (y0 q hn)];exact q
  frzs:=λb u xs q=>by rw [z7 (y0 q hn)];exact q
  tbls:=λb ps q=>⟨#[],by rw [z7 (y0 q hn),q];simp⟩
theorem Un.write (mu:Mut (H x))(he:e=x∨H e=some (.own x))(k:∀b u,b≠e->h.get? b=some u->h'.get? b=some u)(heo:∃u,h'.get? e=some u):Un fs ex H (upd H x o) h h':=by
  have hx:∀b,H b=none->b≠x:=λb n z=>by subst z;rw [n] at mu;exact mu
  have hb:∀b,H b=none->b≠e:=λb n z=>by
    subst z
    rcases he with r|r
    . exact hx b n r
    . rw [n] at r;cases r
  have hm:∀b u,H b=some u->¬Mut (some u)->b≠x:=λb u q nm z=>by subst z;rw [q] at mu;exact nm mu
  refine ⟨λb u q n _ _=>k b u (hb b n) q,λb u q n _ _=>⟨u.slots,k b u (hb b n) q⟩,λb u q n _=>by rw [z7 (hx b n)];exact n,λb u q _=>?_,
    λb xs q=>by rw [z7 (hm b _ q λz=>z)];exact q,λb u xs q=>by rw [z7 (hm b _ q λz=>z)];exact q,λb ps q=>⟨#[],by rw [z7 (hm b _ q λz=>z),q];simp⟩⟩
  by_cases hbe:b=e
  . subst hbe;exact heo
  . exact ⟨u,k b u hbe q⟩
end
def trk (h:Heap)(H:Hp):List Addr:=(List.range h.objs.size).filter λa=>(H a).isSome
def zt6 (h:Heap)(H:Hp):Heap:=W.hideAll h (trk h H)
theorem yq2 (h:Heap)(H:Hp):(zt6 h H).objs.size=h.objs.size:=W.hideAll_size _ _
theorem yw1 {h:Heap}{H:Hp}{b:Addr}{o:Obj}(e:h.get? b=some o)(n:H b=none):(zt6 h H).get? b=some o :=
  W.hideAll_get _ e λhm=>by
    have q:(H b).isSome=true:=(cU.mp hm).2
    rw [n] at q;simp at q
theorem xe2 {h:Heap}{H:Hp}{b:Addr}{o:Obj}(e:(zt6 h H).get? b=some o):h.get? b=some o/\H b=none:=by
  have e':h.get? b=some o:=W.of_hideAll (trk h H) e
  refine ⟨e',?_⟩
  cases q:H b with
  | none=>rfl
  | some x =>
    have hm:b∈trk h H:=cU.mpr ⟨aH.mpr (aF e'),by simp [q]⟩
    have z:(zt6 h H).get? b=none:=W.hideAll_none (trk h H) hm
    rw [z] at e;cases e
def zs7 (g h:Heap)(L:Addr):List (Addr×Obj):=(List.range h.objs.size).filterMap λa=>if a=L∨(g.get? a).isSome=true then none else (h.get? a).map λo=>(a,o)
theorem zl4 {g h:Heap}{L:Addr}{p:Addr×Obj}(hp:p∈zs7 g h L):p.1≠L/\g.get? p.1=none/\h.get? p.1=some p.2:=by
  obtain ⟨b,_,e⟩:=cw.mp hp
  split at e
  . cases e
  . rename_i hn
    cases q:h.get? b with
    | none=>rw [q] at e;simp at e
    | some u =>
      rw [q] at e
      simp only [dD,Option.some.injEq] at e
      subst e
      refine ⟨λz=>hn (.inl z),?_,q⟩
      show g.get? b=none
      cases r:g.get? b with
      | none=>rfl
      | some v=>exact (hn (.inr (by simp [r]))).elim
def X3 (g h:Heap)(L d:Addr):List (Addr×Obj):=(zs7 g h L).filter λp=>decide (p.1≠d)
theorem yx9 {g h:Heap}{L:Addr}:News g L h (zs7 g h L):=λp hp=>let ⟨a,b,c⟩:=zl4 hp;⟨c,a,b⟩
structure Mod (K:W.Frag) (mg:Str->Option Value) (base:Heap):Prop where
  kin:K.In base
  glob:base.Ns mainGlobals mg
  blt:∃mb,base.Ns builtinsNs mb/\∀x:Str,x≠"__name__"->mb x=bootBuiltins x
  nolimit:base.NoLimit
structure Cx where
  prog:Program
  w:World
  K:W.Frag
  mg:Str->Option Value
  base:Heap
  A:Around
  N:List Str
  s₀:Shared
  H₀:Hp
  env:Env
  outer:List Env
  stack:List Env
  ex:List Addr
  fn:Str->Bool
  calm:Bool
  pn:List (Addr×Obj)
  xe:Value->Shared->Prop
def frs (l:List Env):List Addr:=l.filterMap (·.frame)
abbrev Cx.fs (X:Cx):List Addr:=frs X.outer
def Vis (sc:Scope)(x:Str):Prop:=sc.names.lookup x=some .local∨sc.names.lookup x=some .cell∨sc.names.lookup x=some .free
def Loc (sc:Scope)(x:Str):Prop:=sc.names.lookup x=some .local∨sc.names.lookup x=some .cell
def xr6 (env:Env)(h:Heap)(m:Str->Option Value)(x:Str)(u:Value):Prop :=
  (env.kindOf x=some .local/\m x=some u)∨((env.kindOf x=some .cell∨env.kindOf x=some .free)/\∃c,env.cells.lookup x=some c/\h.IsCell c (some u))
structure Cx.Ok (X:Cx):Prop where
  mod:Mod X.K X.mg X.base
  kind:X.env.scope.kind=.function
  glob:X.env.globals=mainGlobals
  blt:X.env.builtins=builtinsNs
  above:X.s₀.heap.objs.size<=X.env.locals
  inj:∀x y c,X.env.cells.lookup x=some c->X.env.cells.lookup y=some c->x=y
  has:∀x,(X.env.kindOf x=some .cell∨X.env.kindOf x=some .free)->∃c,X.env.cells.lookup x=some c
  cab:∀x c,X.fn x=true->X.env.cells.lookup x=some c->X.s₀.heap.objs.size<=c
  hd:X.calm=true->X.A.handled=none
  frames:X.A.frames=some X.stack
  stk:X.stack=X.outer∨(X.stack=X.env::X.outer/\X.env.frame=some X.env.locals)
  exf:∀b∈X.ex,b≠X.env.locals/\∀x c,X.env.cells.lookup x=some c->c≠b
  bs:∀b o,X.base.get? b=some o->X.s₀.heap.get? b=some o/\X.H₀ b=none
  bsz:X.base.objs.size<=X.s₀.heap.objs.size
  noex:∀b o,X.base.get? b=some o->b∉X.ex
  exfs:∀b∈X.ex,b∉X.fs
  funs:X.s₀.heap.FunFrames X.base X.outer
  frf:∀b∈X.fs,X.H₀ b=none
structure Inv (X:Cx) (pins:List (Addr×Obj)) (σ:List (Option V)) (H:Hp) (s:Shared):Prop where
  ok:X.Ok
  os:s.os=X.s₀.os
  bare:AllBare s.gens
  base:Un X.fs X.ex X.H₀ H X.s₀.heap s.heap
  loc:∃m,s.heap.Ns X.env.locals m/\∀(i:Nat) (x:Str) (v:V),X.N[i]?=some x->σ[i]?=some (some v)->Vis X.env.scope x->∃u,o6 v u/\xr6 X.env s.heap m x u
  cell:∀x c,X.env.cells.lookup x=some c->∃v,s.heap.IsCell c v
  free:H X.env.locals=none
  freeC:∀x c,X.env.cells.lookup x=some c->H c=none
  pin:∀p∈X.pn++pins,s.heap.get? p.1=some p.2/\H p.1=none/\p.1≠X.env.locals/\p.1∉X.fs/\∀v,p.2.data≠.cell v
  hok:HOk X.prog X.w H s.heap
  len:σ.length=X.N.length
section
variable {X:Cx}{pins:List (Addr×Obj)}{σ:List (Option V)}{H H':Hp}{s:Shared}{h':Heap}
theorem Cx.Ok.nofr (ok:X.Ok){b:Addr}{o:Obj}(e:X.base.get? b=some o):b∉X.fs:=λhb=>by
  have:=(ok.funs.mem hb).1
  rw [e] at this;cases this
theorem Inv.bs (I:Inv X pins σ H s):∀b o,X.base.get? b=some o->s.heap.get? b=some o/\H b=none:=λb o e =>
  ⟨I.base.keep b o (I.ok.bs b o e).1 (I.ok.bs b o e).2 (I.ok.nofr e) (I.ok.noex b o e),I.base.free b o (I.ok.bs b o e).1 (I.ok.bs b o e).2 (I.ok.noex b o e)⟩
theorem Inv.bk (I:Inv X pins σ H s):∀b o,X.base.get? b=some o->s.heap.get? b=some o:=λb o e=>(I.bs b o e).1
theorem Inv.mod (I:Inv X pins σ H s):Mod X.K X.mg X.base:=I.ok.mod
theorem Inv.kIn (I:Inv X pins σ H s):X.K.In s.heap:=I.ok.mod.kin.keeps I.bk
theorem Inv.fr (I:Inv X pins σ H s):∃m,Fr X.base X.env.locals s.heap m :=
  let ⟨m,hn,_⟩:=I.loc
  ⟨m,hn,I.bk,aB I.ok.bsz I.ok.above⟩
theorem Inv.lt (I:Inv X pins σ H s):X.env.locals<s.heap.objs.size:=let ⟨_,hn,_⟩:=I.loc;hn.lt
theorem Inv.sz (I:Inv X pins σ H s):X.s₀.heap.objs.size<=s.heap.objs.size:=aB I.ok.above (bu I.lt)
theorem Inv.nofs (I:Inv X pins σ H s){a:Addr}(h:s.heap.objs.size<=a):a∉X.fs:=λhb=>by
  obtain ⟨_,o,ho,_⟩:=I.ok.funs.mem hb
  exact absurd (aO (aF ho) (aB I.sz h)) (aZ _)
theorem Inv.cne (I:Inv X pins σ H s):∀x c,X.env.cells.lookup x=some c->c≠X.env.locals:=λx c e z=>by
  obtain ⟨v,o,ho,hd⟩:=I.cell x c e
  obtain ⟨m,⟨o',es,ep,ho',hd',_⟩,_⟩:=I.loc
  rw [z,ho'] at ho;cases ho;rw [hd'] at hd;cases hd
theorem Inv.funs (I:Inv X pins σ H s):s.heap.FunFrames X.base X.outer:=by
  have all:∀(l:List Env),(∀b∈frs l,b∈X.fs)->X.s₀.heap.FunFrames X.base l->s.heap.FunFrames X.base l:=by
    intro l
    induction l with
    | nil=>intro _ _;trivial
    | cons env r ih =>
      intro hs hl
      obtain ⟨hk,⟨L,o,hf,hn,ho,hd⟩,hr⟩:=hl
      have hL:L∈X.fs:=hs L (by unfold frs;rw [eF,hf];exact au)
      obtain ⟨sl,e⟩:=I.base.slot L o ho (I.ok.frf L hL) hL λz=>I.ok.exfs L z hL
      exact ⟨hk,⟨L,_,hf,hn,e,hd⟩,ih (λb hb=>hs b (by unfold frs;rw [eF,hf];exact ao _ hb)) hr⟩
  exact all X.outer (λ_ hb=>hb) I.ok.funs
theorem Inv.stack (I:Inv X pins σ H s):s.heap.FunFrames X.base X.stack:=by
  rcases I.ok.stk with e|⟨e,hf⟩
  . rw [e];exact I.funs
  . rw [e]
    obtain ⟨m,hn,_⟩:=I.loc
    refine .cons (by rw [I.ok.kind];decide) hf hn ?_ I.funs
    exact Heap.get?_none_of_le (aB I.ok.bsz I.ok.above)
theorem Inv.stkSub (I:Inv X pins σ H s):∀b∈frs X.stack,b∈X.env.locals::X.fs:=λb hb=>by
  rcases I.ok.stk with e|⟨e,hf⟩
  . rw [e] at hb;exact ao _ hb
  . rw [e] at hb
    unfold frs at hb
    rw [eF,hf] at hb
    exact hb
theorem Inv.stkFree (I:Inv X pins σ H s):∀b∈frs X.stack,H b=none:=λb hb=>by
  rcases ay.mp (I.stkSub b hb) with e|hb
  . rw [e];exact I.free
  . obtain ⟨_, o, ho, _⟩ := I.ok.funs.mem hb
    exact I.base.free b o ho (I.ok.frf b hb) λz=>I.ok.exfs b z hb
theorem Inv.step {g' : Array GenState}{t' : Nat}{d' : Drawn}{ch : List Addr}(I : Inv X pins σ H s)
    (hch:∀b∈ch,(b∈X.ex∨X.s₀.heap.objs.size<=b)/\b≠X.env.locals/\(∀x c,X.env.cells.lookup x=some c->c≠b)/\∀p∈X.pn++pins,p.1≠b)
    (keep:∀b o,b≠X.env.locals->b∉X.fs->b∉ch->s.heap.get? b=some o->H b=none->h'.get? b=some o)
    (slot:∀b o,b≠X.env.locals->b∈X.fs->b∉ch->s.heap.get? b=some o->H b=none->∃sl,h'.get? b=some { o with slots:=sl }) (free:∀b o,b∉ch->s.heap.get? b=some o->H b=none->H' b=none)
    (there:∀b o,b∉ch->s.heap.get? b=some o->∃o',h'.get? b=some o')
    (tups:∀b xs,H b=some (.tup xs)->H' b=some (.tup xs)) (frzs:∀b o u,H b=some (.frz o u)->H' b=some (.frz o u)) (tbls:∀b ps,H b=some (.tbl ps)->∃more,H' b=some (.tbl (ps++more)))
    (ns:∀m,s.heap.Ns X.env.locals m->h'.Ns X.env.locals m) (hok:HOk X.prog X.w H' h') (hg:AllBare g') :
    Inv X pins σ H' { s with heap:=h',gens:=g',drawn:=d',toks:=t' }:=by
  have neL:∀b o,X.s₀.heap.get? b=some o->b≠X.env.locals:=λb o e=>aS (aO (aF e) I.ok.above)
  have neC:∀b o,X.s₀.heap.get? b=some o->b∉X.ex->b∉ch:=λb o e hx hb=>by
    rcases (hch b hb).1 with z|z
    . exact hx z
    . exact absurd (aO (aF e) z) (aZ _)
  have cellK:∀x c,X.env.cells.lookup x=some c->∀v,s.heap.IsCell c v->h'.IsCell c v:=λx c e v ⟨o,ho,hd⟩=>by
    have nch:c∉ch:=λz=>(hch c z).2.2.1 x c e rfl
    by_cases hc:c∈X.fs
    . obtain ⟨sl, q⟩ := slot c o (I.cne x c e) hc nch ho (I.freeC x c e)
      exact ⟨_,q,hd⟩
    . exact ⟨o,keep c o (I.cne x c e) hc nch ho (I.freeC x c e),hd⟩
  refine ⟨I.ok,I.os,hg,⟨λb o e n hb hx=>?_,λb o e n hb hx=>?_,λb o e n hx=>?_,λb o e hx=>?_,λb xs e=>tups b xs (I.base.tups b xs e),λb o xs e=>frzs b o xs (I.base.frzs b o xs e),λb ps e=>?_⟩,?_,λx c e=>?_,?_,λx c e=>?_,λp hp=>?_,hok,I.len⟩
  . exact keep b o (neL b o e) hb (neC b o e hx) (I.base.keep b o e n hb hx) (I.base.free b o e n hx)
  . obtain ⟨sl, e1⟩ := I.base.slot b o e n hb hx
    obtain ⟨sl',e2⟩:=slot b _ (neL b o e) hb (neC b o e hx) e1 (I.base.free b o e n hx)
    exact ⟨sl',e2⟩
  . obtain ⟨o', e1⟩ := I.base.there b o e hx
    exact free b o' (neC b o e hx) e1 (I.base.free b o e n hx)
  . obtain ⟨o', e1⟩ := I.base.there b o e hx
    exact there b o' (neC b o e hx) e1
  . obtain ⟨m1, e1⟩ := I.base.tbls b ps e
    obtain ⟨m2,e2⟩:=tbls b _ e1
    exact ⟨m1++m2,by rw [e2,Array.append_assoc]⟩
  . obtain ⟨m, hn, hl⟩ := I.loc
    refine ⟨m,ns m hn,λi x v e1 e2 e3=>?_⟩
    obtain ⟨u,r,l⟩:=hl i x v e1 e2 e3
    refine ⟨u,r,?_⟩
    rcases l with l|⟨k,c,e,z⟩
    . exact .inl l
    . exact .inr ⟨k,c,e,cellK x c e _ z⟩
  . obtain ⟨v, z⟩ := I.cell x c e
    exact ⟨v,cellK x c e v z⟩
  . obtain ⟨m, ⟨o, _, _, ho, _⟩, _⟩ := I.loc
    exact free _ o (λz=>(hch _ z).2.1 rfl) ho I.free
  . obtain ⟨v, o, ho, hd⟩ := I.cell x c e
    exact free c o (λz=>(hch c z).2.2.1 x c e rfl) ho (I.freeC x c e)
  . obtain ⟨e, n, ne, nf, d⟩ := I.pin p hp
    have nch:p.1∉ch:=λz=>(hch p.1 z).2.2.2 p hp rfl
    exact ⟨keep p.1 p.2 ne nf nch e n,free p.1 p.2 nch e n,ne,nf,d⟩
theorem Inv.un {t':Nat}(I:Inv X pins σ H s)(u:Un X.fs [] H H' s.heap h')(hok:HOk X.prog X.w H' h'):Inv X pins σ H' { s with heap:=h',toks:=t' }:=by
  obtain ⟨m,⟨o,es,ep,ho,r⟩,_⟩:=id I.loc
  obtain ⟨sl,hL⟩:=u.any ho I.free (by simp)
  exact I.step (g':=s.gens) (d':=s.drawn) (ch:=[]) (λ_ z=>nomatch z) (λb o _ hb _ e n=>u.keep b o e n hb (by simp)) (λb o _ hb _ e n=>u.slot b o e n hb (by simp)) (λb o _ e n=>u.free b o e n (by simp)) (λb o _ e=>u.there b o e (by simp)) u.tups u.frzs u.tbls (λm' hm=>by
    obtain ⟨o',es',ep',ho',r'⟩:=hm
    rw [ho] at ho';cases ho'
    exact ⟨_,es',ep',hL,r'⟩) hok I.bare
theorem Inv.call {g' : Array GenState}{t' : Nat}{d' : Drawn}{ch : List Addr}(I : Inv X pins σ H s)(u : Un (frs X.stack) ch H H' s.heap h')(hok : HOk X.prog X.w H' h')(hg : AllBare g')
    (hch:∀b∈ch,(b∈X.ex∨X.s₀.heap.objs.size<=b)/\b≠X.env.locals/\(∀x c,X.env.cells.lookup x=some c->c≠b)/\∀p∈X.pn++pins,p.1≠b) :
    Inv X pins σ H' { s with heap:=h',gens:=g',drawn:=d',toks:=t' }:=by
  obtain ⟨m,⟨o,es,ep,ho,r⟩,_⟩:=id I.loc
  obtain ⟨sl,hL⟩:=u.any ho I.free λz=>(hch _ z).2.1 rfl
  exact I.step (ch:=ch) hch (λb o hL hb hc e n=>u.keep b o e n (λz=>(ay.mp (I.stkSub b z)).elim hL hb) hc) (λb o _ _ hc e n=>u.any e n hc) (λb o hc e n=>u.free b o e n hc) (λb o hc e=>u.there b o e hc) u.tups u.frzs u.tbls (λm' hm=>by
    obtain ⟨o',es',ep',ho',r'⟩:=hm
    rw [ho] at ho';cases ho'
    exact ⟨_,es',ep',hL,r'⟩) hok hg
theorem Inv.turned {t' : Nat}{it : Addr}(I : Inv X pins σ H s)(k : ∀b o, b ≠ it -> s.heap.get? b = some o -> h'.get? b = some o)(hn : H it = none)(hL : it ≠ X.env.locals)
    (h1:it∈X.ex∨X.s₀.heap.objs.size<=it) (h2:∀x c,X.env.cells.lookup x=some c->c≠it) (h3:∀p∈X.pn++pins,p.1≠it):Inv X pins σ H { s with heap:=h',toks:=t' }:=by
  have nit:∀b u,H b=some u->b≠it:=λb u e z=>by rw [z,hn] at e;cases e
  refine I.step (g' := s.gens) (d' := s.drawn) (ch := [it]) (λb hb => ?_) (λb o _ _ hc e _ => k b o (λz => hc (by simp [z])) e) (λb o _ _ hc e _ => ⟨o.slots, k b o (λz => hc (by simp [z])) e⟩) (λ_ _ _ _ n => n)
    (λb o hc e=>⟨o,k b o (λz=>hc (by simp [z])) e⟩) (λ_ _ e=>e) (λ_ _ _ e=>e) (λb ps e=>⟨#[],by rw [e];simp⟩) (λm hm=>?_) (λb u e=>?_) I.bare
  . have e : b = it := by simpa using hb
    subst e
    exact ⟨h1,hL,h2,h3⟩
  . obtain ⟨o, es, ep, ho, r⟩ := hm
    exact ⟨o,es,ep,k _ o (Ne.symm hL) ho,r⟩
  . refine (I.hok b u e).stay (λc v hc q => k c v ?_ q) (λ_ q => q) λ_ _ q => q
    rcases hc with z|z
    . rw [z];exact nit b u e
    . exact nit c _ z
theorem Inv.tok (I:Inv X pins σ H s)(t:Nat):Inv X pins σ H { s with toks:=t }:=I.un (h':=s.heap) (t':=t) Un.refl I.hok
theorem Inv.kept {t':Nat}(I:Inv X pins σ H s)(k:∀b u,s.heap.get? b=some u->h'.get? b=some u):Inv X pins σ H { s with heap:=h',toks:=t' }:=I.un (Un.kept k) (I.hok.kept k)
theorem Inv.laid {a : Addr}{o : HO}{t' : Nat}(I : Inv X pins σ H s)(k : ∀b u, s.heap.get? b = some u -> h'.get? b = some u)(hp : s.heap.objs.size <= a)(new : n8 X.prog X.w (upd H a o) h' a o) :
    Inv X pins σ (upd H a o) { s with heap:=h',toks:=t' }:=I.un (Un.laid k hp (I.hok.fresh hp)) (I.hok.laid k hp new)
theorem Inv.write {x e : Addr}{o : HO}{t' : Nat}(I : Inv X pins σ H s)(mu : Mut (H x))(he : e = x∨H e = some (.own x))(k : ∀b u, b ≠ e -> s.heap.get? b = some u -> h'.get? b = some u)(heo : ∃u, h'.get? e = some u)
    (new:n8 X.prog X.w (upd H x o) h' x o):Inv X pins σ (upd H x o) { s with heap:=h',toks:=t' }:=I.un (Un.write mu he k heo) (I.hok.write mu he k heo new)
theorem Inv.pins_of {pins':List (Addr×Obj)}(I:Inv X pins σ H s)(h:∀p∈pins',s.heap.get? p.1=some p.2/\H p.1=none/\p.1≠X.env.locals/\p.1∉X.fs/\∀v,p.2.data≠.cell v):Inv X pins' σ H s :=
  ⟨I.ok,I.os,I.bare,I.base,I.loc,I.cell,I.free,I.freeC,λp hp=>(aE.mp hp).elim (λz=>I.pin p (aJ _ z)) (h p),I.hok,I.len⟩
theorem zl3 {N:List Str}(hN:N.Nodup){i j:Nat}{x:Str}(a:N[i]?=some x)(b:N[j]?=some x):i=j:=by
  obtain ⟨h1,e1⟩:=ap.mp a
  obtain ⟨h2,e2⟩:=ap.mp b
  exact (fC hN).mp (e1.trans e2.symm)
theorem D5 {M : Model}{A : Around}{E : Value -> Shared -> Prop}{i : Nat}{x : Str}{v : V}{u : Value}{Q : Unit -> Shared -> Prop}(I : Inv X pins σ H s)(hN : X.N.Nodup)(hi : X.N[i]? = some x)(hx : Loc X.env.scope x)(r : o6 v u)
    (h:∀s',Inv X pins (σ.set i (some v)) H s'->(∃a,Heap.SameBut a s.heap s'.heap/\(a=X.env.locals∨X.env.cells.lookup x=some a))->Q () s') (hf:X.fn x=true∨X.env.scope.names.lookup x=some .local:=by first|exact .inl rfl|exact .inr rfl|assumption):wpAny M A (storeName X.env x u) Q E s:=by
  obtain ⟨m,hn,hl⟩:=id I.loc
  have hcls:(X.env.scope.kind == .class || (X.env.scope.kind == .module&&X.env.locals != X.env.globals))=false:=by rw [I.ok.kind];rfl
  have hiσ:i<σ.length:=by rw [I.len];exact (ap.mp hi).1
  have cne:=I.cne
  have tracked:∀{a:Addr} {h':Heap},(∃o,s.heap.get? a=some o/\H a=none)->Heap.SameBut a s.heap h'->HOk X.prog X.w H h':=λ{a h'} ha hs b ob e=>by
    obtain ⟨_,_,hfree⟩:=ha
    refine (I.hok b ob e).stay (λc w' hc q=>(hs.2 c ?_).trans q) (λ_ q=>q) λ_ _ q=>q
    rintro rfl
    rcases hc with rfl|hc
    . rw [hfree] at e;cases e
    . rw [hfree] at hc;cases hc
  rcases hx with hk|hk
  . refine wpAny_storeName_local hk hn (λh' hn' hs => ?_) hcls
    obtain ⟨oL,_,_,hoL,_⟩:=id hn
    refine h _ ⟨I.ok,I.os,I.bare,⟨λb o e n hb hx=>?_,λb o e n hb hx=>?_,I.base.free,λb o e hx=>?_,I.base.tups,I.base.frzs,I.base.tbls⟩,⟨_,hn',λj y v' e1 e2 e3=>?_⟩,λy c e=>?_,I.free,I.freeC,λp hp=>?_,tracked ⟨oL,hoL,I.free⟩ hs,by simpa using I.len⟩ ⟨_,hs,.inl rfl⟩
    . exact (hs.2 b (aS (aO (aF e) I.ok.above))).trans (I.base.keep b o e n hb hx)
    . obtain ⟨sl, e1⟩ := I.base.slot b o e n hb hx
      exact ⟨sl,(hs.2 b (aS (aO (aF e) I.ok.above))).trans e1⟩
    . obtain ⟨o', e1⟩ := I.base.there b o e hx
      exact ⟨o',(hs.2 b (aS (aO (aF e) I.ok.above))).trans e1⟩
    . by_cases hj : j = i
      . subst hj
        rw [hi] at e1;cases e1
        rw [cf hiσ] at e2
        cases e2
        exact ⟨u,r,.inl ⟨hk,by simp⟩⟩
      . rw [bM (Ne.symm hj)] at e2
        obtain ⟨u',r',q⟩:=hl j y v' e1 e2 e3
        refine ⟨u',r',?_⟩
        rcases q with ⟨k,e⟩|⟨k,c,e,z⟩
        . refine .inl ⟨k, ?_⟩
          have:y≠x:=λe=>hj (zl3 hN e1 (e ▸ hi))
          simp [this,e]
        . exact .inr ⟨k,c,e,z.sameBut hs (cne y c e)⟩
    . obtain ⟨w', z⟩ := I.cell y c e
      exact ⟨w',z.sameBut hs (cne y c e)⟩
    . obtain ⟨e, n, ne, nf, d⟩ := I.pin p hp
      exact ⟨(hs.2 p.1 ne).trans e,n,ne,nf,d⟩
  . have hfn:X.fn x=true:=by
      rcases hf with z|z
      . exact z
      . rw [z] at hk;cases hk
    obtain ⟨c,hc⟩:=I.ok.has x (.inl hk)
    obtain ⟨w',z⟩:=I.cell x c hc
    refine wpAny_storeName_cell I.ok.kind hk hc z (λh' hc' hs=>?_)
    obtain ⟨oc,hoc,hocd⟩:=id z
    refine h { s with heap:=h' } ⟨I.ok,I.os,I.bare,⟨λb o e n hb hx=>?_,λb o e n hb hx=>?_,I.base.free,λb o e hx=>?_,I.base.tups,I.base.frzs,I.base.tbls⟩,⟨m,hn.sameBut hs (Ne.symm (cne x c hc)),λj y v' e1 e2 e3=>?_⟩,λy c' e=>?_,I.free,I.freeC,λp hp=>?_,tracked ⟨oc,hoc,I.freeC x c hc⟩ hs,by simpa using I.len⟩ ⟨c,hs,.inr hc⟩
    . exact (hs.2 b (aS (aO (aF e) (I.ok.cab x c hfn hc)))).trans (I.base.keep b o e n hb hx)
    . obtain ⟨sl, e1⟩ := I.base.slot b o e n hb hx
      exact ⟨sl,(hs.2 b (aS (aO (aF e) (I.ok.cab x c hfn hc)))).trans e1⟩
    . obtain ⟨o', e1⟩ := I.base.there b o e hx
      exact ⟨o',(hs.2 b (aS (aO (aF e) (I.ok.cab x c hfn hc)))).trans e1⟩
    . by_cases hj : j = i
      . subst hj
        rw [hi] at e1;cases e1
        rw [cf hiσ] at e2
        cases e2
        exact ⟨u,r,.inr ⟨.inl hk,c,hc,hc'⟩⟩
      . rw [bM (Ne.symm hj)] at e2
        obtain ⟨u',r',q⟩:=hl j y v' e1 e2 e3
        refine ⟨u',r',?_⟩
        rcases q with q|⟨k,c',e,z'⟩
        . exact .inl q
        . refine .inr ⟨k, c', e, z'.sameBut hs ?_⟩
          rintro rfl
          exact hj (zl3 hN e1 (I.ok.inj _ _ _ e hc ▸ hi))
    . by_cases hcc : c' = c
      . subst hcc;exact ⟨_,hc'⟩
      . obtain ⟨w2, z2⟩ := I.cell y c' e
        exact ⟨w2,z2.sameBut hs hcc⟩
    . obtain ⟨e, n, ne, nf, d⟩ := I.pin p hp
      refine ⟨(hs.2 p.1 ?_).trans e,n,ne,nf,d⟩
      intro q
      rw [q,hoc] at e
      have q':oc=p.2:=Option.some.inj e
      exact d w' (by rw [←q'];exact hocd)
theorem zd4 {M : Model}{A : Around}{E : Value -> Shared -> Prop}{i : Nat}{x : Str}{v : V}{u : Value}{Q : Unit -> Shared -> Prop}(I : Inv X pins σ H s)(hN : X.N.Nodup)(hi : X.N[i]? = some x)(hx : Loc X.env.scope x)(r : o6 v u)
    (h:∀s',Inv X pins (σ.set i (some v)) H s'->Q () s') (hf:X.fn x=true∨X.env.scope.names.lookup x=some .local:=by first|exact .inl rfl|exact .inr rfl|assumption):wpAny M A (storeName X.env x u) Q E s :=
  D5 I hN hi hx r (λs' I' _=>h s' I') hf
theorem Inv.call' {s' : Shared}{ch : List Addr}(I : Inv X pins σ H s)(ho : s'.os = s.os)(u : Un (frs X.stack) ch H H' s.heap s'.heap)(hok : HOk X.prog X.w H' s'.heap)(hg : AllBare s'.gens)
    (hch:∀b∈ch,(b∈X.ex∨X.s₀.heap.objs.size<=b)/\b≠X.env.locals/\(∀x c,X.env.cells.lookup x=some c->c≠b)/\∀p∈X.pn++pins,p.1≠b):Inv X pins σ H' s':=by
  obtain ⟨h',g',d',t',o'⟩:=s'
  have e:o'=s.os:=ho
  subst e
  exact I.call (g':=g') (t':=t') (d':=d') u hok hg hch
end
abbrev XK:=Value->Option Addr->Hp->Prop
abbrev St:=List (Option V)
abbrev VK:=V->Hp->Prop
abbrev TE:=St->Hp->VK->Prop
abbrev TT:=St->Hp->(Bool->Hp->Prop)->Prop
abbrev TA:=St->Hp->(List V->Hp->Prop)->Prop
structure J3 where
  nx:St->Hp->Prop
  rt:VK
  bk:St->Hp->Prop:=λ_ _=>False
  ct:St->Hp->Prop:=λ_ _=>False
abbrev TS:=J3->St->Hp->Prop
def EP (X:Cx)(pins:List (Addr×Obj))(σ:St)(Q:VK)(u:Value)(s':Shared):Prop:=∃v H',Inv X pins σ H' s'/\o6 v u/\Q v H'
def TP (X:Cx)(pins:List (Addr×Obj))(σ:St)(Q:Bool->Hp->Prop)(b:Bool)(s':Shared):Prop:=∃H',Inv X pins σ H' s'/\Q b H'
def AP (X:Cx)(pins:List (Addr×Obj))(σ:St)(Q:List V->Hp->Prop)(us:List Value)(s':Shared):Prop:=∃vs H',Inv X pins σ H' s'/\p9 vs us/\Q vs H'
def SP (X:Cx)(pins:List (Addr×Obj))(D:J3)(f:Flow)(s':Shared):Prop :=
  match f with
  | .next=>∃σ' H',Inv X pins σ' H' s'/\D.nx σ' H'
  | .brk=>∃σ' H',Inv X pins σ' H' s'/\D.bk σ' H'
  | .cont=>∃σ' H',Inv X pins σ' H' s'/\D.ct σ' H'
  | .ret u=>∃v σ' H',Inv X pins σ' H' s'/\o6 v u/\D.rt v H'
def PE (X:Cx)(e:Expr)(t:TE):Prop :=
  ∀(pins:List (Addr×Obj)) (s:Shared) (σ:St) (H:Hp) (Q:VK),Inv X pins σ H s->t σ H Q->wpAny (model X.prog X.w) X.A (eval e X.env) (EP X pins σ Q) X.xe s
def PT (X:Cx)(e:Expr)(t:TT):Prop :=
  ∀(pins:List (Addr×Obj)) (s:Shared) (σ:St) (H:Hp) (Q:Bool->Hp->Prop),Inv X pins σ H s->t σ H Q->wpAny (model X.prog X.w) X.A (isTrue e X.env (eval e X.env)) (TP X pins σ Q) X.xe s
def PW (X:Cx)(e:Expr)(t:TT):Prop :=
  ∀(whole:Sem Value) (pins:List (Addr×Obj)) (s:Shared) (σ:St) (H:Hp) (Q:Bool->Hp->Prop),Inv X pins σ H s->t σ H Q->wpAny (model X.prog X.w) X.A (isTrue e X.env whole) (TP X pins σ Q) X.xe s
theorem PW.pt {X:Cx}{e:Expr}{t:TT}(h:PW X e t):PT X e t:=h _
def PA (X:Cx)(es:List Expr)(t:TA):Prop :=
  ∀(pos:Pos) (pins:List (Addr×Obj)) (s:Shared) (σ:St) (H:Hp) (Q:List V->Hp->Prop),Inv X pins σ H s->t σ H Q->wpAny (model X.prog X.w) X.A (spliced (backTo pos (starEach es X.env))) (AP X pins σ Q) X.xe s
def PS (X:Cx)(st:Stmt)(t:TS):Prop :=
  ∀(pins:List (Addr×Obj)) (s:Shared) (σ:St) (H:Hp) (D:J3),Inv X pins σ H s->t D σ H->wpAny (model X.prog X.w) X.A (exec st X.env) (SP X pins D) X.xe s
def PSs (X:Cx)(st:List Stmt)(t:TS):Prop :=
  ∀(pins:List (Addr×Obj)) (s:Shared) (σ:St) (H:Hp) (D:J3),Inv X pins σ H s->t D σ H->wpAny (model X.prog X.w) X.A (execs st X.env) (SP X pins D) X.xe s
theorem thn {α:Type}{t:Sem α}{Q Q':α->Shared->Prop}{M:Model}{A:Around}{E:Value->Shared->Prop}{s:Shared}(h:wpAny M A t Q E s)(hQ:∀a s,Q a s->Q' a s):wpAny M A t Q' E s:=wpAny_mono h hQ λ_ _ x=>x
section
variable {X:Cx}
def xr1 (i:Nat):TE:=λσ H Q=>∃v,σ[i]?=some (some v)/\Q v H
def tC (v:V):TE:=λ_ H Q=>Q v H
theorem xm0 {i:Nat}{x:Str}{pos:Pos}(hN:X.N[i]?=some x)(hv:Vis X.env.scope x)(hd:(x==("__debug__":Str))=false:=by decide) (hcd:(x==("__classdict__":Str))=false:=by decide):PE X (.Name x pos) (xr1 i):=by
  intro pins s σ H Q I h
  obtain ⟨v,e,h⟩:=h
  obtain ⟨m,hn,hl⟩:=I.loc
  obtain ⟨u,r,l⟩:=hl i x v hN e hv
  have fin:EP X pins σ Q u s:=⟨v,H,I,r,h⟩
  rcases l with ⟨hk,hm⟩|⟨hk,c,hc,hcell⟩
  . exact wpAny_Name (wpAny_loadName_local I.ok.kind hk hn hm fin) hd
  . rcases hk with hk|hk
    . exact wpAny_Name (wpAny_loadName_cell I.ok.kind hk hc hcell fin) hd
    . exact wpAny_Name (wpAny_loadName_free I.ok.kind hk hc hcell fin hcd) hd
theorem z8 {i j pos}:PE X (.Constant (.int i) j pos) (tC (.int i)):=λ_ _ _ H _ I h=>wpAny_Constant_int ⟨.int i,H,I.tok _,⟨_,rfl⟩,h⟩
theorem X6 {b j pos}:PE X (.Constant (.bool b) j pos) (tC (.bl b)):=λ_ _ _ H _ I h=>Constant_bool ⟨.bl b,H,I,rfl,h⟩
theorem yi3 {j pos}:PE X (.Constant .none j pos) (tC .non):=λ_ _ _ H _ I h=>Constant_none ⟨.non,H,I,rfl,h⟩
theorem zm3 {x j pos}:PE X (.Constant (.str x) j pos) (tC (.str x)):=λ_ _ _ H _ I h=>Calls.Constant_str ⟨.str x,H,I.tok _,⟨_,rfl⟩,h⟩
def Gl (X:Cx)(x:Str):Prop:=X.env.kindOf x=some .globalImplicit
theorem za7 {E : Value -> Shared -> Prop}{pins : List (Addr×Obj)}{s : Shared}{σ : St}{H : Hp}{x : Str}{u : Value}{pos : Pos}{Q : Value -> Shared -> Prop}(I : Inv X pins σ H s)(hg : Gl X x)(hm : X.mg x = some u)(h : Q u s)
    (hd:(x==("__debug__":Str))=false:=by decide):wpAny (model X.prog X.w) X.A (eval (.Name x pos) X.env) Q E s :=
  Calls.Name_function_global I.ok.kind hg (Calls.loadGlobal_global (by rw [I.ok.glob];exact I.mod.glob.keeps I.bk) hm h) hd
theorem G3 {E : Value -> Shared -> Prop}{pins : List (Addr×Obj)}{s : Shared}{σ : St}{H : Hp}{x : Str}{u : Value}{pos : Pos}{Q : Value -> Shared -> Prop}(I : Inv X pins σ H s)(hg : Gl X x)(hm : X.mg x = none)(hv : bootBuiltins x = some u)(h : Q u s)
    (hn:x≠"__name__":=by decide) (hd:(x==("__debug__":Str))=false:=by decide):wpAny (model X.prog X.w) X.A (eval (.Name x pos) X.env) Q E s:=by
  obtain ⟨mb,h1,h2⟩:=I.mod.blt
  exact Calls.Name_function_global I.ok.kind hg (Calls.loadGlobal_builtin (by rw [I.ok.glob];exact I.mod.glob.keeps I.bk) hm (by rw [I.ok.blt];exact h1.keeps I.bk) ((h2 x hn).trans hv) h) hd
theorem ym5 {x:Str}{v:V}{u:Value}{pos:Pos}(hg:Gl X x)(hm:X.mg x=some u)(r:o6 v u)(hd:(x==("__debug__":Str))=false:=by decide):PE X (.Name x pos) (tC v) :=
  λ_ _ _ H _ I h=>za7 I hg hm ⟨v,H,I,r,h⟩ hd
theorem O4 {x:Str}{v:V}{u:Value}{pos:Pos}(hg:Gl X x)(hm:X.mg x=none)(hv:bootBuiltins x=some u)(r:o6 v u)(hn:x≠"__name__":=by decide) (hd:(x==("__debug__":Str))=false:=by decide):PE X (.Name x pos) (tC v) :=
  λ_ _ _ H _ I h=>G3 I hg hm hv ⟨v,H,I,r,h⟩ hn hd
variable {a b:Expr}{ta tb:TE}{pos:Pos}
def PC (X:Cx)(op:CmpOp)(a b:Expr)(t:TE):Prop :=
  ∀(pins:List (Addr×Obj)) (s:Shared) (σ:St) (H:Hp) (Q:VK),Inv X pins σ H s->t σ H Q ->
    wpAny (model X.prog X.w) X.A (eval a X.env) (λv s₁=>wpAny (model X.prog X.w) X.A (eval b X.env) (λu s₂=>wpAny (model X.prog X.w) X.A (compareOp op v u) (EP X pins σ Q) X.xe s₂) X.xe s₁) X.xe s
theorem yy0 (b:Expr){op:CmpOp}(h:op≠.In)(h2:op≠.NotIn):behindInMarks op b=false:=by
  have e1:(op==CmpOp.In)=false:=by cases op <;> first|rfl|exact absurd rfl h
  have e2:(op==CmpOp.NotIn)=false:=by cases op <;> first|rfl|exact absurd rfl h2
  cases b <;> simp [behindInMarks,e1,e2]
def xt5 (ta:TE):TE:=λσ H Q=>ta σ H λx H1=>Q (.bl (decide (x=.non))) H1
theorem o6.none_iff {x:V}{v:Value}(r:o6 x v):(v==Value.none)=decide (x=.non):=by
  cases x with
  | non=>cases r;rfl
  | bl _=>cases r;rfl
  | int _=>obtain ⟨t,rfl⟩:=r;rfl
  | str _=>obtain ⟨t,rfl⟩:=r;rfl
  | byt _=>obtain ⟨t,rfl⟩:=r;rfl
  | flt _=>obtain ⟨t,rfl⟩:=r;rfl
  | ref _=>cases r;rfl
  | ty _=>cases r;rfl
theorem xl8 {j pos'}(ha:PE X a ta):PC X .Is a (.Constant .none j pos') (xt5 ta):=by
  intro pins s σ H Q I h
  refine thn (ha pins s σ H _ I h) λv s1 ⟨x,H1,I1,r1,q1⟩=>?_
  exact Constant_none (is_none_gen ⟨.bl _,H1,I1,by rw [r1.none_iff];rfl,q1⟩)
def tB (t:TE):TT:=λσ H Q=>t σ H λx H1=>∃c,x=.bl c/\Q c H1
theorem zm7 {op:CmpOp}{t:TE}(h:PC X op a b t)(h1:behindInMarks op b=false:=by first|exact yy0 _ (by decide) (by decide)|rfl):PT X (.Compare a [op] [b] pos) (tB t):=by
  intro pins s σ H Q I hw
  refine wpAny_isTrue_Compare1 (thn (h pins s σ H _ I hw) λv s1 h1=>thn h1 λu s2 h2=>thn h2 λc s3 ⟨x,H1,I1,r1,q1⟩=>?_) h1
  obtain ⟨d,rfl,q⟩:=q1
  cases r1
  exact wpAny_truthy_bool ⟨H1,I1,q⟩
theorem Y1 {e:Expr}{t:TE}(h:PE X e t)(he:∀whole,isTrue e X.env whole=(do let v ←whole;standAt e.pos;holding [v] (truthy v)):=by intro _;rfl):PT X e (tB t):=by
  intro pins s σ H Q I hw
  refine isTrue_plain (thn (h pins s σ H _ I hw) λv s1 ⟨x,H1,I1,r1,q1⟩=>?_) (he _)
  obtain ⟨d,rfl,q⟩:=q1
  cases r1
  exact wpAny_truthy_bool ⟨H1,I1,q⟩
variable {tA tB':TT}{X3:List Expr}
def tOr (t u:TT):TT:=λσ H Q=>t σ H λc H1=>if c=true then Q true H1 else u σ H1 Q
def xt7 (t:TT):TT:=λσ H Q=>t σ H λc H1=>Q (!c) H1
theorem N1 (ha:PT X a tA):PW X (.BoolOp .Or [a] pos) tA:=by
  intro wh pins s σ H Q I h
  refine isTrue_or (thn (ha pins s σ H Q I h) λc s1 e=>?_)
  cases c with
  | false=>exact isTrue_or_nil e
  | true=>exact e
theorem J2 (ha:PT X a tA)(hb:PW X (.BoolOp .Or (b::X3) pos) tB'):PW X (.BoolOp .Or (a::b::X3) pos) (tOr tA tB'):=by
  intro wh pins s σ H Q I h
  refine isTrue_or (thn (ha pins s σ H _ I h) λc s1 ⟨H1,I1,q1⟩=>?_)
  cases c with
  | true=>exact ⟨H1,I1,q1⟩
  | false=>exact hb wh pins s1 σ H1 Q I1 q1
theorem Y0 (ha:PT X a tA):PT X (.UnaryOp .Not a pos) (xt7 tA):=by
  intro pins s σ H Q I h
  exact isTrue_not (ha pins s σ H (λc H1=>Q (!c) H1) I h)
def xq2 (ta tb:TE):TE:=λσ H Q=>ta σ H λx H1=>∃c,x=.bl c/\if c=true then tb σ H1 Q else Q (.bl false) H1
def xq8 (ta:TE):TE:=λσ H Q=>ta σ H λx H1=>∃c,x=.bl c/\Q (.bl (!c)) H1
theorem G7 {op}{t:TE}(h:PE X a t):PE X (.BoolOp op [a] pos) t:=λpins s σ H Q I hw=>BoolOp_one (h pins s σ H Q I hw)
theorem L3 (ha:PE X a ta)(hb:PE X (.BoolOp .And (b::X3) pos) tb):PE X (.BoolOp .And (a::b::X3) pos) (xq2 ta tb):=by
  intro pins s σ H Q I h
  refine BoolOp_and (thn (ha pins s σ H _ I h) λv s1 ⟨x,H1,I1,r1,q1⟩=>?_)
  obtain ⟨c,rfl,q1⟩:=q1
  cases r1
  refine wpAny_truthy_bool ?_
  cases c with
  | true=>exact hb pins s1 σ H1 Q I1 q1
  | false=>exact ⟨.bl false,H1,I1,rfl,q1⟩
theorem yy8 (ha:PE X a ta):PE X (.UnaryOp .Not a pos) (xq8 ta):=by
  intro pins s σ H Q I h
  refine UnaryOp_ (thn (ha pins s σ H _ I h) λv s1 ⟨x,H1,I1,r1,q1⟩=>?_)
  obtain ⟨c,rfl,q1⟩:=q1
  cases r1
  exact not_of (wpAny_truthy_bool ⟨.bl (!c),H1,I1,rfl,q1⟩)
end
def SqL (K:W.Frag)(H:Hp)(a:Addr)(xs:List V):Prop :=
  Rd H a (.lst xs) ∨
    ∃(o:Obj) (its:Array Value) (n:Nat),K.lookup a=some o/\o.cls=.type "list"/\o.dict=none/\o.data=.seq its n/\its.size<=sizeLine/\p9 xs its.toList
def SqT (K:W.Frag)(H:Hp)(a:Addr)(xs:List V):Prop :=
  Rd H a (.tup xs) ∨
    ∃(o:Obj) (its:Array Value) (n:Nat),K.lookup a=some o/\o.cls=.type "tuple"/\o.data=.seq its n/\its.size<=sizeLine/\p9 xs its.toList
def xr7 : Value -> Option V
  | .none=>some .non
  | .bool b=>some (.bl b)
  | .int i _=>some (.int i)
  | .str x _=>some (.str x)
  | .bytes b _=>some (.byt b)
  | .float b _=>some (.flt b)
  | .ref a=>some (.ref a)
  | .type n=>some (.ty n)
  | _=>none
theorem o6.abs {x:V}{u:Value}(r:o6 x u):xr7 u=some x:=by
  cases x with
  | non=>cases r;rfl
  | bl _=>cases r;rfl
  | int _=>obtain ⟨t,rfl⟩:=r;rfl
  | str _=>obtain ⟨t,rfl⟩:=r;rfl
  | byt _=>obtain ⟨t,rfl⟩:=r;rfl
  | flt _=>obtain ⟨t,rfl⟩:=r;rfl
  | ref _=>cases r;rfl
  | ty _=>cases r;rfl
theorem o6.inj {x y:V}{u:Value}(r:o6 x u)(q:o6 y u):x=y:=Option.some.inj (r.abs.symm.trans q.abs)
theorem p9.inj : ∀{xs ys : List V} {us : List Value}, p9 xs us -> p9 ys us -> xs = ys
  | _,_,_,.nil,.nil=>rfl
  | _,_,_,.cons r t,.cons r' t'=>by rw [r.inj r',p9.inj t t']
section
variable {X:Cx}{pins:List (Addr×Obj)}{σ:St}{H:Hp}{s:Shared}{a:Addr}{xs ys:List V}
theorem SqL.of {K:W.Frag}(h:H a=some (.lst xs)):SqL K H a xs:=.inl (.inl h)
theorem SqT.of {K:W.Frag}(h:H a=some (.tup xs)):SqT K H a xs:=.inl (.inl h)
theorem Inv.list (I:Inv X pins σ H s)(h:SqL X.K H a xs):∃its:List Value,p9 xs its/\PlainL s.heap a its.toArray/\xs.length<=sizeLine:=by
  rcases h with h|⟨o,its,n,hk,hc,hd,hs,hz,r⟩
  . obtain ⟨z, its, n, r, e⟩ := h.ok I.hok
    exact ⟨its,r,⟨_,n,e,rfl,rfl,rfl⟩,z⟩
  . refine ⟨its.toList, r, ⟨o, n, I.kIn a o hk, hc, hd, by simpa using hs⟩, ?_⟩
    have e:=r.length
    simp only [aW] at e
    omega
theorem Inv.tuple (I:Inv X pins σ H s)(h:SqT X.K H a xs):∃its:List Value,p9 xs its/\IsTup s.heap a its.toArray/\xs.length<=sizeLine:=by
  rcases h with h|⟨o,its,n,hk,hc,hs,hz,r⟩
  . obtain ⟨z, its, r, p⟩ := h.ok I.hok
    exact ⟨its,r,p.is,z⟩
  . refine ⟨its.toList, r, ⟨o, I.kIn a o hk, hc, n, by simpa using hs⟩, ?_⟩
    have e:=r.length
    simp only [aW] at e
    omega
theorem Inv.list_inj (I:Inv X pins σ H s)(h:SqL X.K H a xs)(h':SqL X.K H a ys):xs=ys:=by
  obtain ⟨its,r,⟨o,n,e,_,_,d⟩,_⟩:=I.list h
  obtain ⟨its',r',⟨o',n',e',_,_,d'⟩,_⟩:=I.list h'
  rw [e] at e';cases e'
  rw [d] at d'
  injection d' with d1 _
  have:its=its':=by simpa using congrArg Array.toList d1
  subst this
  exact r.inj r'
theorem Inv.tuple_inj (I:Inv X pins σ H s)(h:SqT X.K H a xs)(h':SqT X.K H a ys):xs=ys:=by
  obtain ⟨its,r,⟨o,e,_,n,d⟩,_⟩:=I.tuple h
  obtain ⟨its',r',⟨o',e',_,n',d'⟩,_⟩:=I.tuple h'
  rw [e] at e';cases e'
  rw [d] at d'
  injection d' with d1 _
  have:its=its':=by simpa using congrArg Array.toList d1
  subst this
  exact r.inj r'
end
abbrev Cx.wish (X:Cx) (E:Value->Shared->Prop):Cx:={ X with xe:=E }
abbrev Cx.nox (X:Cx):Cx:=X.wish λ_ _=>False
theorem Cx.Ok.wish {X:Cx}(ok:X.Ok)(E:Value->Shared->Prop):(X.wish E).Ok :=
  ⟨ok.mod,ok.kind,ok.glob,ok.blt,ok.above,ok.inj,ok.has,ok.cab,ok.hd,ok.frames,ok.stk,ok.exf,ok.bs,ok.bsz,ok.noex,ok.exfs,ok.funs,ok.frf⟩
theorem Cx.Ok.unwish {X:Cx}{E:Value->Shared->Prop}(ok:(X.wish E).Ok):X.Ok :=
  ⟨ok.mod,ok.kind,ok.glob,ok.blt,ok.above,ok.inj,ok.has,ok.cab,ok.hd,ok.frames,ok.stk,ok.exf,ok.bs,ok.bsz,ok.noex,ok.exfs,ok.funs,ok.frf⟩
section
variable {X:Cx}{pins:List (Addr×Obj)}{σ:St}{H:Hp}{s:Shared}{E:Value->Shared->Prop}
theorem Inv.wish (I:Inv X pins σ H s)(E:Value->Shared->Prop):Inv (X.wish E) pins σ H s:=⟨I.ok.wish E,I.os,I.bare,I.base,I.loc,I.cell,I.free,I.freeC,I.pin,I.hok,I.len⟩
theorem Inv.unwish (I:Inv (X.wish E) pins σ H s):Inv X pins σ H s:=⟨I.ok.unwish,I.os,I.bare,I.base,I.loc,I.cell,I.free,I.freeC,I.pin,I.hok,I.len⟩
theorem SP.unwish {D:J3}{f:Flow}{s':Shared}(h:SP (X.wish E) pins D f s'):SP X pins D f s':=by
  cases f with
  | next=>obtain ⟨σ',H',I,q⟩:=h;exact ⟨σ',H',I.unwish,q⟩
  | brk=>obtain ⟨σ',H',I,q⟩:=h;exact ⟨σ',H',I.unwish,q⟩
  | cont=>obtain ⟨σ',H',I,q⟩:=h;exact ⟨σ',H',I.unwish,q⟩
  | ret u=>obtain ⟨v,σ',H',I,r,q⟩:=h;exact ⟨v,σ',H',I.unwish,r,q⟩
theorem PSs.nox {st:List Stmt}{t:TS}(h:PSs X.nox st t):PSs X st t:=λpins s σ H D I hw =>
  wpAny_mono (h pins s σ H D (I.wish _) hw) (λ_ _ q=>q.unwish) λ_ _ z=>False.elim z
end
section
variable {X:Cx}{st:Stmt}{X3:List Stmt}{t u:TS}{e:Expr}{te:TE}{pos:Pos}
def xq7:TS:=λD σ H=>D.nx σ H
def xb4 (t u:TS):TS:=λD σ H=>t { D with nx:=u D } σ H
theorem u8:PSs X [] xq7:=λ_ _ σ H _ I h=>wpAny_execs_nil ⟨σ,H,I,h⟩
theorem z6 (h1:PS X st t)(h2:PSs X X3 u):PSs X (st::X3) (xb4 t u):=by
  intro pins s σ H D I h
  refine wpAny_execs_cons (thn (h1 pins s σ H { D with nx:=u D } I h) λf s1 q=>?_)
  cases f with
  | next =>
    obtain ⟨σ',H',I',q⟩:=q
    exact h2 pins s1 σ' H' D I' q
  | ret v=>exact q
  | brk=>exact q
  | cont=>exact q
theorem z9 (h1:PS X st t):PSs X [st] t:=by
  intro pins s σ H D I h
  refine wpAny_execs_cons (thn (h1 pins s σ H D I h) λf s1 q=>?_)
  cases f with
  | next=>exact wpAny_execs_nil q
  | ret v=>exact q
  | brk=>exact q
  | cont=>exact q
theorem Inv.quiet {pins:List (Addr×Obj)}{σ:St}{H:Hp}{s:Shared}(I:Inv X pins σ H s):interactive X.env=false:=by simp [interactive,I.ok.kind]
def xq6 (te:TE):TS:=λD σ H=>te σ H λ_ H1=>D.nx σ H1
theorem h9 (he:PE X e te)(hs:swapsWith e none pos.line X.env=pure false:=by rfl):PS X (.Expr e pos) (xq6 te):=by
  intro pins s σ H D I h
  exact wpAny_Expr_any (thn (he pins s σ H _ I h) λv s1 ⟨x,H1,I1,r1,q1⟩=>⟨σ,H1,I1,q1⟩) I.quiet hs
def xt8 (te:TE):TS:=λD σ H=>te σ H D.rt
theorem v7 (he:PE X e te):PS X (.Return (some e) pos) (xt8 te):=by
  intro pins s σ H D I h
  exact wpAny_Return_some (thn (he pins s σ H _ I h) λv s1 ⟨x,H1,I1,r1,q1⟩=>⟨x,σ,H1,I1,r1,q1⟩)
def xt4 (c:TT)(t u:TS):TS:=λD σ H=>c σ H λb H1=>if b=true then t D σ H1 else u D σ H1
theorem k8 {c:Expr}{a b:List Stmt}{tc:TT}(hc:PT X c tc)(ha:PSs X a t)(hb:PSs X b u):PS X (.If c a b pos) (xt4 tc t u):=by
  intro pins s σ H D I h
  refine wpAny_If (thn (hc pins s σ H _ I h) λd s1 ⟨H1,I1,q1⟩=>?_)
  cases d with
  | true=>exact ha pins s1 σ H1 D I1 q1
  | false=>exact hb pins s1 σ H1 D I1 q1
def xn0:TS:=λ_ _ _=>False
theorem G9:PS X st xn0:=λ_ _ _ _ _ _ h=>h.elim
end
abbrev TG:=V->St->Hp->(St->Hp->Prop)->Prop
abbrev TGs:=List V->St->Hp->(St->Hp->Prop)->Prop
def PG (X:Cx)(target:Expr)(t:TG):Prop :=
  ∀(pins:List (Addr×Obj)) (s:Shared) (σ:St) (H:Hp) (v:V) (u:Value) (Q:St->Hp->Prop),Inv X pins σ H s->o6 v u->t v σ H Q ->
    wpAny (model X.prog X.w) X.A (assign target X.env u) (λ_ s'=>∃σ' H',Inv X pins σ' H' s'/\Q σ' H') X.xe s
def PGs (X:Cx)(ts:List Expr)(t:TGs):Prop :=
  ∀(pins:List (Addr×Obj)) (s:Shared) (σ:St) (H:Hp) (vs:List V) (us:List Value) (Q:St->Hp->Prop),Inv X pins σ H s->p9 vs us->t vs σ H Q ->
    wpAny (model X.prog X.w) X.A (assignInOrder ((assignEach ts X.env).map (·.2)) us) (λ_ s'=>∃σ' H',Inv X pins σ' H' s'/\Q σ' H') X.xe s
abbrev xi9:=V->V->V->Hp->(Hp->Prop)->Prop
def xn5 (X:Cx)(t:xi9):Prop :=
  ∀(pins:List (Addr×Obj)) (s:Shared) (σ:St) (H:Hp) (o i v:V) (ov iv u:Value) (Q:Hp->Prop),Inv X pins σ H s->o6 o ov->o6 i iv->o6 v u->t o i v H Q ->
    wpAny (model X.prog X.w) X.A (setItem ov iv u) (λ_ s'=>∃H',Inv X pins σ H' s'/\Q H') X.xe s
abbrev TIp:=V->V->Hp->VK->Prop
def PIp (X:Cx)(op:Operator)(t:TIp):Prop :=
  ∀(pins:List (Addr×Obj)) (s:Shared) (σ:St) (H:Hp) (x y:V) (v u:Value) (Q:VK),Inv X pins σ H s->o6 x v->o6 y u->t x y H Q ->
    wpAny (model X.prog X.w) X.A (inplaceOp op v u) (EP X pins σ Q) X.xe s
section
variable {X:Cx}{pos:Pos}
def p3 (i:Nat):TG:=λv σ H Q=>Q (σ.set i (some v)) H
theorem m7 {i:Nat}{x:Str}(hN:X.N.Nodup)(hi:X.N[i]?=some x)(hx:Loc X.env.scope x)(hf:X.fn x=true∨X.env.scope.names.lookup x=some .local:=by first|exact .inl rfl|exact .inr rfl|assumption):PG X (.Name x pos) (p3 i):=by
  intro pins s σ H v u Q I r h
  exact wpAny_assign_Name (zd4 I hN hi hx r (λs' I'=>⟨_,H,I',h⟩) hf)
def xr9:TGs:=λvs σ H Q=>vs=[]/\Q σ H
def xo0 (t:TG)(u:TGs):TGs:=λvs σ H Q=>∃v r,vs=v::r/\t v σ H λσ' H'=>u r σ' H' Q
theorem zi1:PGs X [] xr9:=by
  intro pins s σ H vs us Q I r h
  obtain ⟨e,h⟩:=h
  subst e
  cases r
  exact assignInOrder_nil ⟨σ,H,I,h⟩
theorem V7 {e : Expr}{es : List Expr}{t : TG}{u : TGs}(h1 : PG X e t)(h2 : PGs X es u)
    (hs:(assignEach (e::es) X.env).map (·.2)=assign e X.env::(assignEach es X.env).map (·.2):=by rfl):PGs X (e::es) (xo0 t u):=by
  intro pins s σ H vs us Q I r h
  obtain ⟨v,vr,e1,h⟩:=h
  subst e1
  cases r with
  | cons r rr =>
    rw [hs]
    refine assignInOrder_cons (thn (h1 pins s σ H _ _ _ I r h) λ_ s1 ⟨σ1,H1,I1,q1⟩=>?_)
    exact h2 pins s1 σ1 H1 _ _ Q I1 rr q1
def xs1 (K:W.Frag)(n:Nat)(t:TGs):TG:=λv σ H Q=>∃a xs,v=.ref a/\SqT K H a xs/\xs.length=n/\t xs σ H Q
theorem yi4 {es : List Expr}{k : Nat}{t : TGs}{n : Nat}(hc : X.calm = true)(h : PGs X es t)
    (hn:(assignEach es X.env).length=n:=by rfl) (hst:(assignEach es X.env).findIdx? (·.1)=none:=by rfl):PG X (.Tuple es k pos) (xs1 X.K n t):=by
  intro pins s σ H v u Q I r hw
  obtain ⟨a,xs,e1,hq,hl,hw⟩:=hw
  subst e1
  cases r
  obtain ⟨its,rv,ht,hz⟩:=I.tuple hq
  refine assign_Tuple_tuple (I.ok.hd hc) ht (by simp [hn,←hl,rv.length]) hst λh' hx=>?_
  have I1:Inv X pins σ H { s with heap:=h' }:=I.kept (t':=s.toks) λb o e=>hx b o (aS (aF e)) e
  exact h pins _ σ H xs _ Q I1 (by simpa using rv) hw
def xs0 (to ti:TE)(t:xi9):TG:=λv σ H Q=>to σ H λo H1=>ti σ H1 λi H2=>t o i v H2 λH3=>Q σ H3
theorem zv9 {o i : Expr}{to ti : TE}{t : xi9}(ho : PE X o to)(hi : PE X i ti)(hs : xn5 X t)
    (ha : ∀v, assign (.Subscript o i pos) X.env v = (do
      let ov ←holding [v] (eval o X.env)
      let iv ←holding [v,ov] (eval i X.env)
      standAt pos
      holding [v,ov,iv] (setItem ov iv v)
      release [v,ov,iv] []):=by intro _;rfl):PG X (.Subscript o i pos) (xs0 to ti t):=by
  intro pins s σ H v u Q I r h
  rw [ha]
  refine wpAny_bind (wpAny_holding (thn (ho pins s σ H _ I h) λov s1 ⟨x,H1,I1,r1,q1⟩=>?_))
  refine wpAny_bind (wpAny_holding (thn (hi pins s1 σ H1 _ I1 q1) λiv s2 ⟨y,H2,I2,r2,q2⟩=>?_))
  refine wpAny_bind (wpAny_standAt (wpAny_bind (wpAny_holding (thn (hs pins s2 σ H2 x y v ov iv u _ I2 r1 r2 r q2) λ_ s3 ⟨H3,I3,q3⟩=>?_))))
  exact wpAny_release ⟨σ,H3,I3,q3⟩
def yk0 (te:TE)(g:TG):TS:=λD σ H=>te σ H λx H1=>g x σ H1 D.nx
theorem zw5 {tg e : Expr}{te : TE}{g : TG}(he : PE X e te)(hg : PG X tg g)(hs : swapsWithSole [tg] e pos.line X.env = pure false := by rfl)(hw : swappedStores [tg] e X.env = pure none := by rfl)
    (h1:(assignEach [tg] X.env).map (·.2)=[assign tg X.env]:=by rfl):PS X (.Assign [tg] e pos) (yk0 te g):=by
  intro pins s σ H D I h
  refine wpAny_Assign_stores (thn (he pins s σ H _ I h) λv s1 ⟨x,H1,I1,r1,q1⟩=>?_) hs hw
  rw [h1]
  exact thn (hg pins s1 σ H1 x v _ I1 r1 q1) λ_ s2 q=>q
theorem y9 {i : Nat}{x : Str}{e : Expr}{te : TE}{pos' : Pos}(hN : X.N.Nodup)(hi : X.N[i]? = some x)(hx : Loc X.env.scope x)(he : PE X e te)(hs : swapsWith e (some (.Name x pos')) pos.line X.env = pure false := by rfl)(hf : X.fn x = true∨X.env.scope.names.lookup x = some .local := by first|exact .inl rfl|exact .inr rfl|assumption) :
    PS X (.Assign [.Name x pos'] e pos) (yk0 te (p3 i)):=by
  intro pins s σ H D I h
  refine wpAny_Assign_Name (thn (he pins s σ H _ I h) λv s1 ⟨y,H1,I1,r1,q1⟩=>?_) hs
  exact zd4 I1 hN hi hx r1 (λs2 I2=>⟨_,H1,I2,q1⟩) hf
def xs9 (i:Nat)(te:TE)(ti:TIp):TS:=λD σ H=>∃x,σ[i]?=some (some x)/\te σ H λy H1=>ti x y H1 λz H2=>D.nx (σ.set i (some z)) H2
theorem yi5 {i : Nat}{x : Str}{e : Expr}{te : TE}{op : Operator}{ti : TIp}{pos' : Pos}(hN : X.N.Nodup)(hi : X.N[i]? = some x)(hx : Loc X.env.scope x)(he : PE X e te)(ho : PIp X op ti)(hf : X.fn x = true∨X.env.scope.names.lookup x = some .local := by first|exact .inl rfl|exact .inr rfl|assumption) :
    PS X (.AugAssign (.Name x pos') op e pos) (xs9 i te ti):=by
  intro pins s σ H D I h
  obtain ⟨v,e1,h⟩:=h
  obtain ⟨m,hn,hl⟩:=I.loc
  have vis:Vis X.env.scope x:=by rcases hx with k|k;exact .inl k;exact .inr (.inl k)
  obtain ⟨u,r,l⟩:=hl i x v hi e1 vis
  refine wpAny_AugAssign_Name ?_
  have go:wpAny (model X.prog X.w) X.A (eval e X.env) (λw s₂=>wpAny (model X.prog X.w) X.A (inplaceOp op u w) (λr s₃=>wpAny (model X.prog X.w) X.A (storeName X.env x r) (λ_=>SP X pins D .next) X.xe s₃) X.xe s₂) X.xe s:=by
    refine thn (he pins s σ H _ I h) λw s1 ⟨y,H1,I1,r1,q1⟩=>?_
    refine thn (ho pins s1 σ H1 v y u w _ I1 r r1 q1) λz s2 ⟨zv,H2,I2,r2,q2⟩=>?_
    exact zd4 I2 hN hi hx r2 (λs3 I3=>⟨_,H2,I3,q2⟩) hf
  rcases l with ⟨hk,hm⟩|⟨hk,c,hc,hcell⟩
  . exact wpAny_loadName_local I.ok.kind hk hn hm go
  . rcases hk with hk|hk
    . exact wpAny_loadName_cell I.ok.kind hk hc hcell go
    . rcases hx with k|k
      . have : X.env.scope.names.lookup x = some .free := hk
        rw [k] at this;cases this
      . have : X.env.scope.names.lookup x = some .free := hk
        rw [k] at this;cases this
def ipI (f:Int->Int->Int):TIp:=λx y H Q=>∃i j,x=.int i/\y=.int j/\Q (.int (f i j)) H
theorem xj7:PIp X .Add (ipI λi j=>i+j):=by
  intro pins s σ H x y v u Q I r1 r2 h
  obtain ⟨i,j,e1,e2,q⟩:=h
  subst e1;subst e2
  obtain ⟨t,rfl⟩:=r1
  obtain ⟨t',rfl⟩:=r2
  exact iadd_int ⟨.int _,H,I.tok _,⟨_,rfl⟩,q⟩
theorem xj9:PIp X .Sub (ipI λi j=>i-j):=by
  intro pins s σ H x y v u Q I r1 r2 h
  obtain ⟨i,j,e1,e2,q⟩:=h
  subst e1;subst e2
  obtain ⟨t,rfl⟩:=r1
  obtain ⟨t',rfl⟩:=r2
  exact isub_int ⟨.int _,H,I.tok _,⟨_,rfl⟩,q⟩
end
section
variable {X:Cx}{pos:Pos}
def xb5 (c:TT)(tb:TS):TS:=λD σ H=>∃W:Nat->St->Hp->Prop,(∃m,W m σ H)/\∀m σ H,W m σ H ->
  c σ H λb H1=>if b=true then ∃N:St->Hp->Prop,(∀σ' H',N σ' H'->∃m',m'<m/\W m' σ' H')/\tb { D with nx:=N,ct:=N,bk:=D.nx } σ H1 else D.nx σ H1
theorem yc9 {c:Expr}{body:List Stmt}{tc:TT}{tb:TS}(hp:PassesOwn (model X.prog X.w) X.A X.env X.xe)(hc:PT X c tc)(hb:PSs X body tb):PS X (.While c body [] pos) (xb5 tc tb):=by
  intro pins s σ H D I h
  obtain ⟨W,⟨m0,w0⟩,turn⟩:=h
  refine wpAny_While (codeAny_whileLoop (λn s'=>∃σ' H',Inv X pins σ' H' s'/\W n σ' H') ?_ m0 ⟨σ,H,I,w0⟩)
  rintro n s1 ⟨σ1,H1,I1,w1⟩
  refine wpAny_passesOwn hp (thn (hc pins s1 σ1 H1 _ I1 (turn n σ1 H1 w1)) λb s2 ⟨H2,I2,q2⟩=>?_)
  cases b with
  | true =>
    obtain ⟨N,hN,q2⟩:=q2
    rw [if_pos rfl]
    refine wpAny_passesOwn hp (thn (hb pins s2 σ1 H2 _ I2 q2) λf s3 q3=>?_)
    cases f with
    | next =>
      obtain ⟨σ3,H3,I3,n3⟩:=q3
      obtain ⟨m',hm,w3⟩:=hN σ3 H3 n3
      exact ⟨m',hm,σ3,H3,I3,w3⟩
    | cont =>
      obtain ⟨σ3,H3,I3,n3⟩:=q3
      obtain ⟨m',hm,w3⟩:=hN σ3 H3 n3
      exact ⟨m',hm,σ3,H3,I3,w3⟩
    | brk=>exact q3
    | ret v=>exact q3
  | false =>
    rw [if_neg aI]
    exact wpAny_execs_nil ⟨σ1,H2,I2,q2⟩
end
structure It where
  go:Nat->Hp->Prop
  yld:Nat->Hp->V->Hp->Prop
  stop:Nat->Hp->Prop
def B0 (X:Cx)(pins:List (Addr×Obj))(H:Hp)(b:Addr):Prop :=
  H b=none/\b≠X.env.locals/\b∉X.fs/\(b∈X.ex∨X.s₀.heap.objs.size<=b)/\(∀x c,X.env.cells.lookup x=some c->c≠b)/\∀p∈X.pn++pins,p.1≠b
theorem Inv.fpOk {X:Cx}{pins:List (Addr×Obj)}{σ:St}{H H':Hp}{s:Shared}{b:Addr}(I:Inv X pins σ H s)(hb:s.heap.objs.size<=b)(hn:H' b=none):B0 X pins H' b:=by
  refine ⟨hn,dR (aO I.lt hb),I.nofs hb,.inr (aB I.sz hb),λx c e z=>?_,λp hp z=>?_⟩
  . obtain ⟨v, q⟩ := I.cell x c e
    exact absurd (aO q.lt (by rw [z];exact hb)) (aZ _)
  . exact absurd (aO (aF (I.pin p hp).1) (by rw [z];exact hb)) (aZ _)
structure zy2 (P:Program) (w:World) (K:W.Frag) (tg:Expr) (J:It) (fp:List Addr) (it:Addr) (tn:Nat->Heap->Prop):Prop where
  mem:it∈fp
  obj:∀i h,tn i h->∀b∈fp,∃o,h.get? b=some o/\∀v,o.data≠.cell v
  keep:∀i h h',tn i h->(∀b∈fp,∀o,h.get? b=some o->h'.get? b=some o)->tn i h'
  item:∀(X:Cx),X.prog=P->X.w=w->X.K=K->X.calm=true->∀(i:Nat) (pins:List (Addr×Obj)) (s:Shared) (σ:St) (H:Hp) (E:Value->Shared->Prop),Inv X pins σ H s->(∀b∈fp,B0 X pins H b)->tn i s.heap->J.go i H ->
    wpAny (model P w) X.A (pyNext (.ref it)) (λr s1=>∃u,r=some u /\
      wpAny (model P w) X.A (letOwnedTupleGo tg (.ref it) u) (λ_ s2=>∃x H',Inv X pins σ H' s2/\o6 x u/\J.yld i H x H'/\tn (i+1) s2.heap/\∀b∈fp,H' b=none) E s1) E s
  done:∀(X:Cx),X.prog=P->X.w=w->X.K=K->X.calm=true->∀(i:Nat) (pins:List (Addr×Obj)) (s:Shared) (σ:St) (H:Hp) (E:Value->Shared->Prop),Inv X pins σ H s->(∀b∈fp,B0 X pins H b)->tn i s.heap->J.stop i H ->
    wpAny (model P w) X.A (pyNext (.ref it)) (λr s1=>r=none/\Inv X pins σ H s1) E s
  self:∀(A:Around) (i:Nat) (s:Shared) (Q:Value->Shared->Prop) (E:Value->Shared->Prop),tn i s.heap->Q (.ref it) s->wpAny (model P w) A (pyIter (.ref it)) Q E s
abbrev TI:=St->Hp->(It->Hp->Prop)->Prop
def PIE (X:Cx)(pins:List (Addr×Obj))(σ:St)(tg:Expr)(R:It->Hp->Prop)(itv:Value)(s2:Shared):Prop :=
  ∃(it:Addr) (fp:List Addr) (tn:Nat->Heap->Prop) (J:It) (H':Hp),itv=.ref it/\Inv X pins σ H' s2/\zy2 X.prog X.w X.K tg J fp it tn/\tn 0 s2.heap/\(∀b∈fp,B0 X pins H' b)/\R J H'
def PI (X:Cx)(tg iter:Expr)(wi:TI):Prop :=
  ∀(pins:List (Addr×Obj)) (s:Shared) (σ:St) (H:Hp) (R:It->Hp->Prop),Inv X pins σ H s->wi σ H R ->
    wpAny (model X.prog X.w) X.A (eval iter X.env) (λv s1=>wpAny (model X.prog X.w) X.A (pyIter v) (PIE X pins σ tg R) X.xe s1) X.xe s
theorem zr0 {M : Model}{A : Around}{E : Value -> Shared -> Prop}{s : Shared}{tg : Expr}{it : Addr}{u : Value}{o : Obj}{n : String}{vs : Array Value}{Q : Unit -> Shared -> Prop}(ho : s.heap.get? it = some o)(hc : o.cls = .type n)(hd : o.data = .fields vs)
    (hn:["enumerate","zip","dict_itemiterator","dict_reverseitemiterator","odict_iterator","itertools.zip_longest","itertools.pairwise"].contains n=false) (hQ:Q () s):wpAny M A (letOwnedTupleGo tg (.ref it) u) Q E s:=by
  unfold letOwnedTupleGo
  cases tg <;> first
    | exact wpAny_pure hQ
    | (cases u <;> first
        | exact wpAny_pure hQ
        | (refine wpAny_bind (wpAny_load ho ?_)
           rw [hc,hd]
           show wpAny M A (if (["enumerate","zip","dict_itemiterator","dict_reverseitemiterator","odict_iterator","itertools.zip_longest","itertools.pairwise"].contains n&&vs[0]?==some (rawInt _))=true then _ else _) Q E s
           rw [if_neg (by intro h;rw [hn,eW] at h;cases h)]
           exact wpAny_pure hQ))
def Itl (K:W.Frag)(a:Addr):It :=
  ⟨λi H=>∃xs x,SqL K H a xs/\xs[i]?=some x,λi H x H'=>H'=H/\∀xs,SqL K H a xs->xs[i]?=some x,λi H=>∃xs,SqL K H a xs/\xs.length<=i⟩
def Itt (K:W.Frag)(a:Addr):It :=
  ⟨λi H=>∃xs x,SqT K H a xs/\xs[i]?=some x,λi H x H'=>H'=H/\∀xs,SqT K H a xs->xs[i]?=some x,λi H=>∃xs,SqT K H a xs/\xs.length<=i⟩
def Itr (lo:Int)(n:Nat):It:=⟨λi _=>i<n,λi H x H'=>H'=H/\x=.int (lo+i),λi _=>n<=i⟩
theorem yt1 {P:Program}{w:World}{K:W.Frag}{tg:Expr}(a it:Addr):zy2 P w K tg (Itl K a) [it] it (λi h=>h.IsListIter it a i) where
  mem:=by simp
  obj:=λi h st b hb=>by
    have e:b=it:=by simpa using hb
    subst e
    obtain ⟨o,e,c,d⟩:=st
    exact ⟨o,e,λv z=>by rw [d] at z;cases z⟩
  keep:=λi h h' st k=>st.at λo e=>k it (by simp) o e
  item:=by
    intro X hP hw hK hc i pins s σ H E I hf st hg
    subst hP hw hK
    obtain ⟨xs,x,hq,hx⟩:=hg
    obtain ⟨its,rv,p,hz⟩:=I.list hq
    obtain ⟨u,hu,ru⟩:=rv.get hx
    obtain ⟨f0,f1,f2,f3,f4,f5⟩:=hf it (by simp)
    refine wpAny_pyNext_list_item st p.isList (x:=u) (by simpa using hu) λh' st' sb=>?_
    have I1:Inv X pins σ H { s with heap:=h' }:=I.turned (t':=s.toks) (λb o hb e=>(sb.2 b hb).trans e) f0 f1 f3 f4 f5
    obtain ⟨o,e,c,d⟩:=id st'
    exact ⟨u,rfl,zr0 (s:={ s with heap:=h' }) e c d (by decide) ⟨x,H,I1,ru,⟨rfl,λys hy=>by rw [I.list_inj hy hq];exact hx⟩,st',λb hb=>(hf b hb).1⟩⟩
  done:=by
    intro X hP hw hK hc i pins s σ H E I hf st hg
    subst hP hw hK
    obtain ⟨xs,hq,hx⟩:=hg
    obtain ⟨its,rv,p,hz⟩:=I.list hq
    obtain ⟨f0,f1,f2,f3,f4,f5⟩:=hf it (by simp)
    have hl:=rv.length
    exact wpAny_pyNext_list_end (I.ok.hd hc) st p.isList (by simp;omega) λh' eb=>⟨rfl,I.turned (t':=s.toks) (λb o hb e=>eb b o hb e) f0 f1 f3 f4 f5⟩
  self:=λ_ _ _ _ _ st h=>wpAny_pyIter_listiter st h
theorem yk4 {P:Program}{w:World}{K:W.Frag}{tg:Expr}(a it:Addr):zy2 P w K tg (Itt K a) [it] it (λi h=>h.IsTupleIter it a i) where
  mem:=by simp
  obj:=λi h st b hb=>by
    have e:b=it:=by simpa using hb
    subst e
    obtain ⟨o,e,c,d⟩:=st
    exact ⟨o,e,λv z=>by rw [d] at z;cases z⟩
  keep:=λi h h' st k=>st.at λo e=>k it (by simp) o e
  item:=by
    intro X hP hw hK hc i pins s σ H E I hf st hg
    subst hP hw hK
    obtain ⟨xs,x,hq,hx⟩:=hg
    obtain ⟨its,rv,p,hz⟩:=I.tuple hq
    obtain ⟨u,hu,ru⟩:=rv.get hx
    obtain ⟨f0,f1,f2,f3,f4,f5⟩:=hf it (by simp)
    refine wpAny_pyNext_tuple_item st (show s.heap.IsTuple a its.toArray from p) (x:=u) (by simpa using hu) λh' st' sb=>?_
    have I1:Inv X pins σ H { s with heap:=h' }:=I.turned (t':=s.toks) (λb o hb e=>(sb.2 b hb).trans e) f0 f1 f3 f4 f5
    obtain ⟨o,e,c,d⟩:=id st'
    exact ⟨u,rfl,zr0 (s:={ s with heap:=h' }) e c d (by decide) ⟨x,H,I1,ru,⟨rfl,λys hy=>by rw [I.tuple_inj hy hq];exact hx⟩,st',λb hb=>(hf b hb).1⟩⟩
  done:=by
    intro X hP hw hK hc i pins s σ H E I hf st hg
    subst hP hw hK
    obtain ⟨xs,hq,hx⟩:=hg
    obtain ⟨its,rv,p,hz⟩:=I.tuple hq
    obtain ⟨f0,f1,f2,f3,f4,f5⟩:=hf it (by simp)
    have hl:=rv.length
    exact wpAny_pyNext_tuple_end (I.ok.hd hc) st (show s.heap.IsTuple a its.toArray from p) (by simp;omega) λh' eb=>⟨rfl,I.turned (t':=s.toks) (λb o hb e=>eb b o hb e) f0 f1 f3 f4 f5⟩
  self:=λ_ _ _ _ _ st h=>wpAny_pyIter_tupleiter st h
theorem yk3 {P:Program}{w:World}{K:W.Frag}{tg:Expr}(it:Addr)(lo:Int)(n:Nat):zy2 P w K tg (Itr lo n) [it] it (λi h=>IsRangeIter h it (lo+(i:Nat)*1) ((n:Int)-(i:Nat)) 1) where
  mem:=by simp
  obj:=λi h st b hb=>by
    have e:b=it:=by simpa using hb
    subst e
    exact ⟨_,st,λv z=>by
      have z':Data.fields _=Data.cell v:=z
      cases z'⟩
  keep:=λi h h' st k=>k it (by simp) _ st
  item:=by
    intro X hP hw hK hc i pins s σ H E I hf st hg
    subst hP hw hK
    obtain ⟨f0,f1,f2,f3,f4,f5⟩:=hf it (by simp)
    have W:=Walks.range (prog:=X.prog) (w:=X.w) (I.ok.hd hc) it lo 1 n
    refine W.item i s _ _ hg st λv h' tk hv st' kk=>?_
    obtain ⟨t,rfl⟩:=hv
    have I1:Inv X pins σ H { s with heap:=h',toks:=tk }:=I.turned (λb o hb e=>kk b o (by simpa using hb) e) f0 f1 f3 f4 f5
    refine ⟨_,rfl,zr0 (s:={ s with heap:=h',toks:=tk }) (n:="range_iterator") st' rfl rfl (by decide) ⟨.int (lo+i),H,I1,⟨t,?_⟩,⟨rfl,rfl⟩,st',λb hb=>(hf b hb).1⟩⟩
    rw [Int.mul_one]
  done:=by
    intro X hP hw hK hc i pins s σ H E I hf st hg
    subst hP hw hK
    obtain ⟨f0,f1,f2,f3,f4,f5⟩:=hf it (by simp)
    exact wpAny_pyNext_range_end (I.ok.hd hc) st (by have:n<=i:=hg;omega) λh' eb=>⟨rfl,I.turned (t':=s.toks) (λb o hb e=>eb b o hb e) f0 f1 f3 f4 f5⟩
  self:=λ_ _ _ _ _ st h=>wpAny_pyIter_rangeiter st h
section
variable {X:Cx}{tg:Expr}
def xo6 (K:W.Frag)(tl:TE):TI:=λσ H R=>tl σ H λx H1=>∃a,x=.ref a/\(∃xs,SqL K H1 a xs)/\R (Itl K a) H1
def xs4 (K:W.Frag)(tl:TE):TI:=λσ H R=>tl σ H λx H1=>∃a,x=.ref a/\(∃xs,SqT K H1 a xs)/\R (Itt K a) H1
theorem W1 {l:Expr}{tl:TE}(hl:PE X l tl):PI X tg l (xo6 X.K tl):=by
  intro pins s σ H R I h
  refine thn (hl pins s σ H _ I h) λv s1 ⟨x,H1,I1,r1,q1⟩=>?_
  obtain ⟨a,e,⟨xs,hq⟩,q⟩:=q1
  subst e
  cases r1
  obtain ⟨its,rv,p,hz⟩:=I1.list hq
  refine wpAny_pyIter_list p.isList ?_
  refine ⟨s1.heap.objs.size,[s1.heap.objs.size],_,_,H1,rfl,I1.kept (t':=s1.toks) λb o e=>av _ e,yt1 a _,⟨_,aG _ rfl,rfl,rfl⟩,λb hb=>?_,q⟩
  have e:b=s1.heap.objs.size:=by simpa using hb
  subst e
  exact I1.fpOk (af _) (I1.hok.fresh (af _))
theorem zw1 {l:Expr}{tl:TE}(hl:PE X l tl):PI X tg l (xs4 X.K tl):=by
  intro pins s σ H R I h
  refine thn (hl pins s σ H _ I h) λv s1 ⟨x,H1,I1,r1,q1⟩=>?_
  obtain ⟨a,e,⟨xs,hq⟩,q⟩:=q1
  subst e
  cases r1
  obtain ⟨its,rv,p,hz⟩:=I1.tuple hq
  refine wpAny_pyIter_tuple (show s1.heap.IsTuple a its.toArray from p) ?_
  refine ⟨s1.heap.objs.size,[s1.heap.objs.size],_,_,H1,rfl,I1.kept (t':=s1.toks) λb o e=>av _ e,yk4 a _,⟨_,aG _ rfl,rfl,rfl⟩,λb hb=>?_,q⟩
  have e:b=s1.heap.objs.size:=by simpa using hb
  subst e
  exact I1.fpOk (af _) (I1.hok.fresh (af _))
theorem yd1 {pins : List (Addr×Obj)}{σ : St}{H : Hp}{s : Shared}{R : It -> Hp -> Prop}{E : Value -> Shared -> Prop}{lo hi : Int}{t u v : Tok}{tk : Nat}(I : Inv X pins σ H s)(h1 : -(2 ^ 62) <= lo)(h2 : lo<2 ^ 62)(h3 : -(2 ^ 62) <= hi)(h4 : hi<2 ^ 62)
    (q:R (Itr lo (hi-lo).toNat) H):wpAny (model X.prog X.w) X.A (pyIter (.ref s.heap.objs.size)) (PIE X pins σ tg R) E { s with heap:=s.heap.push { cls:=.type "range",data:=.fields #[.int lo t,.int hi u,.int 1 v] },toks:=tk }:=by
  refine wpAny_pyIter_range (IsRange.new ..) (small_one h1 h2 h3 h4) ?_
  have I1:Inv X pins σ H { s with heap:=s.heap.push { cls:=.type "range",data:=.fields #[.int lo t,.int hi u,.int 1 v] },toks:=tk }:=I.kept λb o e=>av _ e
  refine ⟨(s.heap.push { cls:=.type "range",data:=.fields #[.int lo t,.int hi u,.int 1 v] }).objs.size,[(s.heap.push { cls:=.type "range",data:=.fields #[.int lo t,.int hi u,.int 1 v] }).objs.size],_,_,H,rfl,
    I1.kept (t':=tk) λb o e=>av _ e,yk3 _ lo (hi-lo).toNat,?_,λb hb=>?_,q⟩
  . have e1 : lo+((0 : Nat) : Int)*1 = lo := by simp
    have e2:(((hi-lo).toNat:Nat):Int)-((0:Nat):Int)=Builtin.Range.rangeSize lo hi 1:=by rw [rangeSize_one];split <;> omega
    show IsRangeIter _ _ (lo+((0:Nat):Int)*1) ((((hi-lo).toNat:Nat):Int)-((0:Nat):Int)) 1
    rw [e1,e2]
    exact aG _ rfl
  . have e : b = (s.heap.push { cls := .type "range", data := .fields #[.int lo t, .int hi u, .int 1 v] }).objs.size := by simpa using hb
    subst e
    exact I1.fpOk (af _) (I1.hok.fresh (af _))
def xo7 (ta:TA):TI:=λσ H R=>ta σ H λvs H1=>∃j:Int,vs=[.int j]/\-(2 ^ 62)<=j/\j<2 ^ 62/\R (Itr 0 j.toNat) H1
def xo8 (ta:TA):TI:=λσ H R=>ta σ H λvs H1=>∃i j:Int,vs=[.int i,.int j]/\(-(2 ^ 62)<=i/\i<2 ^ 62/\-(2 ^ 62)<=j/\j<2 ^ 62)/\R (Itr i (j-i).toNat) H1
theorem X1 {a:Expr}{ta:TA}{p pos:Pos}(hg:Gl X "range") (hm:X.mg "range"=none) (ha:PA X [a] ta) (hs:starEach [a] X.env=[(false,eval a X.env)]:=by rfl):PI X tg (.Call (.Name "range" p) [a] [] pos) (xo7 ta):=by
  intro pins s σ H R I h
  refine Call_ (G3 I hg hm boot_range (PyProof.Rows.callWith_type1 (thn (ha pos pins s σ H _ I h) λus s1 ⟨vs,H1,I1,r1,q1⟩=>?_) hs rfl))
  obtain ⟨j,e,q1,q2,q⟩:=q1
  subst e
  cases r1 with
  | cons r rr =>
    cases rr
    obtain ⟨t,rfl⟩:=r
    exact call_range_1 (yd1 I1 (by omega) (by omega) q1 q2 (by simpa using q))
theorem yr7 {a b : Expr}{ta : TA}{p pos : Pos}(hg : Gl X "range") (hm : X.mg "range" = none) (ha : PA X [a, b] ta) (hs : starEach [a, b] X.env = [(false, eval a X.env), (false, eval b X.env)] := by rfl) (hs2 : starEach [b] X.env = [(false, eval b X.env)] := by rfl) :
    PI X tg (.Call (.Name "range" p) [a,b] [] pos) (xo8 ta):=by
  intro pins s σ H R I h
  refine Call_ (G3 I hg hm boot_range (PyProof.Rows.callWith_type1 (thn (ha pos pins s σ H _ I h) λus s1 ⟨vs,H1,I1,r1,q1⟩=>?_) (by rw [hs,hs2]) (by rw [hs2];rfl)))
  obtain ⟨i,j,e,⟨q1,q2,q3,q4⟩,q⟩:=q1
  subst e
  cases r1 with
  | cons r rr =>
    cases rr with
    | cons r' rr =>
      cases rr
      obtain ⟨t,rfl⟩:=r
      obtain ⟨t',rfl⟩:=r'
      exact call_range_2 (yd1 I1 q1 q2 q3 q4 q)
def xt3 (wi:TI)(g:TG)(tb:TS):TS:=λD σ H=>wi σ H λJ H1=>∃W:Nat->Nat->St->Hp->Prop,(∃m,W 0 m σ H1)/\∀i m σ H,W i m σ H ->
  (J.stop i H/\D.nx σ H)∨(J.go i H/\∃N:St->Hp->Prop,(∀σ' H',N σ' H'->∃m',m'<m/\W (i+1) m' σ' H')/\∀x H',J.yld i H x H'->g x σ H' λσ2 H2=>tb { D with nx:=N,ct:=N,bk:=D.nx } σ2 H2)
def zw2 (fp:List Addr)(h:Heap):List (Addr×Obj):=fp.filterMap λb=>(h.get? b).map λo=>(b,o)
theorem P3 {fp:List Addr}{h:Heap}{b:Addr}{o:Obj}(hb:b∈fp)(e:h.get? b=some o):(b,o)∈zw2 fp h:=cw.mpr ⟨b,hb,by rw [e];rfl⟩
theorem yr3 {fp:List Addr}{h:Heap}{p:Addr×Obj}(hp:p∈zw2 fp h):p.1∈fp/\h.get? p.1=some p.2:=by
  obtain ⟨b,hb,e⟩:=cw.mp hp
  cases q:h.get? b with
  | none=>rw [q] at e;cases e
  | some o =>
    rw [q] at e
    have e':(b,o)=p:=Option.some.inj e
    subst e'
    exact ⟨hb,q⟩
theorem Inv.pinned {pins:List (Addr×Obj)}{σ:St}{H:Hp}{s:Shared}{fp:List Addr}(I:Inv X pins σ H s)(hf:∀b∈fp,B0 X pins H b)(ho:∀b∈fp,∃o,s.heap.get? b=some o/\∀v,o.data≠.cell v):Inv X (pins++zw2 fp s.heap) σ H s :=
  I.pins_of λp hp=>(aE.mp hp).elim (λz=>I.pin p (aD _ z)) λz=>by
    obtain ⟨hb,e⟩:=yr3 z
    obtain ⟨f0,f1,f2,_⟩:=hf p.1 hb
    obtain ⟨o,e',d⟩:=ho p.1 hb
    rw [e] at e';cases e'
    exact ⟨e,f0,f1,f2,d⟩
theorem Inv.unpinned {pins pl:List (Addr×Obj)}{σ:St}{H:Hp}{s:Shared}(I:Inv X (pins++pl) σ H s):Inv X pins σ H s:=I.pins_of λp hp=>I.pin p (aD _ (aJ _ hp))
theorem W7 {iter : Expr}{body : List Stmt}{wi : TI}{g : TG}{tb : TS}{pos : Pos}(hp : PassesOwn (model X.prog X.w) X.A X.env X.xe)(hc : X.calm = true)(hi : PI X tg iter wi)(hg : PG X tg g)(hb : PSs X body tb)
    (hs:∀x,foldedSetIterable iter X.env x=pure x:=by intro _;rfl):PS X (.For tg iter body [] pos) (xt3 wi g tb):=by
  intro pins s σ H D I h
  refine wpAny_For (thn (hi pins s σ H _ I h) λv s1 h1=>thn h1 λitv s2 h2=>?_) hs
  obtain ⟨it,fp,tn,J,H2,e,I2,T,st2,f2,W,⟨m0,w0⟩,turn⟩:=h2
  subst e
  have stat:∀{H':Hp},(∀b∈fp,H' b=none)->∀b∈fp,B0 X pins H' b:=λhn b hb=>⟨hn b hb,(f2 b hb).2⟩
  refine codeAny_forLoop_any (λn s'=>∃i σ' H',Inv X pins σ' H' s'/\tn i s'.heap/\(∀b∈fp,H' b=none)/\W i n σ' H') ?_ m0 ⟨0,σ,H2,I2,st2,λb hb=>(f2 b hb).1,w0⟩
  rintro n s3 ⟨i,σ3,H3,I3,st3,fr3,w3⟩
  rcases turn i n σ3 H3 w3 with ⟨stop,qn⟩|⟨go,N,hN,step⟩
  . refine wpAny_passesOwn hp (thn (T.done X rfl rfl rfl hc i pins s3 σ3 H3 X.xe I3 (stat fr3) st3 stop) λr s4 ⟨hr, I4⟩ => ?_)
    subst hr
    exact wpAny_execs_nil ⟨σ3,H3,I4,qn⟩
  . refine wpAny_passesOwn hp (thn (T.item X rfl rfl rfl hc i pins s3 σ3 H3 X.xe I3 (stat fr3) st3 go) λr s4 ⟨u, hr, h4⟩ => ?_)
    subst hr
    refine wpAny_passesOwn hp (thn h4 λ_ s5 ⟨x,H5,I5,r5,y5,st5,fr5⟩=>?_)
    have I5':=I5.pinned (stat fr5) (T.obj _ _ st5)
    refine wpAny_passesOwn hp (thn (hg _ s5 σ3 H5 x u _ I5' r5 (step x H5 y5)) λ_ s6 ⟨σ6,H6,I6,q6⟩=>?_)
    refine wpAny_passesOwn hp (thn (hb _ s6 σ6 H6 _ I6 q6) λf s7 q7=>?_)
    have again:∀{σ7:St} {H7:Hp},Inv X (pins++zw2 fp s5.heap) σ7 H7 s7->N σ7 H7->∃m,m<n/\∃i σ' H',Inv X pins σ' H' s7/\tn i s7.heap/\(∀b∈fp,H' b=none)/\W i m σ' H':=λ{σ7 H7} I7 n7=>by
      obtain ⟨m',hm,w7⟩:=hN σ7 H7 n7
      refine ⟨m',hm,i+1,σ7,H7,I7.unpinned,T.keep _ _ _ st5 λb hb o e=>(I7.pin (b,o) (aD _ (aD _ (P3 hb e)))).1,λb hb=>?_,w7⟩
      obtain ⟨o,e,d⟩:=T.obj _ _ st5 b hb
      exact (I7.pin (b,o) (aD _ (aD _ (P3 hb e)))).2.1
    cases f with
    | next=>obtain ⟨σ7,H7,I7,n7⟩:=q7;exact again I7 n7
    | cont=>obtain ⟨σ7,H7,I7,n7⟩:=q7;exact again I7 n7
    | brk=>obtain ⟨σ7,H7,I7,q7⟩:=q7;exact ⟨σ7,H7,I7.unpinned,q7⟩
    | ret v=>obtain ⟨x7,σ7,H7,I7,r7,q7⟩:=q7;exact ⟨x7,σ7,H7,I7.unpinned,r7,q7⟩
end
theorem R4 {K : W.Frag}{a : Addr}{xs : List V}{g : TG}{tb : TS}{D : J3}{σ : St}{H : Hp}(Pv : Nat -> St -> Hp -> Prop)(h0 : Pv 0 σ H)(hl : ∀i σ H, i <= xs.length -> Pv i σ H -> SqL K H a xs)
    (hs:∀i x σ H,xs[i]?=some x->Pv i σ H->g x σ H λσ2 H2=>tb { D with nx:=Pv (i+1),ct:=Pv (i+1),bk:=D.nx } σ2 H2) (hd:∀σ H,Pv xs.length σ H->D.nx σ H) :
    ∃W:Nat->Nat->St->Hp->Prop,(∃m,W 0 m σ H)/\∀i m σ H,W i m σ H ->
      ((Itl K a).stop i H/\D.nx σ H)∨((Itl K a).go i H/\∃N:St->Hp->Prop,(∀σ' H',N σ' H'->∃m',m'<m/\W (i+1) m' σ' H')/\∀x H',(Itl K a).yld i H x H'->g x σ H' λσ2 H2=>tb { D with nx:=N,ct:=N,bk:=D.nx } σ2 H2):=by
  refine ⟨λi m σ H=>m=xs.length-i/\i<=xs.length/\Pv i σ H,⟨xs.length,by simp,aQ _,h0⟩,?_⟩
  rintro i m σ H ⟨rfl,hi,p⟩
  have q:=hl i σ H hi p
  by_cases hlt:i<xs.length
  . refine .inr ⟨⟨xs, xs[i], q, by simp [hlt]⟩, Pv (i+1), λσ' H' p' => ⟨xs.length-(i+1), by omega, rfl, hlt, p'⟩, λx H' y => ?_⟩
    obtain ⟨e,y⟩:=y
    subst e
    exact hs i x σ _ (y xs q) p
  . have e : i = xs.length := by omega
    subst e
    exact .inl ⟨⟨xs,q,af _⟩,hd σ H p⟩
theorem ze1 {lo : Int}{n : Nat}{g : TG}{tb : TS}{D : J3}{σ : St}{H : Hp}(Pv : Nat -> St -> Hp -> Prop)(h0 : Pv 0 σ H)
    (hs:∀i σ H,i<n->Pv i σ H->g (.int (lo+i)) σ H λσ2 H2=>tb { D with nx:=Pv (i+1),ct:=Pv (i+1),bk:=D.nx } σ2 H2) (hd:∀σ H,Pv n σ H->D.nx σ H) :
    ∃W:Nat->Nat->St->Hp->Prop,(∃m,W 0 m σ H)/\∀i m σ H,W i m σ H ->
      ((Itr lo n).stop i H/\D.nx σ H)∨((Itr lo n).go i H/\∃N:St->Hp->Prop,(∀σ' H',N σ' H'->∃m',m'<m/\W (i+1) m' σ' H')/\∀x H',(Itr lo n).yld i H x H'->g x σ H' λσ2 H2=>tb { D with nx:=N,ct:=N,bk:=D.nx } σ2 H2):=by
  refine ⟨λi m σ H=>m=n-i/\i<=n/\Pv i σ H,⟨n,by simp,aQ _,h0⟩,?_⟩
  rintro i m σ H ⟨rfl,hi,p⟩
  by_cases hlt:i<n
  . refine .inr ⟨hlt, Pv (i+1), λσ' H' p' => ⟨n-(i+1), by omega, rfl, hlt, p'⟩, λx H' y => ?_⟩
    obtain ⟨e,y⟩:=y
    subst e y
    exact hs i σ _ hlt p
  . have e : i = n := by omega
    subst e
    exact .inl ⟨af _,hd σ H p⟩
theorem xc0 {c : TT}{tb : TS}{D : J3}{σ : St}{H : Hp}(Pv : St -> Hp -> Prop)(μ : St -> Hp -> Nat)(h0 : Pv σ H)
    (hs:∀σ H,Pv σ H->c σ H λb H1=>if b=true then tb { D with nx:=λσ' H'=>Pv σ' H'/\μ σ' H'<μ σ H,ct:=λσ' H'=>Pv σ' H'/\μ σ' H'<μ σ H,bk:=D.nx } σ H1 else D.nx σ H1)
    (mono:∀σ H Q Q',(∀b H1,Q b H1->Q' b H1)->c σ H Q->c σ H Q'):xb5 c tb D σ H:=by
  refine ⟨λm σ H=>m=μ σ H/\Pv σ H,⟨_,rfl,h0⟩,?_⟩
  rintro m σ H ⟨rfl,p⟩
  refine mono σ H _ _ (λb H1 q=>?_) (hs σ H p)
  cases b with
  | true=>exact ⟨_,λσ' H' ⟨p',l⟩=>⟨_,l,rfl,p'⟩,q⟩
  | false=>exact q
abbrev R2:=V->V->Hp->VK->Prop
def OpR (X:Cx)(f:Value->Value->Sem Value)(r:R2):Prop :=
  ∀(pins:List (Addr×Obj)) (s:Shared) (σ:St) (H:Hp) (x y:V) (v u:Value) (Q:VK),Inv X pins σ H s->o6 x v->o6 y u->r x y H Q ->
    wpAny (model X.prog X.w) X.A (f v u) (EP X pins σ Q) X.xe s
def UnR (X:Cx)(f:Value->Sem Value)(r:V->Hp->VK->Prop):Prop :=
  ∀(pins:List (Addr×Obj)) (s:Shared) (σ:St) (H:Hp) (x:V) (v:Value) (Q:VK),Inv X pins σ H s->o6 x v->r x H Q ->
    wpAny (model X.prog X.w) X.A (f v) (EP X pins σ Q) X.xe s
def R3 (X:Cx)(f:Value)(r:List V->Hp->VK->Prop):Prop :=
  ∀(pins:List (Addr×Obj)) (s:Shared) (σ:St) (H:Hp) (xs:List V) (us:List Value) (Q:VK),Inv X pins σ H s->p9 xs us->r xs H Q ->
    wpAny (model X.prog X.w) X.A (call f us) (EP X pins σ Q) X.xe s
def tOp (r:R2)(ta tb:TE):TE:=λσ H Q=>ta σ H λx H1=>tb σ H1 λy H2=>r x y H2 Q
def tUn (r:V->Hp->VK->Prop)(ta:TE):TE:=λσ H Q=>ta σ H λx H1=>r x H1 Q
def rI (C:Int->Int->Prop)(g:Int->Int->V):R2:=λx y H Q=>∃i j,x=.int i/\y=.int j/\C i j/\Q (g i j) H
def rI0 (g:Int->Int->V):R2:=λx y H Q=>∃i j,x=.int i/\y=.int j/\Q (g i j) H
def rU (g:Int->V):V->Hp->VK->Prop:=λx H Q=>∃i,x=.int i/\Q (g i) H
section
variable {X:Cx}{a b c:Expr}{ta tb tc:TE}{pos:Pos}
theorem xj0 (ha : PE X a ta)(hb : PE X b tb){pins : List (Addr×Obj)}{s : Shared}{σ : St}{H : Hp}{R : V -> V -> Hp -> Prop}(I : Inv X pins σ H s)
    (h:ta σ H λx H1=>tb σ H1 λy H2=>R x y H2) {Q:Value->Shared->Prop} {f:Value->Value->Sem Value}
    (hf:∀v u s2 x y H2,Inv X pins σ H2 s2->o6 x v->o6 y u->R x y H2->wpAny (model X.prog X.w) X.A (f v u) Q X.xe s2) :
    wpAny (model X.prog X.w) X.A (eval a X.env) (λv s₁=>wpAny (model X.prog X.w) X.A (eval b X.env) (λu s₂=>wpAny (model X.prog X.w) X.A (f v u) Q X.xe s₂) X.xe s₁) X.xe s:=by
  refine thn (ha pins s σ H _ I h) λv s1 ⟨x,H1,I1,r1,q1⟩=>?_
  refine thn (hb pins s1 σ H1 _ I1 q1) λu s2 ⟨y,H2,I2,r2,q2⟩=>?_
  exact hf v u s2 x y H2 I2 r1 r2 q2
theorem v0 {op:Operator}{r:R2}(ho:OpR X (binaryOp op) r)(ha:PE X a ta)(hb:PE X b tb):PE X (.BinOp a op b pos) (tOp r ta tb):=by
  intro pins s σ H Q I h
  exact wpAny_BinOp (xj0 ha hb I h λv u s2 x y H2 I2 rx ry q=>ho pins s2 σ H2 x y v u Q I2 rx ry q)
theorem xi1 {op:UnaryOp}{r:V->Hp->VK->Prop}(ho:UnR X (unaryOp op) r)(ha:PE X a ta):PE X (.UnaryOp op a pos) (tUn r ta):=by
  intro pins s σ H Q I h
  exact UnaryOp_ (thn (ha pins s σ H _ I h) λv s1 ⟨x,H1,I1,r1,q1⟩=>ho pins s1 σ H1 x v Q I1 r1 q1)
theorem opI {f : Value -> Value -> Sem Value}{C : Int -> Int -> Prop}{g : Int -> Int -> Int}
    (rule:∀(i j:Int) (t u:Tok) (s:Shared) (Q:Value->Shared->Prop) (E:Value->Shared->Prop),C i j->Q (.int (g i j) s.toks) { s with toks:=s.toks+1 }->wpAny (model X.prog X.w) X.A (f (.int i t) (.int j u)) Q E s) :
    OpR X f (rI C λi j=>.int (g i j)):=by
  intro pins s σ H x y v u Q I rx ry h
  obtain ⟨i,j,rfl,rfl,hc,q⟩:=h
  obtain ⟨t,rfl⟩:=rx
  obtain ⟨t',rfl⟩:=ry
  exact rule i j t t' s _ _ hc ⟨.int (g i j),H,I.tok _,⟨_,rfl⟩,q⟩
theorem xl5 {f : Value -> Value -> Sem Value}{g : Int -> Int -> Int}
    (rule:∀(i j:Int) (t u:Tok) (s:Shared) (Q:Value->Shared->Prop) (E:Value->Shared->Prop),Q (.int (g i j) s.toks) { s with toks:=s.toks+1 }->wpAny (model X.prog X.w) X.A (f (.int i t) (.int j u)) Q E s) :
    OpR X f (rI0 λi j=>.int (g i j)):=by
  intro pins s σ H x y v u Q I rx ry h
  obtain ⟨i,j,rfl,rfl,q⟩:=h
  obtain ⟨t,rfl⟩:=rx
  obtain ⟨t',rfl⟩:=ry
  exact rule i j t t' s _ _ ⟨.int (g i j),H,I.tok _,⟨_,rfl⟩,q⟩
theorem xe4 {f : Value -> Value -> Sem Value}{g : Int -> Int -> Bool}
    (rule:∀(i j:Int) (t u:Tok) (s:Shared) (Q:Value->Shared->Prop) (E:Value->Shared->Prop),Q (.bool (g i j)) s->wpAny (model X.prog X.w) X.A (f (.int i t) (.int j u)) Q E s) :
    OpR X f (rI0 λi j=>.bl (g i j)):=by
  intro pins s σ H x y v u Q I rx ry h
  obtain ⟨i,j,rfl,rfl,q⟩:=h
  obtain ⟨t,rfl⟩:=rx
  obtain ⟨t',rfl⟩:=ry
  exact rule i j t t' s _ _ ⟨.bl (g i j),H,I,rfl,q⟩
def xr3 (i j:Int):Prop:=0<j/\j<1073741824
def xr4 (i j:Int):Prop:=0<=j/\j<=1000000/\i.natAbs<2 ^ 64
def xc1 (i j:Int):Prop:=(-(2 ^ 64)<i/\i<2 ^ 64)∨(-(2 ^ 64)<j/\j<2 ^ 64)
theorem xc1.ok {i j:Int}(h:xc1 i j):IntMulOk i j:=by
  rcases h with ⟨h1,h2⟩|⟨h1,h2⟩
  . exact .of_left (intBits_le_64 h1 h2)
  . exact .of_right (intBits_le_64 h1 h2)
theorem i9:OpR X (binaryOp .Add) (rI0 λi j=>.int (i+j)):=xl5 λ_ _ _ _ _ _ _ q=>add_int q
theorem zv5:OpR X (binaryOp .Sub) (rI0 λi j=>.int (i-j)):=xl5 λ_ _ _ _ _ _ _ q=>sub_int q
theorem P4:OpR X (binaryOp .Mult) (rI xc1 λi j=>.int (i*j)):=opI λ_ _ _ _ _ _ _ hc q=>mul_int q hc.ok
theorem W0:OpR X (binaryOp .FloorDiv) (rI xr3 λi j=>.int (i / j)):=opI λi j _ _ _ _ _ hc q=>by
  have h1:(0:Int)<j:=hc.1
  have h2:j<1073741824:=hc.2
  exact floordiv_int (by omega) (by rw [eZ i (by omega)];exact q) (.inl (PyProof.noPylong_small (by omega)))
theorem l4:OpR X (binaryOp .Mod) (rI (λ_ j=>0<j) λi j=>.int (i % j)):=opI λi j _ _ _ _ _ hc q=>by
  have h1:(0:Int)<j:=hc
  exact mod_int' (by omega) (by rw [Int.fmod_eq_emod_of_nonneg i (by omega)];exact q)
theorem xl7:OpR X (binaryOp .Pow) (rI xr4 λi j=>.int (i ^ j.toNat)):=opI λ_ _ _ _ _ _ _ hc q=>pow_int_small hc.1 hc.2.1 hc.2.2 q
theorem xd4:OpR X (inplaceOp .Add) (rI0 λi j=>.int (i+j)):=xl5 λ_ _ _ _ _ _ _ q=>iadd_int q
theorem unI {f : Value -> Sem Value}{g : Int -> Int}
    (rule:∀(i:Int) (t:Tok) (s:Shared) (Q:Value->Shared->Prop) (E:Value->Shared->Prop),Q (.int (g i) s.toks) { s with toks:=s.toks+1 }->wpAny (model X.prog X.w) X.A (f (.int i t)) Q E s) :
    UnR X f (rU λi=>.int (g i)):=by
  intro pins s σ H x v Q I rx h
  obtain ⟨i,rfl,q⟩:=h
  obtain ⟨t,rfl⟩:=rx
  exact rule i t s _ _ ⟨.int (g i),H,I.tok _,⟨_,rfl⟩,q⟩
theorem xb7:UnR X (unaryOp .USub) (rU λi=>.int (-i)):=unI λ_ _ _ _ _ q=>neg_int q
end
def xq0 : V -> V -> Bool
  | .non,.non=>true | .non,.int _=>true | .int _,.non=>true | .non,.bl _=>true | .bl _,.non=>true | .non,.str _=>true | .str _,.non=>true
  | .int _,.int _=>true | .bl _,.bl _=>true | .str _,.str _=>true | .byt _,.byt _=>true
  | .int _,.str _=>true | .str _,.int _=>true | .bl _,.str _=>true | .str _,.bl _=>true
  | _,_=>false
def rEq:R2:=λx y H Q=>xq0 x y=true/\Q (.bl (decide (x=y))) H
def rNe:R2:=λx y H Q=>xq0 x y=true/\Q (.bl (!decide (x=y))) H
theorem yl1 {i j:Int}:decide (V.int i=V.int j)=(i==j):=by
  rw [dZ]
  simp
theorem yu5 {i j:Bool}:decide (V.bl i=V.bl j)=(i==j):=by
  rw [dZ]
  simp
theorem yl2 {i j:Str}:decide (V.str i=V.str j)=(i==j):=by
  rw [dZ]
  simp
theorem yl0 {i j:Array UInt8}:decide (V.byt i=V.byt j)=(i.toList==j.toList):=by
  rw [dZ]
  cases i
  cases j
  simp
section
variable {X:Cx}{a b c:Expr}{ta tb tc:TE}{pos:Pos}
theorem n6 {pins:List (Addr×Obj)}{σ:St}{H:Hp}{s:Shared}{Q:VK}{k k':Bool}(I:Inv X pins σ H s)(q:Q (.bl k) H)(e:k=k'):EP X pins σ Q (.bool k') s:=by
  subst e
  exact ⟨.bl k,H,I,rfl,q⟩
theorem O3:OpR X (compareOp .Eq) rEq:=by
  intro pins s σ H x y v u Q I rx ry h
  obtain ⟨hs,q⟩:=h
  cases x with
  | non =>
    cases rx
    cases y with
    | non=>cases ry;exact PySem.EqNone.eq_none_none (n6 I q (by simp))
    | bl j=>cases ry;exact PySem.EqNone.eq_none_bool (n6 I q (by simp))
    | int j=>obtain ⟨t',rfl⟩:=ry;exact PySem.EqNone.eq_none_int (n6 I q (by simp))
    | str j=>obtain ⟨t',rfl⟩:=ry;exact PySem.EqNone.eq_none_str (n6 I q (by simp))
    | _=>exact absurd (show false=true from hs) aI
  | bl i =>
    cases rx
    cases y with
    | non=>cases ry;exact PySem.EqNone.eq_bool_none (n6 I q (by simp))
    | bl j=>cases ry;exact eq_bool (n6 I q yu5)
    | str j=>obtain ⟨t',rfl⟩:=ry;exact PySem.EqMixed.eq_bool_str (n6 I q (by simp))
    | _=>exact absurd (show false=true from hs) aI
  | int i =>
    obtain ⟨t,rfl⟩:=rx
    cases y with
    | non=>cases ry;exact PySem.EqNone.eq_int_none (n6 I q (by simp))
    | int j=>obtain ⟨t',rfl⟩:=ry;exact eq_int (n6 I q yl1)
    | str j=>obtain ⟨t',rfl⟩:=ry;exact PySem.EqMixed.eq_int_str (n6 I q (by simp))
    | _=>exact absurd (show false=true from hs) aI
  | str i =>
    obtain ⟨t,rfl⟩:=rx
    cases y with
    | non=>cases ry;exact PySem.EqNone.eq_str_none (n6 I q (by simp))
    | bl j=>cases ry;exact PySem.EqMixed.eq_str_bool (n6 I q (by simp))
    | int j=>obtain ⟨t',rfl⟩:=ry;exact PySem.EqMixed.eq_str_int (n6 I q (by simp))
    | str j=>obtain ⟨t',rfl⟩:=ry;exact eq_str (n6 I q yl2)
    | _=>exact absurd (show false=true from hs) aI
  | byt i =>
    obtain ⟨t,rfl⟩:=rx
    cases y with
    | byt j=>obtain ⟨t',rfl⟩:=ry;exact W.eq_bytes (n6 I q yl0)
    | _=>exact absurd (show false=true from hs) aI
  | _=>cases y <;> exact absurd (show false=true from hs) aI
theorem yc5:OpR X (compareOp .NotEq) rNe:=by
  intro pins s σ H x y v u Q I rx ry h
  obtain ⟨hs,q⟩:=h
  cases x with
  | non =>
    cases rx
    cases y with
    | non=>cases ry;exact PySem.EqNone.ne_none_none (n6 I q (by simp))
    | bl j=>cases ry;exact PySem.EqNone.ne_none_bool (n6 I q (by simp))
    | int j=>obtain ⟨t',rfl⟩:=ry;exact PySem.EqNone.ne_none_int (n6 I q (by simp))
    | str j=>obtain ⟨t',rfl⟩:=ry;exact PySem.EqNone.ne_none_str (n6 I q (by simp))
    | _=>exact absurd (show false=true from hs) aI
  | bl i =>
    cases rx
    cases y with
    | non=>cases ry;exact PySem.EqNone.ne_bool_none (n6 I q (by simp))
    | bl j=>cases ry;exact ne_bool (n6 I q (congrArg not yu5))
    | str j=>obtain ⟨t',rfl⟩:=ry;exact PySem.EqMixed.ne_bool_str (n6 I q (by simp))
    | _=>exact absurd (show false=true from hs) aI
  | int i =>
    obtain ⟨t,rfl⟩:=rx
    cases y with
    | non=>cases ry;exact PySem.EqNone.ne_int_none (n6 I q (by simp))
    | int j=>obtain ⟨t',rfl⟩:=ry;exact ne_int (n6 I q (congrArg not yl1))
    | str j=>obtain ⟨t',rfl⟩:=ry;exact PySem.EqMixed.ne_int_str (n6 I q (by simp))
    | _=>exact absurd (show false=true from hs) aI
  | str i =>
    obtain ⟨t,rfl⟩:=rx
    cases y with
    | non=>cases ry;exact PySem.EqNone.ne_str_none (n6 I q (by simp))
    | bl j=>cases ry;exact PySem.EqMixed.ne_str_bool (n6 I q (by simp))
    | int j=>obtain ⟨t',rfl⟩:=ry;exact PySem.EqMixed.ne_str_int (n6 I q (by simp))
    | str j=>obtain ⟨t',rfl⟩:=ry;exact ne_str (n6 I q (congrArg not yl2))
    | _=>exact absurd (show false=true from hs) aI
  | byt i =>
    obtain ⟨t,rfl⟩:=rx
    cases y with
    | byt j=>obtain ⟨t',rfl⟩:=ry;exact W.ne_bytes (n6 I q (congrArg not yl0))
    | _=>exact absurd (show false=true from hs) aI
  | _=>cases y <;> exact absurd (show false=true from hs) aI
theorem ym3:OpR X (compareOp .Lt) (rI0 λi j=>.bl (decide (i<j))):=xe4 λ_ _ _ _ _ _ _ q=>lt_int q
theorem yc4:OpR X (compareOp .LtE) (rI0 λi j=>.bl (decide (i<=j))):=xe4 λ_ _ _ _ _ _ _ q=>le_int q
theorem ym2:OpR X (compareOp .Gt) (rI0 λi j=>.bl (decide (j<i))):=xe4 λ_ _ _ _ _ _ _ q=>gt_int q
theorem xp3:OpR X (compareOp .GtE) (rI0 λi j=>.bl (decide (j<=i))):=xe4 λ_ _ _ _ _ _ _ q=>ge_int q
theorem xe7:OpR X (compareOp .IsNot) (λx y H Q=>y=.non/\Q (.bl (!decide (x=.non))) H):=by
  intro pins s σ H x y v u Q I rx ry h
  obtain ⟨rfl,q⟩:=h
  cases ry
  refine isnot_none_gen (n6 I q ?_)
  cases x <;> first
    | (cases rx;rfl)
    | (obtain ⟨t,rfl⟩:=rx;rfl)
theorem p7 (b:Expr){op:CmpOp}(h:op≠.In:=by decide)(h2:op≠.NotIn:=by decide):behindInMarks op b=false:=by
  have e1:(op==CmpOp.In)=false:=by cases op <;> first|rfl|exact absurd rfl h
  have e2:(op==CmpOp.NotIn)=false:=by cases op <;> first|rfl|exact absurd rfl h2
  cases b <;> simp [behindInMarks,e1,e2]
theorem S9 {op:CmpOp}{r:R2}(ho:OpR X (compareOp op) r)(ha:PE X a ta)(hb:PE X b tb)(hm:behindInMarks op b=false):PE X (.Compare a [op] [b] pos) (tOp r ta tb):=by
  intro pins s σ H Q I h
  exact wpAny_Compare1 (xj0 ha hb I h λv u s2 x y H2 I2 rx ry q=>ho pins s2 σ H2 x y v u Q I2 rx ry q) hm
def xi7 (t:TE):TT:=λσ H Q=>t σ H λx H'=>∃k,x=.bl k/\Q k H'
theorem o4 {op:CmpOp}{r:R2}(ho:OpR X (compareOp op) r)(ha:PE X a ta)(hb:PE X b tb)(hm:behindInMarks op b=false):PT X (.Compare a [op] [b] pos) (xi7 (tOp r ta tb)):=by
  intro pins s σ H Q I h
  refine wpAny_isTrue_Compare1 (thn (ha pins s σ H _ I h) λv s1 ⟨x,H1,I1,r1,q1⟩=>thn (hb pins s1 σ H1 _ I1 q1) λu s2 ⟨y,H2,I2,r2,q2⟩ =>
    thn (ho pins s2 σ H2 x y v u _ I2 r1 r2 q2) λc s3 ⟨z,H3,I3,r3,k,e,q3⟩=>?_) hm
  subst e
  cases r3
  exact wpAny_truthy_bool ⟨H3,I3,q3⟩
def xm9 (r r':R2)(ta tb tc:TE):TE:=λσ H Q=>ta σ H λx H1=>tb σ H1 λy H2=>r x y H2 λz H3=>∃k,z=.bl k /\
  (if k=true then tc σ H3 λw' H4=>r' y w' H4 Q else Q (.bl false) H3)
theorem zm6 {op op' : CmpOp}{r r' : R2}(ho : OpR X (compareOp op) r)(ho' : OpR X (compareOp op') r')(ha : PE X a ta)(hb : PE X b tb)(hc : PE X c tc)
    (hm:lastMarks [op,op'] [b,c]=false:=by with_unfolding_all rfl):PT X (.Compare a [op,op'] [b,c] pos) (xi7 (xm9 r r' ta tb tc)):=by
  intro pins s σ H Q I h
  refine isTrue_chain (thn (ha pins s σ H _ I h) λv s1 ⟨x,H1,I1,r1,q1⟩=>test_link (thn (hb pins s1 σ H1 _ I1 q1) λu s2 ⟨y,H2,I2,r2,q2⟩ =>
    thn (ho pins s2 σ H2 x y v u _ I2 r1 r2 q2) λd s3 ⟨z,H3,I3,r3,k,e,q3⟩=>?_)) hm
  subst e
  cases r3
  refine wpAny_truthy_bool ?_
  cases k with
  | false =>
    obtain ⟨k',e',q'⟩:=q3
    cases e'
    exact ite_ff ⟨H3,I3,q'⟩
  | true =>
    refine ite_tt (test_last (thn (hc pins s3 σ H3 _ I3 q3) λw' s4 ⟨z',H4,I4,r4,q4⟩=>thn (ho' pins s4 σ H4 y z' u w' _ I4 r2 r4 q4) λd' s5 ⟨z2,H5,I5,r5,k2,e2,q5⟩=>?_))
    subst e2
    cases r5
    exact wpAny_truthy_bool ⟨H5,I5,q5⟩
theorem zl2:(sizeLine:Nat)<2 ^ 63:=by rw [sizeLine_eq];decide
theorem M5 {x:V}{us:List Value}(r:p9 [x] us):∃u,us=[u]/\o6 x u:=by
  cases r with
  | cons r1 r2=>cases r2;exact ⟨_,rfl,r1⟩
theorem xb9 {x y:V}{us:List Value}(r:p9 [x,y] us):∃u w',us=[u,w']/\o6 x u/\o6 y w':=by
  cases r with
  | cons r1 r2 =>
    cases r2 with
    | cons r3 r4=>cases r4;exact ⟨_,_,rfl,r1,r3⟩
end
structure yf5 (h:Heap) (x dx C:Addr) (mA:Str->Option Value):Prop where
  obj:h.get? x=some (W.instObj C dx)
  ns:h.Ns1 dx mA
  ne:dx≠x
theorem yr2 {h:Heap}{dx:Addr}{mA:Str->Option Value}(n:h.Ns1 dx mA):∃od,h.get? dx=some od/\∀name,W.lookIn name od=some (mA name):=by
  obtain ⟨o,es,ep,ho,hd,hk,_,hm⟩:=n
  refine ⟨o,ho,λname=>?_⟩
  have e:=hm name
  unfold nsFind findBy at e
  rw [←Array.find?_toList] at e
  unfold W.lookIn
  rw [hd]
  dsimp only
  split
  . rename_i y q
    rw [q] at e
    exact congrArg some e
  . rename_i q
    rw [q] at e
    have a:es.toList.any (·.refKey)=false:=by
      rw [List.any_eq_false]
      intro y hy
      obtain ⟨z,t,hkey⟩:=hk y (Array.mem_toList_iff.mp hy)
      simp [DictEntry.refKey,hkey]
    have a':¬es.toList.any (·.refKey)=true:=by rw [a];exact aI
    rw [if_neg a']
    exact congrArg some e
theorem yf5.look {h:Heap}{x dx C:Addr}{mA:Str->Option Value}(I:yf5 h x dx C mA):∃od,W.InstAt h x (W.instObj C dx) C (some od)/\∀name,W.lookIn name od=some (mA name) :=
  let ⟨od,ho,hl⟩:=yr2 I.ns
  ⟨od,⟨I.obj,rfl,rfl,ho⟩,hl⟩
section
variable {prog:Program}{w:World}{A:Around}{E:Value->Shared->Prop}{s:Shared}{K:W.Frag}{x dx C f:Addr}{mA:Str->Option Value}{name:Str}{v:Value}
theorem xd3 {expr : Bool}{Q : Value -> Shared -> Prop}(X : K.In s.heap)(I : yf5 s.heap x dx C mA)(hg : W.plainGet K C name = true)(hh : W.hasDictIn K C = true)
    (ha:W.findIn K (.ref C) name=some none) (hv:mA name=some v) (hv':W.handedIn v=true) (h:Q v { s with toks:=s.toks+1 }) :
    wpAny (model prog w) A (getAttr (.ref x) name expr) Q E s:=by
  obtain ⟨od,J,hl⟩:=I.look
  exact W.get_value X J (W.plainGet_of hg).1 (W.findObj_own hh ha rfl (by rw [hl,hv])) hv' h
theorem yv8 {pl : Sem Bool}{Q : Value×List Value -> Shared -> Prop}(X : K.In s.heap)(I : yf5 s.heap x dx C mA)(hg : W.plainGet K C name = true)
    (hf:W.findIn K (.ref C) name=some (some (.ref f))) (ht:W.isFn K (.ref f)=true) (hv:mA name=none) (h:Q (.ref f,[.ref x]) s) :
    wpAny (model prog w) A (getMethod (.ref x) name pl) Q E s:=by
  obtain ⟨od,J,hl⟩:=I.look
  exact W.method_fn X J (W.plainGet_of hg).1 (W.plainGet_of hg).2 hf (beq_iff_eq.mp ht) (by show (W.lookIn name od).map (·.isSome)=some false;rw [hl,hv];rfl) h
theorem xg3 {ns : List Str}{Q : Unit -> Shared -> Prop}(X : K.In s.heap)(I : yf5 s.heap x dx C mA)
    (hs:W.findIn K (.ref C) "__setattr__"=some (some (.builtin "object.__setattr__"))) (hp:W.plainOver K C=true) (ht:W.takerIn K C name=some none) (hh:W.hasDictIn K C=true)
    (hw:PySem.Within mA ns) (hsz:ns.length<=sizeLine)
    (h:∀h',yf5 h' x dx C (λy=>if y=name then some v else mA y)->Heap.SameBut dx s.heap h'->Q () { s with heap:=h',toks:=s.toks+2 }) :
    wpAny (model prog w) A (setAttr (.ref x) name v) Q E s:=by
  obtain ⟨od,J,hl⟩:=I.look
  refine W.set_plain X J hs (W.osa_open (s:={ s with toks:=s.toks+1 }) (r:=none) X J hp ht λb=>?_)
  obtain ⟨cd,hc,hd'⟩:=W.any_some hh
  have hx:s.heap.get? x=some ⟨.ref C,some dx,.plain,#[]⟩:=I.obj
  refine wpAny_bind (wpAny_pure (wpAny_bind (wpAny_bind (wpAny_loadPart hx (wpAny_bind (W.Looks.here (s:={ s with toks:=s.toks+1 }) (W.looks_clsIn X hc) ?_))))))
  rw [hd']
  refine wpAny_pure (a:=some dx) (wpAny_bind (wpAny_pure (wpAny_bind ?_)))
  refine wpAny_nsSet1 (s:={ s with toks:=s.toks+1 }) I.ns λh' hn2 hs2=>?_
  obtain ⟨oD,esD,epD,hoD,hdD,hcD⟩:=hn2.count (PySem.Within.cons name v hw)
  refine wpAny_bind (wpAny_lookBehind hoD (by rw [hdD];exact pastItsLine_dict (aB hcD (by rw [az];omega))) ?_)
  exact wpAny_pure (h _ ⟨(hs2.2 _ (Ne.symm I.ne)).trans I.obj,hn2,I.ne⟩ hs2)
theorem yx4 {R : Result -> Shared -> Prop}{vs : List Value}{kw : List (Str×Value)}(X : K.In s.heap)(hm : W.makesIn K C = true)
    (hi:W.findIn K (.ref C) "__init__"=some (some (.ref f))) (hf:W.typeIn K (.ref f)=some (.type "function"))
    (h : codeAny (model prog w) (A.under (.builtin "type.__call__" ⟨.ref C::vs, kw⟩)) (.call (.ref f) ⟨.ref (s.heap.objs.size+1)::vs, kw⟩) (W.InitBack (s.heap.objs.size+1) R)
      { s with heap:=(s.heap.push W.emptyDict).push (W.instObj C s.heap.objs.size) }) :
    codeAny (model prog w) A (.call (.ref C) ⟨vs,kw⟩) R s:=by
  obtain ⟨hh,g,d,t,os⟩:=s
  exact W.make_core (W.makes_of X hm) (W.looks_findIn X hi) (λself=>W.bind_fn X self hf) (.inl rfl) h
end
def X2 (f : Str)(v : V) : List (Str×V) -> List (Str×V)
  | []=>[(f,v)]
  | (g,x)::r=>if g=f then (g,v)::r else (g,x)::X2 f v r
theorem zg4 (f g : Str)(v : V) : ∀fs : List (Str×V), (X2 f v fs).lookup g = if g = f then some v else fs.lookup g
  | []=>by
    show List.lookup g [(f,v)]=_
    by_cases h:g=f
    . have hb : (g==f) = true := beq_iff_eq.mpr h
      simp only [List.lookup,hb,if_pos h]
    . have hb : (g==f) = false := beq_eq_false_iff_ne.mpr h
      simp only [List.lookup,hb,if_neg h]
  | (k,x)::r=>by
    have ih:=zg4 f g v r
    rw [show X2 f v ((k,x)::r)=(if k=f then (k,v)::r else (k,x)::X2 f v r) from rfl]
    by_cases hk:k=f
    . rw [if_pos hk]
      by_cases h:g=k
      . have hb : (g==k) = true := beq_iff_eq.mpr h
        simp only [List.lookup,hb,if_pos (h.trans hk)]
      . have hb : (g==k) = false := beq_eq_false_iff_ne.mpr h
        simp only [List.lookup,hb,if_neg (λe:g=f=>h (e.trans hk.symm))]
    . rw [if_neg hk]
      by_cases h:g=k
      . have hb : (g==k) = true := beq_iff_eq.mpr h
        simp only [List.lookup,hb,if_neg (λe:g=f=>hk (h.symm.trans e))]
      . have hb : (g==k) = false := beq_eq_false_iff_ne.mpr h
        simp only [List.lookup,hb]
        exact ih
theorem ze2 (f : Str)(v : V) : ∀fs : List (Str×V), f ∈ (X2 f v fs).map (·.1) /\ ∀g, g ∈ fs.map (·.1) -> g ∈ (X2 f v fs).map (·.1)
  | []=>⟨by simp [X2],λg h=>by simp at h⟩
  | (k,x)::r=>by
    obtain ⟨i1,i2⟩:=ze2 f v r
    rw [show X2 f v ((k,x)::r)=(if k=f then (k,v)::r else (k,x)::X2 f v r) from rfl]
    by_cases hk:k=f
    . rw [if_pos hk]
      subst hk
      exact ⟨by simp,λg h=>by simpa using h⟩
    . rw [if_neg hk]
      refine ⟨?_,λg h=>?_⟩
      . rw [aR]
        exact ao _ i1
      . rw [aR] at h ⊢
        rcases ay.mp h with e|e
        . exact ay.mpr (.inl e)
        . exact ao _ (i2 g e)
theorem zg3 (f : Str)(v : V) : ∀fs : List (Str×V), (X2 f v fs).length <= fs.length+1
  | []=>by simp [X2]
  | (k,x)::r=>by
    have ih:=zg3 f v r
    rw [show X2 f v ((k,x)::r)=(if k=f then (k,v)::r else (k,x)::X2 f v r) from rfl]
    by_cases hk:k=f
    . rw [if_pos hk,az,az];omega
    . rw [if_neg hk,az,az];omega
theorem D8.some_of {v:V}{o:Option Value}(r:D8 (some v) o):∃u,o=some u/\o6 v u:=by
  cases o with
  | none=>exact (show False from r).elim
  | some u=>exact ⟨u,rfl,r⟩
theorem D8.none_of {o:Option Value}(r:D8 none o):o=none:=by
  cases o with
  | none=>rfl
  | some u=>exact (show False from r).elim
theorem yq1 {v:V}{u:Value}(r:o6 v u):W.handedIn u=true:=by
  cases v with
  | non=>cases (show u=Value.none from r);rfl
  | bl b=>cases (show u=Value.bool b from r);rfl
  | int i=>obtain ⟨t,e⟩:=(show ∃t,u=Value.int i t from r);cases e;rfl
  | str x=>obtain ⟨t,e⟩:=(show ∃t,u=Value.str x t from r);cases e;rfl
  | byt b=>obtain ⟨t,e⟩:=(show ∃t,u=Value.bytes b t from r);cases e;rfl
  | flt b=>obtain ⟨t,e⟩:=(show ∃t,u=Value.float b t from r);cases e;rfl
  | ref a=>cases (show u=Value.ref a from r);rfl
  | ty n=>cases (show u=Value.type n from r);rfl
section
variable {P:Program}{w:World}{H H':Hp}{h h':Heap}{a C dx:Addr}{fs fs':List (Str×V)}
theorem za2 (hok:HOk P w H h)(e:H a=some (.ins C dx fs)):∃mA,yf5 h a dx C mA/\(∀f,D8 (fs.lookup f) (mA f))/\PySem.Within mA (fs.map (·.1))/\fs.length<=1000/\H dx=some (.own a):=by
  obtain ⟨d,z,ne,ob,mA,n,r,q⟩:=(show n8 P w H h a (.ins C dx fs) from hok a _ e)
  exact ⟨mA,⟨ob,n,ne⟩,r,q,z,d⟩
end
structure Cls (K:W.Frag) (C:Addr):Prop where
  pg:W.plainGet K C Str.empty=true
  hd:W.hasDictIn K C=true
  po:W.plainOver K C=true
  sa:W.findIn K (.ref C) "__setattr__"=some (some (.builtin "object.__setattr__"))
theorem Cls.get {K:W.Frag}{C:Addr}(c:Cls K C)(f:Str):W.plainGet K C f=true:=c.pg
def J6 (K:W.Frag)(C:Addr)(f:Str):Prop:=W.findIn K (.ref C) f=some none
theorem J6.taker {K:W.Frag}{C:Addr}{f:Str}(n:J6 K C f):W.takerIn K C f=some none:=by
  unfold W.takerIn
  rw [show W.findIn K (.ref C) f=some none from n]
  rfl
structure yt7 (K:W.Frag) (C:Addr) (m:Str) (f:Addr):Prop where
  at_:W.findIn K (.ref C) m=some (some (.ref f))
  fn:W.isFn K (.ref f)=true
  kp:W.keepIn K (.ref f)=true
section
variable {X:Cx}{pins:List (Addr×Obj)}{σ:St}{H:Hp}{s:Shared}{a C dx:Addr}{fs:List (Str×V)}{f:Str}{v:V}{A:Around}{E:Value->Shared->Prop}
theorem zk4 {b : Bool}{Q : Value -> Shared -> Prop}(I : Inv X pins σ H s)(e : H a = some (.ins C dx fs))(c : Cls X.K C)(n : J6 X.K C f)(l : fs.lookup f = some v)
    (h:∀u s',Inv X pins σ H s'->o6 v u->Q u s'):wpAny (model X.prog X.w) A (getAttr (.ref a) f b) Q E s:=by
  obtain ⟨mA,O,r,_,_,_⟩:=za2 I.hok e
  obtain ⟨u,hu,ru⟩:=D8.some_of (v:=v) (o:=mA f) (by rw [←l];exact r f)
  exact xd3 I.kIn O (c.get f) c.hd n hu (yq1 ru) (h u _ (I.tok _) ru)
theorem B4 {m : Str}{g : Addr}{pl : Sem Bool}{Q : Value×List Value -> Shared -> Prop}(I : Inv X pins σ H s)(e : H a = some (.ins C dx fs))(c : Cls X.K C)(k : yt7 X.K C m g)(l : fs.lookup m = none)
    (h:Q (.ref g,[.ref a]) s):wpAny (model X.prog X.w) A (getMethod (.ref a) m pl) Q E s:=by
  obtain ⟨mA,O,r,_,_,_⟩:=za2 I.hok e
  have hn:mA m=none:=D8.none_of (by rw [←l];exact r m)
  exact yv8 I.kIn O (c.get m) k.at_ k.fn hn h
theorem zn3 {y : V}{u : Value}{Q : Unit -> Shared -> Prop}(I : Inv X pins σ H s)(e : H a = some (.ins C dx fs))(c : Cls X.K C)(n : J6 X.K C f)(hl : fs.length<1000)(ry : o6 y u)
    (h:∀s',Inv X pins σ (upd H a (.ins C dx (X2 f y fs))) s'->Q () s'):wpAny (model X.prog X.w) A (setAttr (.ref a) f u) Q E s:=by
  obtain ⟨mA,O,r,wi,_,ho⟩:=za2 I.hok e
  have hz:(fs.map (·.1)).length<=sizeLine:=by rw [ae,sizeLine_eq];omega
  refine xg3 I.kIn O c.sa c.po n.taker c.hd wi hz λh' O' sb=>h _ ?_
  have hd:∃o,h'.get? dx=some o:=let ⟨o,_,_,e',_⟩:=O'.ns;⟨o,e'⟩
  refine I.write (x:=a) (e:=dx) (by rw [e];exact True.intro) (.inr ho) (λb q hb z=>(sb.2 b hb).trans z) hd ?_
  refine ⟨by rw [z7 O.ne];exact ho,?_,O.ne,O'.obj,_,O'.ns,λg=>?_,λg hg=>?_⟩
  . have:=zg3 f y fs;omega
  . show D8 ((X2 f y fs).lookup g) (if g = f then some u else mA g)
    rw [zg4]
    by_cases q:g=f
    . rw [if_pos q,if_pos q];exact ry
    . rw [if_neg q,if_neg q];exact r g
  . by_cases q : g = f
    . rw [q];exact (ze2 f y fs).1
    . refine (ze2 f y fs).2 g (wi g λz => hg ?_)
      show (if g=f then some u else mA g)=none
      rw [if_neg q];exact z
theorem Inv.made (I : Inv X pins σ H s) : Inv X pins σ (upd (upd H s.heap.objs.size (.own (s.heap.objs.size+1))) (s.heap.objs.size+1) (.ins C s.heap.objs.size []))
    { s with heap:=(s.heap.push W.emptyDict).push (W.instObj C s.heap.objs.size) }:=by
  have e1:(s.heap.push W.emptyDict).get? s.heap.objs.size=some W.emptyDict:=aG s.heap rfl
  have e2:((s.heap.push W.emptyDict).push (W.instObj C s.heap.objs.size)).get? (s.heap.objs.size+1)=some (W.instObj C s.heap.objs.size):=by
    have:=aG (s.heap.push W.emptyDict) (o:=W.instObj C s.heap.objs.size) rfl
    rwa [eD] at this
  have e3:(s.heap.push W.emptyDict).Ns s.heap.objs.size (λ_=>none):=⟨W.emptyDict,#[],_,e1,rfl,(λe he=>absurd he (by simp)),λ_=>rfl⟩
  have I1:=I.laid (a:=s.heap.objs.size) (o:=.own (s.heap.objs.size+1)) (h':=s.heap.push W.emptyDict) (t':=s.toks) (λb u q=>av _ q) (af _) ⟨_,e1⟩
  refine I1.laid (a:=s.heap.objs.size+1) (o:=.ins C s.heap.objs.size []) (t':=s.toks) (λb u q=>av _ q) (fj (eD _ _)) ?_
  have ne:s.heap.objs.size≠s.heap.objs.size+1:=aS (cP _)
  refine ⟨by rw [z7 ne,z5],aQ _,ne,e2,λ_=>none,(Heap.Ns1.of_empty e3).at λo q=>av _ q,λ_=>True.intro,λy hy=>absurd rfl hy⟩
theorem xc5 {prog : Program}{w : World}{env : Env}{e : Expr}{f : Str}{pos : Pos}{s : Shared}{Q : Value -> Shared -> Prop}(hb : attributeBase e f env (eval e env) = eval e env)
    (h:wpAny (model prog w) A (eval e env) (λo s₁=>wpAny (model prog w) A (getAttr o f true) Q E s₁) E s):wpAny (model prog w) A (eval (.Attribute e f pos) env) Q E s :=
  Attribute_any_ h (by rw [arm_eval_Attribute,hb])
end
def xt2 (K:W.Frag)(ta:TE)(f:Str):TE:=λσ H Q=>ta σ H λx H1=>∃a C dx fs v,x=.ref a/\H1 a=some (.ins C dx fs)/\Cls K C/\J6 K C f/\fs.lookup f=some v/\Q v H1
def xs8 (K:W.Frag)(ta tv:TE)(f:Str):TS:=λD σ H=>tv σ H λy H1=>ta σ H1 λx H2=>∃a C dx fs,x=.ref a/\H2 a=some (.ins C dx fs)/\Cls K C/\J6 K C f/\fs.length<1000 /\
  D.nx σ (upd H2 a (.ins C dx (X2 f y fs)))
def xr5 (X:Cx)(op:Operator)(rd:V->V->Hp->VK->Prop):Prop :=
  ∀(pins:List (Addr×Obj)) (s:Shared) (σ:St) (H:Hp) (x y:V) (u v:Value) (Q:VK),Inv X pins σ H s->o6 x u->o6 y v->rd x y H Q->wpAny (model X.prog X.w) X.A (inplaceOp op u v) (EP X pins σ Q) X.xe s
def xg1 (K:W.Frag)(ta tv:TE)(rd:V->V->Hp->VK->Prop)(f:Str):TS:=λD σ H=>ta σ H λx H1=>∃a C dx fs v,x=.ref a/\H1 a=some (.ins C dx fs)/\Cls K C/\J6 K C f/\fs.lookup f=some v /\
  tv σ H1 λy H2=>rd v y H2 λz H3=>∃dx' fs',H3 a=some (.ins C dx' fs')/\fs'.length<1000/\D.nx σ (upd H3 a (.ins C dx' (X2 f z fs')))
section
variable {X:Cx}{o e value:Expr}{f:Str}{pos pos' tpos:Pos}{ta tv:TE}
theorem w6 (he:PE X e ta)(hb:attributeBase e f X.env (eval e X.env)=eval e X.env):PE X (.Attribute e f pos) (xt2 X.K ta f):=by
  intro pins s σ H Q I h
  refine xc5 hb (thn (he pins s σ H _ I h) λu s1 ⟨x,H1,I1,rx,a,C,dx,fs,v,ex,ea,c,n,l,q⟩=>?_)
  subst ex
  obtain rfl:u=Value.ref a:=rx
  exact zk4 I1 ea c n l λu' s2 I2 ru=>⟨v,H1,I2,ru,q⟩
theorem V8 (ha:PE X o ta)(hv:PE X value tv)(hs:swapsWith value (some (.Attribute o f pos')) pos.line X.env=pure false):PS X (.Assign [.Attribute o f pos'] value pos) (xs8 X.K ta tv f):=by
  intro pins s σ H D I h
  refine plainObj_wpAny_Assign_Attribute (thn (hv pins s σ H _ I h) λu s1 ⟨y,H1,I1,ry,q⟩=>thn (ha pins s1 σ H1 _ I1 q) λov s2 ⟨x,H2,I2,rx,a,C,dx,fs,ex,ea,c,n,l,q2⟩=>?_) hs
  subst ex
  obtain rfl:ov=Value.ref a:=rx
  exact zn3 I2 ea c n l ry λs3 I3=>⟨σ,_,I3,q2⟩
theorem ys1 {op:Operator}{rd:V->V->Hp->VK->Prop}(ha:PE X o ta)(hv:PE X value tv)(hop:xr5 X op rd):PS X (.AugAssign (.Attribute o f tpos) op value pos) (xg1 X.K ta tv rd f):=by
  intro pins s σ H D I h
  refine wpAny_AugAssign_AttributeAny (thn (ha pins s σ H _ I h) λov s1 ⟨x,H1,I1,rx,a,C,dx,fs,v,ex,ea,c,n,l,q⟩=>?_)
  subst ex
  obtain rfl:ov=Value.ref a:=rx
  refine zk4 I1 ea c n l λu s2 I2 ru=>thn (hv pins s2 σ H1 _ I2 q) λw3 s3 ⟨y,H2,I3,ry,q3⟩=>thn (hop pins s3 σ H2 v y u w3 _ I3 ru ry q3) λw4 s4 ⟨z,H3,I4,rz,dx',fs',ea',l',q4⟩=>?_
  exact zn3 I4 ea' c n l' rz λs5 I5=>⟨σ,_,I5,q4⟩
end
section
variable {X:Cx}{pins:List (Addr×Obj)}{σ:St}{H:Hp}{s:Shared}{A:Around}{E:Value->Shared->Prop}{Q:Value->Shared->Prop}{c:Value}{b:Bool}
inductive M7 (K:W.Frag) (H:Hp):V->Value->Prop where
  | non:M7 K H .non (.type "NoneType")
  | bl (x:Bool):M7 K H (.bl x) (.type "bool")
  | int (i:Int):M7 K H (.int i) (.type "int")
  | str (x:Str):M7 K H (.str x) (.type "str")
  | flt (x:UInt64):M7 K H (.flt x) (.type "float")
  | lst {a:Addr} {xs:List V} (e:H a=some (.lst xs)):M7 K H (.ref a) (.type "list")
  | frz {a:Addr} {o:Obj} {xs:List V} (e:H a=some (.frz o (.lst xs))):M7 K H (.ref a) (.type "list")
  | tup {a:Addr} {xs:List V} (e:H a=some (.tup xs)):M7 K H (.ref a) (.type "tuple")
  | dK {a:Addr} {kvs:List (Key×V)} (e:H a=some (.dK kvs)):M7 K H (.ref a) (.type "dict")
  | dT {a:Addr} {kvs:List (List Key×V)} (e:H a=some (.dT kvs)):M7 K H (.ref a) (.type "dict")
  | ins {a C dx : Addr} {fs : List (Str×V)} (e : H a = some (.ins C dx fs)) (cl : Cls K C) (ha : W.findIn K (.ref C) "__class__" = some (some (.builtin "object.__class__")))
      (hn:W.specialIn K (.builtin "object.__class__") "__get__"=some (some (.builtin "getset_descriptor.__get__"))) (htk:W.takesIn K (.builtin "object.__class__")=some true)
      (hm:W.mroIn K C (.type "object")=some true):M7 K H (.ref a) (.ref C)
theorem yq6 {x : V}{u t : Value}(I : Inv X pins σ H s)(rx : o6 x u)(ty : M7 X.K H x t)(e : W.kitOne X.K t c = some b)(h : ∀tk, Q (.bool b) { s with toks := tk }) :
    wpAny (model X.prog X.w) A (call (.builtin "isinstance") [u,c]) Q E s:=by
  cases ty with
  | non=>cases (show u=Value.none from rx);exact W.kia_one W.kitx_none I.kIn True.intro e (λz=>nomatch z) h
  | bl y=>cases (show u=Value.bool y from rx);exact W.kia_one W.kitx_bool I.kIn True.intro e (λz=>nomatch z) h
  | int i=>obtain ⟨t,q⟩:=(show ∃t,u=Value.int i t from rx);cases q;exact W.kia_one W.kitx_int I.kIn True.intro e (λz=>nomatch z) h
  | str y=>obtain ⟨t,q⟩:=(show ∃t,u=Value.str y t from rx);cases q;exact W.kia_one W.kitx_str I.kIn True.intro e (λz=>nomatch z) h
  | flt y=>obtain ⟨t,q⟩:=(show ∃t,u=Value.float y t from rx);cases q;exact W.kia_one W.kitx_float I.kIn True.intro e (λz=>nomatch z) h
  | @lst a xs ea =>
    cases (show u=Value.ref a from rx)
    obtain ⟨_,_,n,_,h1⟩:=(show n8 X.prog X.w H s.heap a (.lst xs) from I.hok a _ ea)
    exact W.kia_one W.kitx_list I.kIn ⟨_,h1,rfl⟩ e (λz=>nomatch z) h
  | @frz a ob xs ea =>
    cases (show u=Value.ref a from rx)
    obtain ⟨_,_,_,n,_,h1⟩:=(show n8 X.prog X.w H s.heap a (.frz ob (.lst xs)) from I.hok a _ ea)
    exact W.kia_one W.kitx_list I.kIn ⟨_,h1,rfl⟩ e (λz=>nomatch z) h
  | @tup a xs ea =>
    cases (show u=Value.ref a from rx)
    obtain ⟨_,_,_,p⟩:=(show n8 X.prog X.w H s.heap a (.tup xs) from I.hok a _ ea)
    obtain ⟨o,h1,h2,_⟩:=p
    exact W.kia_one W.kitx_tuple I.kIn ⟨o,h1,h2⟩ e (λz=>nomatch z) h
  | @dK a kvs ea =>
    cases (show u=Value.ref a from rx)
    obtain ⟨_,_,vs,_,p⟩:=(show n8 X.prog X.w H s.heap a (.dK kvs) from I.hok a _ ea)
    obtain ⟨o,es,ep,h1,h2,_⟩:=p
    exact W.kia_one W.kitx_dict I.kIn ⟨o,h1,h2.1⟩ e (λz=>nomatch z) h
  | @dT a kvs ea =>
    cases (show u=Value.ref a from rx)
    obtain ⟨_,_,xs,_,o,es,ep,h1,h2,_⟩:=(show n8 X.prog X.w H s.heap a (.dT kvs) from I.hok a _ ea)
    exact W.kia_one W.kitx_dict I.kIn ⟨o,h1,h2.1⟩ e (λz=>nomatch z) h
  | @ins a C dx fs ea cl ha hn htk hm =>
    cases (show u=Value.ref a from rx)
    obtain ⟨mA,O,_⟩:=za2 I.hok ea
    obtain ⟨od,J,_⟩:=O.look
    exact W.kia_one (W.kitx_own (cl.get _) cl.hd ha hn htk hm) I.kIn J e (λz=>nomatch z) h
end
structure X8 (k:Nat) (A:Around):Prop where
  hd:A.handled=none
  dp:A.depth+3*k+5<recursionLimit
  un:A.units+16*k+200<cLine
theorem X8.mono {j k:Nat}{A:Around}(r:X8 k A)(h:j<=k):X8 j A:=⟨r.hd,by have:=r.dp;omega,by have:=r.un;omega⟩
theorem X8.deeper {k:Nat}{A:Around}(r:X8 (k+1) A)(env:Env):X8 k (A.deeper env) :=
  ⟨r.hd,by have:=r.dp;show A.depth+1+3*k+5<_;omega,by have:=r.un;show A.units+3+16*k+200<_;omega⟩
theorem yh6 {A:Around}{C:Addr}{us:List Value}{kw:List (Str×Value)}:(A.under (.builtin "type.__call__" ⟨.ref C::us,kw⟩)).depth=A.depth+1:=by
  first|rfl|simp [Around.under,Code.weight,Code.isCreation,Code.isGuard,Code.isCaller,Code.frames,Code.isFrame,guardIds]
theorem yh7 {A:Around}{C:Addr}{us:List Value}{kw:List (Str×Value)}:(A.under (.builtin "type.__call__" ⟨.ref C::us,kw⟩)).units=A.units+1:=by
  first|rfl|simp [Around.under,Code.cUnits,Code.frames,Code.isFrame]
theorem X8.make {k:Nat}{A:Around}(r:X8 (k+1) A)(C:Addr)(us:List Value)(kw:List (Str×Value)):X8 k (A.under (.builtin "type.__call__" ⟨.ref C::us,kw⟩)) :=
  ⟨r.hd,by have:=r.dp;rw [yh6];omega,by have:=r.un;rw [yh7];omega⟩
theorem X8.depth {k:Nat}{A:Around}(r:X8 k A):A.depth<recursionLimit:=by have:=r.dp;omega
theorem X8.units {k:Nat}{A:Around}(r:X8 k A):A.units+64<cLine:=by have:=r.un;omega
def xn1:TA:=λ_ H Q=>Q [] H
def xq3 (ta:TE)(tr:TA):TA:=λσ H Q=>ta σ H λx H1=>tr σ H1 λxs H2=>Q (x::xs) H2
section
variable {X:Cx}{e:Expr}{es:List Expr}{te:TE}{t:TA}{pos:Pos}
theorem z4:PA X [] xn1:=λ_ _ _ _ H Q I h=>Calls.spliced_nil ⟨[],H,I,.nil,h⟩
theorem z0 (ha:PE X e te)(hr:PA X es t)(hs:starEach (e::es) X.env=(false,eval e X.env)::starEach es X.env:=by rfl):PA X (e::es) (xq3 te t):=by
  intro pos pins s σ H Q I h
  rw [hs]
  show wpAny _ _ (spliced ((false,eval e X.env)::backTo pos (starEach es X.env))) _ _ s
  refine Calls.spliced_cons (thn (ha pins s σ H _ I h) λu s1 ⟨x,H1,I1,r1,q1⟩=>?_)
  exact thn (hr pos pins s1 σ H1 _ I1 q1) λus s2 ⟨xs,H2,I2,r2,q2⟩=>⟨x::xs,H2,I2,.cons r1 r2,q2⟩
def xt9 (t:TA):TE:=λσ H Q=>t σ H λxs H1=>xs.length<=sizeLine/\∀p,H1 p=none->Q (.ref p) (upd H1 p (.tup xs))
def xt6 (t:TA):TE:=λσ H Q=>t σ H λxs H1=>xs.length<=sizeLine/\∀p,H1 p=none->Q (.ref p) (upd H1 p (.lst xs))
theorem B7 {x1}(h:PA X es t):PE X (.Tuple es x1 pos) (xt9 t):=by
  intro pins s σ H Q I hq
  refine wpAny_Tuple_spliced (thn (h pos pins s σ H _ I hq) λus s1 ⟨xs,H1,I1,r,z,q⟩=>⟨by rw [←r.length];exact z,?_⟩)
  have hf:H1 s1.heap.objs.size=none:=I1.hok.fresh (af _)
  refine ⟨.ref s1.heap.objs.size,upd H1 s1.heap.objs.size (.tup xs),I1.laid (t':=s1.toks) (λb u e=>av _ e) (af _) ?_,rfl,q _ hf⟩
  exact ⟨z,us,r,⟨_,aG _ rfl,rfl,_,rfl,rfl⟩⟩
theorem b9 (h:PA X es t):PE X (.List es pos) (xt6 t):=by
  intro pins s σ H Q I hq
  refine wpAny_List_spliced (thn (h pos pins s σ H _ I hq) λus s1 ⟨xs,H1,I1,r,z,q⟩=>⟨by rw [←r.length];exact z,?_⟩)
  have hf:H1 s1.heap.objs.size=none:=I1.hok.fresh (af _)
  refine ⟨.ref s1.heap.objs.size,upd H1 s1.heap.objs.size (.lst xs),I1.laid (t':=s1.toks) (λb u e=>av _ e) (af _) ?_,rfl,q _ hf⟩
  exact ⟨z,us,0,r,aG _ rfl⟩
end
abbrev Sp:=List V->Hp->VK->XK->Prop
abbrev CXT:=List Env->Hp->Shared->XK->Value->Shared->Prop
structure yf3 (P:Program) (w:World) (K:W.Frag) (mg:Str->Option Value) (base:Heap) (A:Around) (outer:List Env) (s:Shared) (H:Hp):Prop where
  frames:A.frames=some outer
  mod:Mod K mg base
  bs:∀b o,base.get? b=some o->s.heap.get? b=some o/\H b=none
  bsz:base.objs.size<=s.heap.objs.size
  funs:s.heap.FunFrames base outer
  frf:∀b∈frs outer,H b=none
  hok:HOk P w H s.heap
  bare:AllBare s.gens
def CE (outer:List Env)(P:Program)(w:World)(H:Hp)(s:Shared)(Q:VK)(u:Value)(s':Shared):Prop :=
  ∃v H',s'.os=s.os/\AllBare s'.gens/\Un (frs outer) [] H H' s.heap s'.heap/\HOk P w H' s'.heap/\o6 v u/\Q v H'
def CR (CX:CXT)(outer:List Env)(P:Program)(w:World)(H:Hp)(s:Shared)(Q:VK)(E:XK)(r:Result)(s':Shared):Prop :=
  match r with
  | .ok (.ret u)=>CE outer P w H s Q u s'
  | .ok _=>False
  | .error e=>CX outer H s E e s'
structure p6 (P:Program) (w:World) (K:W.Frag) (mg:Str->Option Value) (base:Heap) (CX:CXT) (k:Nat) (f:Addr) (fd:FuncData) (ps:List Str) (sp:Sp):Prop where
  len:∀vs H Q E,sp vs H Q E->vs.length=ps.length
  run:∀(A:Around) (outer:List Env) (s:Shared) (H:Hp) (args:Args) (us:List Value) (vs:List V) (Q:VK) (E:XK),X8 k A->yf3 P w K mg base A outer s H->BindsTo s fd args (ps.zip us)->p9 vs us->sp vs H Q E ->
    codeAny (model P w) A (.call (.ref f) args) (CR CX outer P w H s Q E) s
theorem yf3.make {P : Program}{w : World}{K : W.Frag}{mg : Str -> Option Value}{base : Heap}{A : Around}{outer : List Env}{s : Shared}{H : Hp}(e : yf3 P w K mg base A outer s H)(C : Addr)(us : List Value)(kw : List (Str×Value)) :
    yf3 P w K mg base (A.under (.builtin "type.__call__" ⟨.ref C::us,kw⟩)) outer s H:=⟨by first|exact e.frames|(simpa [Around.under,Code.envs,Code.isFrame,pushEnvs] using e.frames),e.mod,e.bs,e.bsz,e.funs,e.frf,e.hok,e.bare⟩
section
variable {X:Cx}{pins:List (Addr×Obj)}{σ:St}{H:Hp}{s s':Shared}
theorem Inv.env0 (I:Inv X pins σ H s):yf3 X.prog X.w X.K X.mg X.base X.A X.stack s H :=
  ⟨I.ok.frames,I.ok.mod,I.bs,aB I.ok.bsz I.sz,I.stack,I.stkFree,I.hok,I.bare⟩
theorem Inv.after {Q:VK}{u:Value}(I:Inv X pins σ H s)(h:CE X.stack X.prog X.w H s Q u s'):EP X pins σ Q u s':=by
  obtain ⟨v,H',os,bare,un,hok,r,q⟩:=h
  obtain ⟨hh,g,d,t,os'⟩:=s'
  obtain rfl:os'=s.os:=os
  exact ⟨v,H',I.call (h':=hh) (g':=g) (d':=d) (t':=t) (ch:=[]) un hok bare (λb z=>absurd z (by simp)),r,q⟩
end
def xi4 (sp:Sp)(dvs:List V)(E:XK)(t:TA):TE:=λσ H Q=>t σ H λvs H1=>sp (vs++dvs) H1 Q E
def yo4 (C:Addr)(m:Str)(sp:Sp)(dvs:List V)(E:XK)(ta:TE)(t:TA):TE:=λσ H Q=>ta σ H λx H1=>∃a dx fs,x=.ref a/\H1 a=some (.ins C dx fs)/\fs.lookup m=none /\
  t σ H1 λvs H2=>sp (x::(vs++dvs)) H2 Q E
def xi6 (C:Addr)(sp:Sp)(dvs:List V)(E:XK)(t:TA):TE:=λσ H Q=>t σ H λvs H1=>∀x dx,H1 x=none->H1 dx=none->dx≠x ->
  sp (.ref x::(vs++dvs)) (upd (upd H1 dx (.own x)) x (.ins C dx [])) (λv H2=>v=.non/\Q (.ref x) H2) E
def O2 (K:W.Frag)(fd:FuncData)(ps:List Str)(ds:List Value):Prop :=
  ∀(s:Shared) (us:List Value),K.In s.heap->(us++ds).length=ps.length->BindsTo s fd ⟨us,[]⟩ (ps.zip (us++ds))
theorem O2.all {K:W.Frag}{fd:FuncData}{ps:List Str}(h:∀us:List Value,us.length=ps.length->bindArgs fd ⟨us,[]⟩=pure (ps.zip us)):O2 K fd ps []:=λs us _ hl=>by
  rw [ca] at hl ⊢
  exact .of_eq (h us hl)
def B1 (CX:CXT)(X:Cx)(E:XK):Prop:=∀(pins:List (Addr×Obj)) (σ:St) (H:Hp) (s:Shared) (e:Value) (s':Shared),Inv X pins σ H s->CX X.stack H s E e s'->X.xe e s'
section
variable {X:Cx}{CX:CXT}{k:Nat}{f C:Addr}{fd:FuncData}{ps:List Str}{sp:Sp}{dvs:List V}{ds:List Value}{E:XK}{x m:Str}{p pos apos:Pos}{e o:Expr}{es:List Expr}{ta:TE}{t:TA}
theorem yi9 {pins : List (Addr×Obj)}{σ : St}{H : Hp}{s : Shared}{Q : VK}{us : List Value}{vs : List V}(F : p6 X.prog X.w X.K X.mg X.base CX k f fd ps sp)(hr : X8 k X.A)(hb : O2 X.K fd ps ds)(hd : p9 dvs ds)(hx : B1 CX X E)
    (I:Inv X pins σ H s) (r:p9 vs us) (h:sp (vs++dvs) H Q E):wpAny (model X.prog X.w) X.A (call (.ref f) us) (EP X pins σ Q) X.xe s:=by
  have r2:p9 (vs++dvs) (us++ds):=r.append hd
  have hl:(us++ds).length=ps.length:=by rw [←r2.length];exact F.len _ _ _ _ h
  refine wpAny_call (codeAny_mono (F.run X.A X.stack s H ⟨us,[]⟩ (us++ds) (vs++dvs) Q E hr I.env0 (hb s us I.kIn hl) r2 h) λr s' hq=>?_)
  cases r with
  | error e=>exact hx pins σ H s e s' I hq
  | ok fl =>
    cases fl with
    | ret u=>exact I.after hq
    | next=>exact False.elim hq
    | brk=>exact False.elim hq
    | cont=>exact False.elim hq
theorem xe8 (F : p6 X.prog X.w X.K X.mg X.base CX k f fd ps sp)(hr : X8 k X.A)(hg : Gl X x)(hm : X.mg x = some (.ref f))(hk : W.keepIn X.K (.ref f) = true)(hb : O2 X.K fd ps ds)(hd : p9 dvs ds)(hx : B1 CX X E)
    (ha:PA X (e::es) t) (hdb:(x==("__debug__":Str))=false:=by decide) (he:starEach (e::es) X.env=(false,eval e X.env)::starEach es X.env:=by rfl) (hpl:(backTo pos (starEach es X.env)).any (·.1)=false:=by rfl) :
    PE X (.Call (.Name x p) (e::es) [] pos) (xi4 sp dvs E t):=by
  intro pins s σ H Q I h
  refine wpAny_Call_Name_kw (za7 I hg hm ?_ hdb)
  refine W.callWith_K (h₀:=X.base) I.ok.mod.kin hk (thn (ha pos pins s σ H _ I h) λus s1 ⟨vs,H1,I1,r,q⟩=>⟨I1.kIn,?_⟩) he hpl
  exact yi9 F hr hb hd hx I1 r q
theorem xf1 {pl : Sem Bool}(he : PE X o ta)(c : Cls X.K C)(hm : yt7 X.K C m f)(F : p6 X.prog X.w X.K X.mg X.base CX k f fd ps sp)(hr : X8 k X.A)(hb : O2 X.K fd ps ds)(hd : p9 dvs ds)(hx : B1 CX X E)(ha : PA X (e::es) t)
    (hst:starEach (e::es) X.env=(false,eval e X.env)::starEach es X.env:=by rfl) (hpl:(backTo pos (starEach es X.env)).any (·.1)=false:=by rfl)
    (ht : eval (.Call (.Attribute o m apos) (e::es) [] pos) X.env = (do
      let ov ←eval o X.env
      standAt apos.atName
      let (f,first) ←holding [ov] (getMethod ov m pl)
      callWith pos f first (backTo pos (starEach (e::es) X.env)) (backToKw pos (keywordEach [] X.env))):=by rfl) :
    PE X (.Call (.Attribute o m apos) (e::es) [] pos) (yo4 C m sp dvs E ta t):=by
  intro pins s σ H Q I h
  refine W.methodCall_KW (pl:=pl) (thn (he pins s σ H _ I h) λu s1 ⟨x,H1,I1,rx,a,dx,fs,ex,ea,l,q⟩=>?_) ht
  subst ex
  obtain rfl:u=Value.ref a:=rx
  refine B4 I1 ea c hm l ?_
  refine W.callWith_K (first:=[.ref a]) (h₀:=X.base) I.ok.mod.kin hm.kp (thn (ha pos pins s1 σ H1 _ I1 q) λus s2 ⟨vs,H2,I2,r,q2⟩=>⟨I2.kIn,?_⟩) hst hpl
  exact yi9 (us:=.ref a::us) (vs:=.ref a::vs) F hr hb hd hx I2 (.cons rfl r) q2
theorem yy7 {pl : Sem Bool}(he : PE X o ta)(c : Cls X.K C)(hm : yt7 X.K C m f)(F : p6 X.prog X.w X.K X.mg X.base CX k f fd ps sp)(hr : X8 k X.A)(hb : O2 X.K fd ps ds)(hd : p9 dvs ds)(hx : B1 CX X E)
    (ht : eval (.Call (.Attribute o m apos) [] [] pos) X.env = (do
      let ov ←eval o X.env
      standAt apos.atName
      let (f,first) ←holding [ov] (getMethod ov m pl)
      callWith pos f first (backTo pos (starEach [] X.env)) (backToKw pos (keywordEach [] X.env))):=by rfl) :
    PE X (.Call (.Attribute o m apos) [] [] pos) (yo4 C m sp dvs E ta xn1):=by
  intro pins s σ H Q I h
  refine W.methodCall_KW (pl:=pl) (thn (he pins s σ H _ I h) λu s1 ⟨x,H1,I1,rx,a,dx,fs,ex,ea,l,q⟩=>?_) ht
  subst ex
  obtain rfl:u=Value.ref a:=rx
  refine B4 I1 ea c hm l ?_
  exact W.callWith_K0 (first:=[.ref a]) I1.kIn hm.kp (yi9 (us:=[.ref a]) (vs:=[.ref a]) F hr hb hd hx I1 (.cons rfl .nil) q)
structure Mk (K:W.Frag) (C f:Addr):Prop where
  makes:W.makesIn K C=true
  init:W.findIn K (.ref C) "__init__"=some (some (.ref f))
  fn:W.isFn K (.ref f)=true
  kp:W.keepIn K (.ref C)=true
theorem yz7 {pins : List (Addr×Obj)}{σ : St}{H : Hp}{s : Shared}{Q : VK}{us : List Value}{vs : List V}(M : Mk X.K C f)(F : p6 X.prog X.w X.K X.mg X.base CX k f fd ps sp)(hr : X8 (k+1) X.A)(hb : O2 X.K fd ps ds)(hd : p9 dvs ds)
    (hx:B1 CX X E) (I:Inv X pins σ H s) (r:p9 vs us)
    (h:∀x dx,H x=none->H dx=none->dx≠x->sp (.ref x::(vs++dvs)) (upd (upd H dx (.own x)) x (.ins C dx [])) (λv H2=>v=.non/\Q (.ref x) H2) E) :
    wpAny (model X.prog X.w) X.A (call (.ref C) us) (EP X pins σ Q) X.xe s:=by
  have hq:=h (s.heap.objs.size+1) s.heap.objs.size (I.hok.fresh (bY _)) (I.hok.fresh (af _)) (aS (cP _))
  have I2:=Inv.made (C:=C) I
  have r2:p9 (V.ref (s.heap.objs.size+1)::(vs++dvs)) (Value.ref (s.heap.objs.size+1)::(us++ds)):=.cons rfl (r.append hd)
  have hl:(Value.ref (s.heap.objs.size+1)::us++ds).length=ps.length:=by
    have e:=r2.length
    rw [F.len _ _ _ _ hq] at e
    exact e.symm
  refine wpAny_call (yx4 (f := f) I.kIn M.makes M.init (beq_iff_eq.mp M.fn) (codeAny_mono (F.run _ X.stack _ _ ⟨Value.ref (s.heap.objs.size+1)::us, []⟩ (Value.ref (s.heap.objs.size+1)::(us ++ ds)) _ _ E (hr.make C us [])
    (I2.env0.make C us []) (hb _ (Value.ref (s.heap.objs.size+1)::us) I2.kIn hl) r2 hq) λr s' hq'=>?_))
  cases r with
  | error e=>exact hx pins σ _ _ e s' I2 hq'
  | ok fl =>
    cases fl with
    | ret u =>
      obtain ⟨v,H',I3,rv,ev,q3⟩:=I2.after hq'
      subst ev
      exact ⟨rv,⟨V.ref (s.heap.objs.size+1),H',I3,rfl,q3⟩⟩
    | next=>exact False.elim hq'
    | brk=>exact False.elim hq'
    | cont=>exact False.elim hq'
theorem xf0 (M : Mk X.K C f)(F : p6 X.prog X.w X.K X.mg X.base CX k f fd ps sp)(hr : X8 (k+1) X.A)(hg : Gl X x)(hm : X.mg x = some (.ref C))(hb : O2 X.K fd ps ds)(hd : p9 dvs ds)(hx : B1 CX X E)
    (ha:PA X (e::es) t) (hdb:(x==("__debug__":Str))=false:=by decide) (he:starEach (e::es) X.env=(false,eval e X.env)::starEach es X.env:=by rfl) (hpl:(backTo pos (starEach es X.env)).any (·.1)=false:=by rfl) :
    PE X (.Call (.Name x p) (e::es) [] pos) (xi6 C sp dvs E t):=by
  intro pins s σ H Q I h
  refine wpAny_Call_Name_kw (za7 I hg hm ?_ hdb)
  refine W.callWith_K (h₀:=X.base) I.ok.mod.kin M.kp (thn (ha pos pins s σ H _ I h) λus s1 ⟨vs,H1,I1,r,q⟩=>⟨I1.kIn,?_⟩) he hpl
  exact yz7 M F hr hb hd hx I1 r q
end
section
variable {X:Cx}{CX:CXT}{k:Nat}{f C:Addr}{fd:FuncData}{ps ks:List Str}{sp:Sp}{E:XK}{x m:Str}{p pos apos kpos:Pos}{e o:Expr}{es:List Expr}{kws:List Keyword}{te ta:TE}{t tk:TA}{nm:Option Str}
variable {g:List Value->List Value->List Value}{gV:List V->List V->List V}
end
structure v1 (N P:List Str) (sc:Scope):Prop where
  kind:sc.kind=.function
  co:sc.isCoroutine=false
  gen:sc.isGenerator=false
  nd:N.Nodup
  pre:N.take P.length=P
  par:∀x∈P,sc.names.lookup x=some .local∨sc.names.lookup x=some .cell
  nofree:∀y∈sc.names,y.2≠.free
theorem zq4 {kindOf : Str -> Option NameKind}{x : Str} : ∀{binds : List (Str×Value)} {m : Str -> Option Value}, (∀v, (x, v) ∉ binds) -> bindL kindOf binds m x = m x
  | [],_,_=>rfl
  | (n,v)::r,m,h=>by
    unfold bindL
    rw [zq4 λw hw=>h w (ao _ hw)]
    split
    . have : x ≠ n := by rintro rfl; exact h v au
      simp [this]
    . rfl
theorem zq2 {kindOf : Str -> Option NameKind}{x : Str} : ∀{binds : List (Str×Value)} {m : Str -> Option Value}, (∀v, (x, v) ∉ binds) -> bindC kindOf binds m x = m x
  | [],_,_=>rfl
  | (n,v)::r,m,h=>by
    unfold bindC
    rw [zq2 λw hw=>h w (ao _ hw)]
    split
    . rfl
    . have : x ≠ n := by rintro rfl; exact h v au
      simp [this]
theorem zq3 {kindOf:Str->Option NameKind}{x:Str}{v:Value}:∀{P:List Str} {vs:List Value} {i:Nat} {m:Str->Option Value},P.Nodup->P[i]?=some x->vs[i]?=some v->kindOf x=some .local ->
    bindL kindOf (P.zip vs) m x=some v
  | [],_,_,_,_,h,_,_=>by simp at h
  | _::_,[],_,_,_,_,h,_=>by simp at h
  | p::P,w::vs,0,m,nd,h1,h2,hk=>by
    simp at h1 h2;subst h1;subst h2
    show bindL kindOf ((p,w)::P.zip vs) m p=_
    unfold bindL
    rw [zq4 λv hv=>(aK.mp nd).1 (eP hv).1,if_pos hk]
    simp
  | p::P,w::vs,i+1,m,nd,h1,h2,hk=>by
    show bindL kindOf ((p,w)::P.zip vs) m x=_
    unfold bindL
    exact zq3 (i:=i) (aK.mp nd).2 (by simpa using h1) (by simpa using h2) hk
theorem zq1 {kindOf:Str->Option NameKind}{x:Str}{v:Value}:∀{P:List Str} {vs:List Value} {i:Nat} {m:Str->Option Value},P.Nodup->P[i]?=some x->vs[i]?=some v->kindOf x≠some .local ->
    bindC kindOf (P.zip vs) m x=some v
  | [],_,_,_,_,h,_,_=>by simp at h
  | _::_,[],_,_,_,_,h,_=>by simp at h
  | p::P,w::vs,0,m,nd,h1,h2,hk=>by
    simp at h1 h2;subst h1;subst h2
    show bindC kindOf ((p,w)::P.zip vs) m p=_
    unfold bindC
    rw [zq2 λv hv=>(aK.mp nd).1 (eP hv).1,if_neg hk]
    simp
  | p::P,w::vs,i+1,m,nd,h1,h2,hk=>by
    show bindC kindOf ((p,w)::P.zip vs) m x=_
    unfold bindC
    exact zq1 (i:=i) (aK.mp nd).2 (by simpa using h1) (by simpa using h2) hk
def start (N:List Str)(vs:List V):St:=vs.map some++List.replicate (N.length-vs.length) none
def ze0 (CX:CXT)(P:Program)(w:World)(K:W.Frag)(mg:Str->Option Value)(base:Heap)(N:List Str)(qual:Str)(scope:Scope)(f:Addr)(cd:Value)(A:Around)(outer:List Env)(s:Shared)(H:Hp)(E:XK):Cx where
  prog:=P
  w:=w
  K:=K
  mg:=mg
  base:=base
  A:=A.deeper (envOfC qual scope s.heap.objs.size f cd)
  N:=N
  s₀:=s
  H₀:=H
  env:=envOfC qual scope s.heap.objs.size f cd
  outer:=outer
  stack:=envOfC qual scope s.heap.objs.size f cd::outer
  ex:=[]
  calm:=true
  fn:=λ_=>true
  pn:=[]
  xe:=λe s'=>wpAny (model P w) (A.deeper (envOfC qual scope s.heap.objs.size f cd)) (leaving (envOfC qual scope s.heap.objs.size f cd) e) (λ_ s''=>CX outer H s E e s'') (λe' s''=>CX outer H s E e' s'') s'
theorem zy4 {sc:Scope}{n:Nat}{x:Str}(h:sc.names.lookup x=some .cell):∃c,(cellsFrom n sc.names []).lookup x=some c:=by
  have q:=W.cellsFrom_some sc.names n [] (.inl h)
  exact eU.mp q
theorem yq5 {CX : CXT}{P : Program}{w : World}{K : W.Frag}{mg : Str -> Option Value}{base : Heap}{N ps : List Str}{qual : Str}{scope : Scope}{f : Addr}{cd : Value}{A : Around}{outer : List Env}{s s1 : Shared}{H : Hp}{E : XK}{us : List Value}{vs : List V}
    (S:v1 N ps scope) (hd:A.handled=none) (e0:yf3 P w K mg base A outer s H) (hl:vs.length=ps.length) (r:p9 vs us)
    (x:InCallC s s.heap.objs.size (bindL (envOfC qual scope s.heap.objs.size f cd).kindOf (ps.zip us) λ_=>none) (cellsFrom (s.heap.objs.size+1) scope.names []) (bindC (envOfC qual scope s.heap.objs.size f cd).kindOf (ps.zip us) λ_=>none) s1) :
    Inv (ze0 CX P w K mg base N qual scope f cd A outer s H E) [] (start N vs) H s1:=by
  have hpl:ps.length<=N.length:=by have:=congrArg List.length S.pre;rw [aT] at this;omega
  obtain ⟨h1,tk,rfl,hk⟩:=x.done
  have noA:∀b:Addr,b∉(ze0 CX P w K mg base N qual scope f cd A outer s H E).ex:=λb z=>absurd (show b∈([]:List Addr) from z) (by simp)
  refine ⟨⟨e0.mod,S.kind,rfl,rfl,af _,λy z c h1 h2=>?_,λy hy=>?_,λy c _ h=>?_,λ_=>hd,Around.frames_deeper e0.frames,.inr ⟨rfl,rfl⟩,λb z=>absurd z (noA b),e0.bs,e0.bsz,λb _ _=>noA b,λb z=>absurd z (noA b),e0.funs,e0.frf⟩,
    rfl,e0.bare,Un.kept hk,⟨_,x.toInCall.ns,λi y v h1 h2 h3=>?_⟩,λy c h=>⟨_,x.cell y c h⟩,e0.hok.fresh (af _),λy c h=>?_,λp hp=>absurd (show p∈([]:List (Addr×Obj)) from hp) (by simp),e0.hok.kept hk,?_⟩
  . exact name_of_addr x.apart (PySem.mem_of_lookup h1) (PySem.mem_of_lookup h2)
  . have hy : scope.names.lookup y = some .cell∨scope.names.lookup y = some .free := hy
    rcases hy with hy|hy
    . exact zy4 hy
    . exact absurd rfl (S.nofree _ (PySem.mem_of_lookup hy))
  . exact bu (x.above y c (PySem.mem_of_lookup h))
  . have hi:i<vs.length:=by
      unfold start at h2
      by_cases hi:i<vs.length
      . exact hi
      . rw [bd (by simpa using hi)] at h2
        rw [de] at h2
        split at h2 <;> cases h2
    have ha:vs[i]?=some v:=by
      unfold start at h2
      rw [aN (by simpa using hi),ag] at h2
      cases e:vs[i]? with
      | none=>rw [e] at h2;cases h2
      | some a=>rw [e] at h2;cases h2;rfl
    obtain ⟨u,hu,rv⟩:=r.get ha
    have hp:ps[i]?=some y:=by
      rw [←S.pre,bW (by omega)];exact h1
    have ndP:ps.Nodup:=by rw [←S.pre];exact S.nd.sublist (bB _ _)
    refine ⟨u,rv,?_⟩
    rcases S.par y (ax hp) with k|k
    . exact .inl ⟨k,zq3 ndP hp hu k⟩
    . obtain ⟨c, e⟩ := zy4 (n := s.heap.objs.size+1) k
      refine .inr ⟨.inl k,c,e,?_⟩
      have q:=x.cell y c e
      rw [zq1 ndP hp hu (by show scope.names.lookup y≠_;rw [k];decide)] at q
      exact q
  . exact e0.hok.fresh (bu (x.above y c (PySem.mem_of_lookup h)))
  . unfold start
    show _=N.length
    rw [aq,ae,cA]
    omega
theorem xh6 {CX : CXT}{P : Program}{w : World}{K : W.Frag}{mg : Str -> Option Value}{base : Heap}{k : Nat}{f : Addr}{name qual : Str}{params : Arguments}{body : List Stmt}{scope : Scope}{dV kV doc pm cdv ct oc : Value}{an od : Option Addr}
    {osl:Array (Option Value)} {N ps:List Str} {sp:Sp} (lk:K.lookup f=some ⟨oc,od,.func (W.fnOf name qual params body scope dV kV doc pm an cdv ct),osl⟩) (hcd:W.codeIn K cdv qual=true) (S:v1 N ps scope)
    (len:∀vs H Q E,sp vs H Q E->vs.length=ps.length)
    (hbody:∀(A:Around) (outer:List Env) (s:Shared) (H:Hp) (vs:List V) (Q:VK) (E:XK),X8 k (A.deeper (envOfC qual scope s.heap.objs.size f cdv))->sp vs H Q E ->
      ∃t,PSs (ze0 CX P w K mg base N qual scope f cdv A outer s H E) body t/\t { nx:=λ_ H'=>Q .non H',rt:=Q } (start N vs) H) :
    p6 P w K mg base CX (k+1) f (W.fnOf name qual params body scope dV kV doc pm an cdv ct) ps sp:=by
  refine ⟨len,λA outer s H args us vs Q E hr e0 hb r hsp=>?_⟩
  have hl:=len _ _ _ _ hsp
  have KX:K.In s.heap:=e0.mod.kin.keeps λb o e=>(e0.bs b o e).1
  have lim:s.heap.NoLimit:=e0.mod.nolimit.keeps λb o e=>(e0.bs b o e).1
  have hkind:∀y∈ps.zip us,scope.names.lookup y.1=some .local∨(scope.names.lookup y.1=some .cell/\((cellsFrom (s.heap.objs.size+1) scope.names []).lookup y.1).isSome=true):=λ⟨n,v⟩ hy=>by
    rcases S.par n (eP hy).1 with q|q
    . exact .inl q
    . exact .inr ⟨q,W.cellsFrom_some _ _ _ (.inl q)⟩
  refine codeAny_call_function hr.depth (KX _ _ lk) rfl S.co S.gen rfl (W.codeRec_of KX hcd) (hb _ _ _ _ ?_)
  refine wpAny_newFunctionEnv_cells S.kind hkind λenv he s1 x=>?_
  subst he
  refine ⟨lim.keeps x.toInCall.keep,codeAny_func ?_⟩
  obtain ⟨t,ht,hq⟩:=hbody A outer s H vs Q E (hr.deeper _) hsp
  have I:Inv (ze0 CX P w K mg base N qual scope f cdv A outer s H E) [] (start N vs) H s1:=yq5 S hr.hd e0 hl r x
  refine wpAny_mono (ht [] s1 (start N vs) H _ I hq) (λfl s' hs=>?_) λe s' hs=>hs
  have fin:∀{σ':St} {H':Hp} {v:V} {u:Value},Inv (ze0 CX P w K mg base N qual scope f cdv A outer s H E) [] σ' H' s'->o6 v u->Q v H'->CE outer P w H s Q u s' :=
    λ{σ' H' v u} J rv q=>⟨v,H',J.os,J.bare,J.base,J.hok,rv,q⟩
  cases fl with
  | ret u =>
    obtain ⟨v,σ',H',J,rv,q⟩:=hs
    exact fin J rv q
  | next =>
    obtain ⟨σ',H',J,q⟩:=hs
    exact fin (v:=V.non) (u:=Value.none) J rfl q
  | brk =>
    obtain ⟨_,_,_,q⟩:=hs
    exact False.elim q
  | cont =>
    obtain ⟨_,_,_,q⟩:=hs
    exact False.elim q
section
variable {X:Cx}{x:Str}{p pos:Pos}{e:Expr}{es:List Expr}{t:TA}{id T:String}{r:List V->Hp->VK->Prop}
def tCB (r:List V->Hp->VK->Prop)(t:TA):TE:=λσ H Q=>t σ H λvs H1=>r vs H1 Q
theorem v8 (hc : R3 X (.builtin id) r)(hg : Gl X x)(hm : X.mg x = none)(hv : bootBuiltins x = some (.builtin id))(ha : PA X (e::es) t)(hn : x ≠ "__name__" := by decide) (hdb : (x==("__debug__" : Str)) = false := by decide)
    (he:starEach (e::es) X.env=(false,eval e X.env)::starEach es X.env:=by rfl) (hpl:(backTo pos (starEach es X.env)).any (·.1)=false:=by rfl):PE X (.Call (.Name x p) (e::es) [] pos) (tCB r t):=by
  intro pins s σ H Q I h
  refine wpAny_Call_Name_kw (G3 I hg hm hv ?_ hn hdb)
  exact PyProof.Rows.callWith_builtin1 (thn (ha pos pins s σ H _ I h) λus s1 ⟨vs,H1,I1,r1,q1⟩=>hc pins s1 σ H1 vs us Q I1 r1 q1) he hpl
theorem v9 (hc : R3 X (.type T) r)(hg : Gl X x)(hm : X.mg x = none)(hv : bootBuiltins x = some (.type T))(ha : PA X (e::es) t)(hn : x ≠ "__name__" := by decide) (hdb : (x==("__debug__" : Str)) = false := by decide)
    (he:starEach (e::es) X.env=(false,eval e X.env)::starEach es X.env:=by rfl) (hpl:(backTo pos (starEach es X.env)).any (·.1)=false:=by rfl):PE X (.Call (.Name x p) (e::es) [] pos) (tCB r t):=by
  intro pins s σ H Q I h
  refine wpAny_Call_Name_kw (G3 I hg hm hv ?_ hn hdb)
  exact PyProof.Rows.callWith_type1 (thn (ha pos pins s σ H _ I h) λus s1 ⟨vs,H1,I1,r1,q1⟩=>hc pins s1 σ H1 vs us Q I1 r1 q1) he hpl
end
end L2
namespace HT
open PySem PyProof.Rows
def lexLt : List Int -> List Int -> Bool
  | [],[]=>false
  | [],_::_=>true
  | _::_,[]=>false
  | x::xs,y::ys=>if x=y then lexLt xs ys else decide (x<y)
theorem lexLt_cons (x y:Int)(xs ys:List Int):lexLt (x::xs) (y::ys)=if x=y then lexLt xs ys else decide (x<y):=rfl
theorem zn9:lexLt [] []=false:=rfl
theorem lexLt_nil_cons (y:Int)(ys:List Int):lexLt [] (y::ys)=true:=rfl
theorem zl1 (x:Int)(xs:List Int):lexLt (x::xs) []=false:=rfl
theorem yv4 (A:Around)(s:Shared)(a:Int)(t:Tok)(c:Int)(u:Tok):∃e,SeqAt.EqAt A s (.int a t) (.int c u) e/\(e=true↔a=c) :=
  ⟨(a==c),SeqAt.EqAt.int_int a t c u,by simp⟩
theorem yz2 (A : Around)(s : Shared)(a : Int)(t : Tok)(c : Int)(u : Tok)(prog : Program)(w : World)(E : Value -> Shared -> Prop)(Q : Value -> Shared -> Prop)(h : Q (.bool (decide (a<c))) s) :
    wpAny (model prog w) A (richCompare .Lt (.int a t) (.int c u)) Q E s :=
  (PyProof.Rows.lt_int h:wpAny (model prog w) A (compareOp .Lt (.int a t) (.int c u)) Q E s)
section
open PySem.SeqAt
open PySem.AutoSeq1 (wpAny_loadPart')
open PySem.MeetsSeq PySem.MeetsSeq2 PySem.MeetsSeq3
theorem zq0 (l b : Addr)(items items2 : Array Value)(n n2 : Nat)(dd dd2 : Option Addr)(sl sl2 : Array (Option Value))(ns ms : List Int)(hi : IntsAre items.toList ns)(hj : IntsAre items2.toList ms) :
    Meets (Builtin.«tuple.__lt__» ⟨[.ref l, .ref b], []⟩)
      (λ_ R s=>s.heap.get? l=some { cls:=.type "tuple",dict:=dd,data:=.seq items n,slots:=sl }/\s.heap.get? b=some { cls:=.type "tuple",dict:=dd2,data:=.seq items2 n2,slots:=sl2 } /\
        R (.ok (.ret (.bool (lexLt ns ms)))) s) :=
  .of_wp λprog w A R s h=>by
    obtain ⟨hp,g,d,tk,os⟩:=s;obtain ⟨hl,hb,h⟩:=h
    have f2:=AutoSeq1.sub_tuple_tuple
    have z1:items.size=ns.length:=by rw [←hi.length];simp
    have z2:items2.size=ms.length:=by rw [←hj.length];simp
    wp_walk using wpAny_loadPart' hl,wpAny_loadPart' hb,wpAny_forIn_list _ (λX3 b s'=>b.1=none/\s'=⟨hp,g,d,tk,os⟩/\∃(vs ws:List Value) (ns' ms':List Int),X3=vs.zip ws /\
      IntsAre vs ns'/\IntsAre ws ms'/\ns'.length+items2.size=ms'.length+items.size/\R (.ok (.ret (.bool (lexLt ns' ms')))) ⟨hp,g,d,tk,os⟩) _
    case turn =>
      rintro ⟨y,x⟩ X3 b s' ⟨hb',rfl,vs,ws,ns',ms',hz,hvi,hwi,hlen,hR⟩
      cases hvi with
      | nil=>rw [List.zip_nil_left] at hz;cases hz
      | cons a t hvi' =>
        cases hwi with
        | nil=>rw [List.zip_nil_right] at hz;cases hz
        | cons c u hwi' =>
          rw [eI] at hz
          injection hz with hyx hrest
          injection hyx with hy hx
          subst hy hx
          rw [lexLt_cons] at hR
          simp only [az] at hlen
          obtain ⟨e,he,hiff⟩:=yv4 A.in1 ⟨hp,g,d,tk,os⟩ a t c u
          refine wpAny_bind (he prog w _ _ ?_)
          cases e with
          | true =>
            rw [if_pos (hiff.mp rfl)] at hR
            wp_walk
            exact ⟨rfl,rfl,_,_,_,_,hrest,hvi',hwi',by omega,hR⟩
          | false =>
            rw [if_neg (λq=>absurd (hiff.mpr q) aI)] at hR
            have hri:=yz2 A.in1 ⟨hp,g,d,tk,os⟩ a t c u prog w
            wp_walk using hri
            exact ⟨_,rfl,by simpa using hR⟩
    case fin =>
      rintro ⟨b1,b2⟩ s' ⟨hb',rfl,vs,ws,ns',ms',hz,hvi,hwi,hlen,hR⟩
      simp only at hb'
      subst hb'
      have hv:lexLt ns' ms'=decide (items.size<items2.size):=by
        cases hvi with
        | nil =>
          cases hwi with
          | nil =>
            simp only [cn] at hlen
            rw [zn9]
            exact (decide_eq_false (by omega)).symm
          | cons c u hw =>
            simp only [cn,az] at hlen
            rw [lexLt_nil_cons]
            exact (decide_eq_true (by omega)).symm
        | cons a t hv =>
          cases hwi with
          | nil =>
            simp only [cn,az] at hlen
            rw [zl1]
            exact (decide_eq_false (by omega)).symm
          | cons c u hw =>
            rw [eI] at hz
            cases hz
      rw [hv] at hR
      wp_walk
      exact ⟨_,rfl,by simpa [Builtin.Tuple.tupleCompareSizes] using hR⟩
    case h =>
      exact ⟨rfl,rfl,items.toList,items2.toList,ns,ms,rfl,hi,hj,by omega,h⟩
end
section
variable {prog:Program}{w:World}{A:Around}{E:Value->Shared->Prop}{s:Shared}
theorem lt_tupInts {l b : Addr}{items items2 : Array Value}{ns ms : List Int}{Q : Value -> Shared -> Prop}(hl : IsTup s.heap l items)(hb : IsTup s.heap b items2)(hi : IntsAre items.toList ns)(hj : IntsAre items2.toList ms)
    (hu:A.units<cLine) (h:Q (.bool (lexLt ns ms)) s):wpAny (model prog w) A (compareOp .Lt (.ref l) (.ref b)) Q E s:=by
  obtain ⟨⟨cls,dd,data,sl⟩,ho,hc,n,hd⟩:=id hl
  obtain ⟨⟨cls2,dd2,data2,sl2⟩,ho2,hc2,n2,hd2⟩:=id hb
  simp only at hc hd hc2 hd2
  subst hc hd hc2 hd2
  exact richCompare_meets_room (op := .Lt) ⟨_, ho, rfl⟩ ⟨_, ho2, rfl⟩ PySem.F.slot_tuple_lt PySem.F.entry_tuple_lt (PySem.F.args_tuple_lt_2 _ _) (zq0 l b items items2 n n2 dd dd2 sl sl2 ns ms hi hj)
    ⟨ho,ho2,show Value.bool (lexLt ns ms)≠Value.notImplemented/\Q (.bool (lexLt ns ms)) s from ⟨(λx=>nomatch x),h⟩⟩ hu
def sIx (n d : Nat) : Option Int -> Nat
  | none=>d
  | some v=>if v<0 then (v+(n:Int)).toNat else min v.toNat n
theorem sIx_none (n d:Nat):sIx n d none=d:=rfl
theorem sIx_nat (n d k:Nat):sIx n d (some (k:Int))=min k n:=by
  show (if (k:Int)<0 then ((k:Int)+(n:Int)).toNat else min (k:Int).toNat n)=min k n
  rw [if_neg (by omega),dB]
end
end HT
namespace L2
open PySem PySem.Spec PyProof.Rows
abbrev TO:=St->Hp->(Option Int->Hp->Prop)->Prop
def PO (X:Cx)(e:Option Expr)(t:TO):Prop :=
  ∀(pins:List (Addr×Obj)) (s:Shared) (σ:St) (H:Hp) (Q:Option Int->Hp->Prop),Inv X pins σ H s->t σ H Q ->
    wpAny (model X.prog X.w) X.A (evalPart e X.env) (λu s'=>∃o H',Inv X pins σ H' s'/\IsPart u o/\Q o H') X.xe s
def xg9:TO:=λ_ H Q=>Q none H
def xq9 (t:TE):TO:=λσ H Q=>t σ H λx H1=>∃i,x=.int i/\Q (some i) H1
theorem W4 {ns:List Int}:∀{us:List Value},p9 (ns.map V.int) us->IntsAre us ns:=by
  induction ns with
  | nil=>intro us r;rw [dQ] at r;cases r;exact .nil
  | cons n ns ih =>
    intro us r
    rw [aR] at r
    cases r with
    | cons r1 r2 =>
      obtain ⟨t,e⟩:=r1
      subst e
      exact .cons n t (ih r2)
section
variable {X:Cx}{e:Expr}{te:TE}{lo hi:Option Expr}{tl th:TO}{pos p2:Pos}
theorem zw3:PO X none xg9:=by
  intro pins s σ H Q I h
  rw [evalPart_none]
  exact wpAny_pure ⟨none,H,I,.none,h⟩
theorem L5 (h:PE X e te):PO X (some e) (xq9 te):=by
  intro pins s σ H Q I hw
  rw [evalPart_some]
  refine thn (h pins s σ H _ I hw) λu s1 ⟨x,H1,I1,r1,q1⟩=>?_
  obtain ⟨i,rfl,q⟩:=q1
  obtain ⟨t,rfl⟩:=r1
  exact ⟨some i,H1,I1,.int i t,q⟩
def SlR (X:Cx)(r:V->Option Int->Option Int->Hp->VK->Prop):Prop :=
  ∀(pins:List (Addr×Obj)) (s:Shared) (σ:St) (H:Hp) (x:V) (v vl vu:Value) (lo hi:Option Int) (sl:Addr) (Q:VK),Inv X pins σ H s->o6 x v->s.heap.IsSliceOf sl vl vu .none->IsPart vl lo->IsPart vu hi->r x lo hi H Q ->
    ∃T id,typeLookup (.type T) "__getitem__"=pure (some (.builtin id))/\s.TypeIs v T/\wpAny (model X.prog X.w) X.A (getItem v (.ref sl)) (EP X pins σ Q) X.xe s
def tSl (r:V->Option Int->Option Int->Hp->VK->Prop)(te:TE)(tl th:TO):TE:=λσ H Q=>te σ H λx H1=>tl σ H1 λl H2=>th σ H2 λu H3=>r x l u H3 Q
theorem G8 {r:V->Option Int->Option Int->Hp->VK->Prop}(hr:SlR X r)(he:PE X e te)(hl:PO X lo tl)(hu:PO X hi th):PE X (.Subscript e (.Slice lo hi none p2) pos) (tSl r te tl th):=by
  intro pins s σ H Q I h
  refine Subscript_ (thn (he pins s σ H _ I h) λv s1 ⟨x,H1,I1,r1,q1⟩=>?_)
  refine wpAny_Slice (thn (hl pins s1 σ H1 _ I1 q1) λvl s2 ⟨l,H2,I2,pl,q2⟩=>thn (hu pins s2 σ H2 _ I2 q2) λvu s3 ⟨u,H3,I3,pu,q3⟩=>?_)
  rw [evalPart_none]
  refine wpAny_pure ?_
  have I4:Inv X pins σ H3 { s3 with heap:=s3.heap.push { cls:=.type "slice",data:=.fields #[vl,vu,.none] } }:=I3.kept (t':=s3.toks) λb ob q=>av _ q
  obtain ⟨T,id,hT,ht,hg⟩:=hr pins { s3 with heap:=s3.heap.push { cls:=.type "slice",data:=.fields #[vl,vu,.none] } } σ H3 x v vl vu l u s3.heap.objs.size Q I4 r1 (Heap.IsSliceOf.new ..) pl pu q3
  show wpAny (model X.prog X.w) X.A (subscriptTail e (.Slice lo hi none p2) v (.ref s3.heap.objs.size)) (EP X pins σ Q) X.xe { s3 with heap:=s3.heap.push { cls:=.type "slice",data:=.fields #[vl,vu,.none] } }
  exact tail_any (ops:=[.ref s3.heap.objs.size,v]) ht hT hg (by with_unfolding_all rfl)
def A8 (xs:List V)(lo hi:Option Int):List V:=(xs.drop (HT.sIx xs.length 0 lo)).take (HT.sIx xs.length xs.length hi-HT.sIx xs.length 0 lo)
theorem zz0 (xs:List V)(lo hi:Option Int):(A8 xs lo hi).length<=xs.length:=by
  unfold A8
  rw [aT,be]
  omega
def xs6 (K:W.Frag):R2:=λx y H Q=>∃a b ns ms,x=.ref a/\y=.ref b/\SqT K H a (ns.map V.int)/\SqT K H b (ms.map V.int)/\Q (.bl (HT.lexLt ns ms)) H
theorem xl6 (hu:X.A.units<cLine):OpR X (compareOp .Lt) (xs6 X.K):=by
  intro pins s σ H x y v u Q I rx ry h
  obtain ⟨a,b,ns,ms,rfl,rfl,ha,hb,q⟩:=h
  cases rx
  cases ry
  obtain ⟨its,r1,p1,_⟩:=I.tuple ha
  obtain ⟨its2,r2,p2,_⟩:=I.tuple hb
  have i1:IntsAre its.toArray.toList ns:=W4 r1
  have i2:IntsAre its2.toArray.toList ms:=W4 r2
  exact HT.lt_tupInts p1 p2 i1 i2 hu ⟨.bl (HT.lexLt ns ms),H,I,rfl,q⟩
end
def ixN (n:Nat)(i:Int):Option Nat:=if 0<=i then (if i<n then some i.toNat else none) else if -(n:Int)<=i then some (i+n).toNat else none
def atI {α:Type}(xs:List α)(i:Int):Option α:=(ixN xs.length i).bind λj=>xs[j]?
theorem zt7 {n:Nat}{i:Int}{j:Nat}(h:ixN n i=some j):seqIndex? i n=some j/\j<n/\-(n:Int)<=i/\i<n:=by
  unfold ixN at h
  by_cases h0:0<=i
  . rw [if_pos h0] at h
    by_cases h1:i<n
    . rw [if_pos h1] at h
      have e:i.toNat=j:=Option.some.inj h
      exact ⟨by rw [seqIndex_of h0 h1,e],by omega,by omega,h1⟩
    . rw [if_neg h1] at h;cases h
  . rw [if_neg h0] at h
    by_cases h1:-(n:Int)<=i
    . rw [if_pos h1] at h
      have e:(i+n).toNat=j:=Option.some.inj h
      exact ⟨by rw [seqIndex_neg (by omega) h1,e],by omega,h1,by omega⟩
    . rw [if_neg h1] at h;cases h
theorem zs8 {α:Type}{xs:List α}{i:Int}{v:α}(h:atI xs i=some v):∃j,seqIndex? i xs.length=some j/\xs[j]?=some v/\j<xs.length/\-(xs.length:Int)<=i/\i<xs.length:=by
  unfold atI at h
  cases e:ixN xs.length i with
  | none=>rw [e] at h;cases h
  | some j =>
    rw [e] at h
    obtain ⟨h1,h2,h3,h4⟩:=zt7 e
    exact ⟨j,h1,h,h2,h3,h4⟩
theorem i4 {α:Type}{xs:List α}{j:Nat}{v:α}(h:xs[j]?=some v):atI xs (j:Int)=some v:=by
  have hj:j<xs.length:=(ap.mp h).1
  have e:ixN xs.length (j:Int)=some j:=by
    unfold ixN
    rw [if_pos (by omega),if_pos (by omega)];simp
  unfold atI;rw [e];exact h
theorem yu0 {α:Type}(xs:List α)(v:α):atI (xs++[v]) (-1)=some v:=by
  have hl:(xs++[v]).length=xs.length+1:=by simp
  have e:ixN (xs++[v]).length (-1)=some xs.length:=by
    unfold ixN
    rw [hl,if_neg (by decide),if_pos (by omega)]
    congr 1
    omega
  unfold atI
  rw [e]
  show (xs++[v])[xs.length]?=some v
  simp
def yk5 (b:Expr):Prop:=∀o i,subscripted b false o i=operate [o,i] (getItem o i)
def IxR (X:Cx)(r:R2):Prop :=
  ∀(value slice:Expr) (pins:List (Addr×Obj)) (s:Shared) (σ:St) (H:Hp) (x y:V) (v u:Value) (Q:VK),Inv X pins σ H s->o6 x v->o6 y u->r x y H Q ->
    subscripted slice false v u=operate [v,u] (getItem v u)->wpAny (model X.prog X.w) X.A (subscriptTail value slice v u) (EP X pins σ Q) X.xe s
def MtR (X:Cx)(id:String)(r:V->List V->Hp->VK->Prop):Prop :=
  ∀(pins:List (Addr×Obj)) (s:Shared) (σ:St) (H:Hp) (x:V) (xs:List V) (v:Value) (us:List Value) (Q:VK),Inv X pins σ H s->o6 x v->p9 xs us->r x xs H Q ->
    wpAny (model X.prog X.w) X.A (call (.builtin id) (v::us)) (EP X pins σ Q) X.xe s
section
variable {X:Cx}{a b:Expr}{ta tb:TE}{pos:Pos}
theorem IxR.or {r r':R2}(h:IxR X r)(h':IxR X r'):IxR X (λx y H Q=>r x y H Q∨r' x y H Q):=by
  intro value slice pins s σ H x y v u Q I rx ry q hs
  rcases q with q|q
  . exact h value slice pins s σ H x y v u Q I rx ry q hs
  . exact h' value slice pins s σ H x y v u Q I rx ry q hs
theorem l9 {r:R2}(hr:IxR X r)(ha:PE X a ta)(hb:PE X b tb)(hs:yk5 b):PE X (.Subscript a b pos) (tOp r ta tb):=by
  intro pins s σ H Q I h
  exact Subscript_ (xj0 ha hb I h λv u s2 x y H2 I2 rx ry q=>hr a b pins s2 σ H2 x y v u Q I2 rx ry q (hs _ _))
def xp5 (K:W.Frag):R2:=λx y H Q=>∃p xs i v,x=.ref p/\y=.int i/\SqL K H p xs/\atI xs i=some v/\Q v H
def xp7 (K:W.Frag):R2:=λx y H Q=>∃p xs i v,x=.ref p/\y=.int i/\SqT K H p xs/\atI xs i=some v/\Q v H
def xp6:R2:=λx y H Q=>∃z i c,x=.str z/\y=.int i/\z.length<=sizeLine/\atI z.cps.toList i=some c/\Q (.str ⟨#[c]⟩) H
theorem p8:IxR X (xp5 X.K):=by
  intro value slice pins s σ H x y v u Q I rx ry h hs
  obtain ⟨p,xs,i,z,rfl,rfl,hq,he,q⟩:=h
  cases rx
  obtain ⟨t,rfl⟩:=ry
  obtain ⟨its,r,pl,hz⟩:=I.list hq
  obtain ⟨j,h1,h2,h3,h4,h5⟩:=zs8 he
  obtain ⟨w,ew,rw'⟩:=r.get h2
  have hl:=r.length
  have hn:=zl2
  have fin:EP X pins σ Q w s:=⟨z,H,I,rw',q⟩
  by_cases h0:0<=i
  . have hj:i.toNat=j:=by
      rw [seqIndex_of h0 h5] at h1
      exact Option.some.inj h1
    exact item_listR pl.isList h0 (by omega) (by rw [hj];simpa using ew) fin hs
  . have hj:(i+(its.toArray.size:Int)).toNat=j:=by
      rw [seqIndex_neg (by omega) h4] at h1
      rw [aC,←hl]
      exact Option.some.inj h1
    exact subscriptTail_builtinR (x := w) pl.isList.typeIs slot_list_getitem.lookup
      (wpAny_getItem_list_neg (Q:=λr s'=>r=w/\EP X pins σ Q r s') pl.isList (by omega) (by rw [aC] <;> omega) (by omega) (by rw [hj];simpa using ew) ⟨rfl,fin⟩) hs
theorem N0:IxR X (xp7 X.K):=by
  intro value slice pins s σ H x y v u Q I rx ry h hs
  obtain ⟨p,xs,i,z,rfl,rfl,hq,he,q⟩:=h
  cases rx
  obtain ⟨t,rfl⟩:=ry
  obtain ⟨its,r,pl,hz⟩:=I.tuple hq
  obtain ⟨j,h1,h2,h3,h4,h5⟩:=zs8 he
  obtain ⟨w,ew,rw'⟩:=r.get h2
  have hl:=r.length
  have hn:=zl2
  have fin:EP X pins σ Q w s:=⟨z,H,I,rw',q⟩
  exact subscriptTail_builtinR (x := w) pl.typeIs slot_tuple_getitem.lookup
    (getItem_tuple (j:=j) (Q:=λr s'=>r=w/\EP X pins σ Q r s') pl (by omega) (by omega) (by rw [aC,←hl];exact h1) (by simpa using ew) ⟨rfl,fin⟩) hs
theorem xk4:IxR X xp6:=by
  intro value slice pins s σ H x y v u Q I rx ry h hs
  obtain ⟨z,i,c,rfl,rfl,hz,he,q⟩:=h
  obtain ⟨t,rfl⟩:=rx
  obtain ⟨t',rfl⟩:=ry
  obtain ⟨j,h1,h2,h3,h4,h5⟩:=zs8 he
  have hl:z.cps.toList.length=z.length:=by simp [Str.length]
  rw [hl] at h1 h4 h5
  have hn:=zl2
  exact tail_any (typeIs_str s z t) slot_str_getitem.lookup (getItem_str (c:=c) (by
    have e1:decide (i < -(2 ^ 63:Int))=false:=decide_eq_false (by omega)
    have e2:decide (i ≥ 2 ^ 63)=false:=decide_eq_false (by omega)
    rw [e1,e2,Bool.or_false]) (by rw [h1];simpa using h2) ⟨.str ⟨#[c]⟩,H,I.tok _,⟨_,rfl⟩,q⟩) hs
def rIx (K:W.Frag):R2:=λx y H Q=>xp5 K x y H Q∨xp7 K x y H Q∨xp6 x y H Q
theorem xk3:IxR X (rIx X.K):=p8.or (N0.or xk4)
theorem yh8 (its:List Value)(n j:Nat)(u:Value):Obj.mapSeq (·.setIfInBounds j u) { cls:=.type "list",data:=.seq its.toArray n }={ cls:=.type "list",data:=.seq (its.set j u).toArray n }:=by
  simp [Obj.mapSeq]
theorem Inv.lst {pins : List (Addr×Obj)}{σ : St}{H : Hp}{s : Shared}{p : Addr}{xs : List V}(I : Inv X pins σ H s)(h : H p = some (.lst xs)) :
    ∃(its:List Value) (n:Nat),p9 xs its/\s.heap.get? p=some { cls:=.type "list",data:=.seq its.toArray n }/\xs.length<=sizeLine:=by
  obtain ⟨z,its,n,r,e⟩:=I.hok p _ h
  exact ⟨its,n,r,e,z⟩
theorem Inv.lstUpd {pins : List (Addr×Obj)}{σ : St}{H : Hp}{s : Shared}{p : Addr}{xs ys : List V}{its its' : List Value}{n n' : Nat}{f : Obj -> Obj}(I : Inv X pins σ H s)(h : H p = some (.lst xs))
    (ho:s.heap.get? p=some { cls:=.type "list",data:=.seq its.toArray n }) (hf:f { cls:=.type "list",data:=.seq its.toArray n }={ cls:=.type "list",data:=.seq its'.toArray n' }) (r:p9 ys its') (hz:ys.length<=sizeLine) (t:Nat) :
    Inv X pins σ (upd H p (.lst ys)) { s with heap:=s.heap.update p f,toks:=t }:=by
  have e:(s.heap.update p f).get? p=some { cls:=.type "list",data:=.seq its'.toArray n' }:=by
    rw [Heap.get?_update_self f ho (by rw [hf] <;> rfl),hf]
  refine I.write (x:=p) (e:=p) (by rw [h];trivial) (.inl rfl) (λb u hb q=>(Heap.get?_update_other _ _ (Ne.symm hb)).trans q) ⟨_,e⟩ ?_
  exact ⟨hz,its',n',r,e⟩
def xp8:V->V->V->Hp->(Hp->Prop)->Prop:=λo i v H Q=>∃p xs k j,o=.ref p/\i=.int k/\H p=some (.lst xs)/\ixN xs.length k=some j/\Q (upd H p (.lst (xs.set j v)))
theorem zc6:xn5 X xp8:=by
  intro pins s σ H o i v ov iv u Q I ro ri rv h
  obtain ⟨p,xs,k,j,rfl,rfl,hp,hj,q⟩:=h
  cases ro
  obtain ⟨t,rfl⟩:=ri
  obtain ⟨its,n,r,ho,hz⟩:=I.lst hp
  obtain ⟨h1,h2,h3,h4⟩:=zt7 hj
  have hl:=r.length
  have hn:=zl2
  have I':Inv X pins σ (upd H p (.lst (xs.set j v))) { s with heap:=s.heap.update p (Obj.mapSeq (·.setIfInBounds j u)) } :=
    I.lstUpd hp ho (yh8 its n j u) (r.set rv j) (by rw [bE];exact hz) s.toks
  by_cases h0:0<=k
  . have hk:k.toNat=j:=by
      rw [seqIndex_of h0 h4] at h1
      exact Option.some.inj h1
    exact W.ki_setAt ho h0 (by omega) (by rw [aC,←hl];exact h4) (by rw [hk];exact ⟨_,I',q⟩)
  . have hk:(k+(its.toArray.size:Int)).toNat=j:=by
      rw [seqIndex_neg (by omega) h3] at h1
      rw [aC,←hl]
      exact Option.some.inj h1
    exact W.ki_setBack ho (by omega) (by rw [aC,←hl];exact h3) (by omega) (by rw [hk];exact ⟨_,I',q⟩)
theorem zx2 (lo hi:Option Int)(n:Nat):(sliceBounds lo hi none n).1=((HT.sIx n 0 lo:Nat):Int)/\(sliceBounds lo hi none n).2.1=((HT.sIx n n hi:Nat):Int)/\(sliceBounds lo hi none n).2.2=1:=by
  refine ⟨?_,?_,rfl⟩
  . cases lo with
    | none=>simp [sliceBounds,HT.sIx]
    | some i =>
      simp only [sliceBounds,HT.sIx,fu,show (1:Int) > 0 by decide,if_true]
      by_cases h:i<0
      . simp only [h,if_true] <;> omega
      . simp only [h,if_false] <;> omega
  . cases hi with
    | none=>simp [sliceBounds,HT.sIx]
    | some i =>
      simp only [sliceBounds,HT.sIx,fu,show (1:Int) > 0 by decide,if_true]
      by_cases h:i<0
      . simp only [h,if_true] <;> omega
      . simp only [h,if_false] <;> omega
theorem zp9 (its:List Value)(lo hi:Option Int):slicePick its.toArray lo hi none=((its.drop (HT.sIx its.length 0 lo)).take (HT.sIx its.length its.length hi-HT.sIx its.length 0 lo)).toArray:=by
  obtain ⟨h1,h2,h3⟩:=zx2 lo hi its.toArray.size
  unfold slicePick
  rw [h1,h2,h3]
  simp only [sliceRange_one,pick_run,aC] <;> rfl
def xs7 (K:W.Frag):V->Option Int->Option Int->Hp->VK->Prop:=λx lo hi H Q=>∃a xs,x=.ref a/\SqL K H a xs/\∀p,H p=none->Q (.ref p) (upd H p (.lst (A8 xs lo hi)))
theorem zc7:SlR X (xs7 X.K):=by
  intro pins s σ H x v vl vu lo hi sl Q I rx hs pl pu h
  obtain ⟨a,xs,rfl,hx,q⟩:=h
  cases rx
  obtain ⟨its,r,ht,hz⟩:=I.list hx
  have hlen:=r.length
  refine ⟨"list",_,slot_list_getitem.lookup,ht.isList.typeIs,?_⟩
  refine wpAny_getItem_list_slice ht.isList hs pl pu .none (by simp) ?_ (by rw [aC] <;> omega)
  rw [zp9,←hlen]
  refine ⟨.ref s.heap.objs.size,_,I.laid (t':=s.toks) (o:=.lst (A8 xs lo hi)) (λb ob q=>av _ q) (af _) ?_,rfl,q _ (I.hok.fresh (af _))⟩
  exact ⟨aB (zz0 xs lo hi) hz,_,0,(r.drop (HT.sIx xs.length 0 lo)).take (HT.sIx xs.length xs.length hi-HT.sIx xs.length 0 lo),aG _ rfl⟩
theorem u6:R3 X (.builtin "len") (λxs H Q=>∃p ys,xs=[.ref p]/\(SqL X.K H p ys∨SqT X.K H p ys)/\Q (.int ys.length) H):=by
  intro pins s σ H xs us Q I r h
  obtain ⟨p,ys,rfl,hq,q⟩:=h
  obtain ⟨u,rfl,rx⟩:=M5 r
  cases rx
  have hn:=zl2
  rcases hq with hq|hq
  . obtain ⟨its, r', pl, hz⟩ := I.list hq
    have hlen:=r'.length
    exact Calls.call_len_list pl.isList (by simp only [aC] <;> omega) ⟨.int ys.length,H,I.tok _,⟨s.toks+1,by rw [aC,hlen]⟩,q⟩
  . obtain ⟨its, r', pl, hz⟩ := I.tuple hq
    have hlen:=r'.length
    exact len_tuple pl (by simp only [aC] <;> omega) ⟨.int ys.length,H,I.tok _,⟨s.toks+1,by rw [aC,hlen]⟩,q⟩
theorem Q5:R3 X (.type "list") (λxs H Q=>∃p ys,xs=[.ref p]/\(SqL X.K H p ys∨SqT X.K H p ys)/\∀l,H l=none->Q (.ref l) (upd H l (.lst ys))):=by
  intro pins s σ H xs us Q I r h
  obtain ⟨p,ys,rfl,hq,q⟩:=h
  obtain ⟨u,rfl,rx⟩:=M5 r
  cases rx
  have fin:∀(its:List Value),p9 ys its->ys.length<=sizeLine->∀(h':Heap) (c':Nat),(∀b o',s.heap.get? b=some o'->h'.get? b=some o') ->
      h'.get? s.heap.objs.size=some { cls:=.type "list",dict:=none,data:=.seq its.toArray c',slots:=#[] }->EP X pins σ Q (.ref s.heap.objs.size) { s with heap:=h' }:=λits r' hz h' c' kp e =>
    ⟨.ref s.heap.objs.size,_,I.laid (t':=s.toks) kp (af _) (show n8 X.prog X.w _ h' _ (.lst ys) from ⟨hz,its,c',r',e⟩),rfl,q _ (I.hok.fresh (af _))⟩
  rcases hq with hq|hq
  . obtain ⟨its, r', pl, hz⟩ := I.list hq
    have hlen:=r'.length
    obtain ⟨o,ho,hc,n,hd⟩:=pl.isList
    exact call_list_seq p (.inl rfl) ho hc hd (λh' c' kp e=>fin its r' hz h' c' kp e) (by simp only [aC] <;> omega)
  . obtain ⟨its, r', pl, hz⟩ := I.tuple hq
    have hlen:=r'.length
    obtain ⟨o,ho,hc,n,hd⟩:=pl
    exact call_list_seq p (.inr rfl) ho hc hd (λh' c' kp e=>fin its r' hz h' c' kp e) (by simp only [aC] <;> omega)
theorem c9:R3 X (.type "tuple") (λxs H Q=>∃p ys,xs=[.ref p]/\((SqL X.K H p ys/\∀l,H l=none->Q (.ref l) (upd H l (.tup ys)))∨(SqT X.K H p ys/\Q (.ref p) H))):=by
  intro pins s σ H xs us Q I r h
  obtain ⟨p,ys,rfl,h⟩:=h
  obtain ⟨u,rfl,rx⟩:=M5 r
  cases rx
  rcases h with ⟨hq,q⟩|⟨hq,q⟩
  . obtain ⟨its, r', pl, hz⟩ := I.list hq
    have hlen:=r'.length
    refine call_tuple_list pl.isList (λh' kp=>?_) (by simp only [aC] <;> omega)
    have I1:Inv X pins σ H { s with heap:=h' }:=I.kept (t':=s.toks) kp
    have I2:Inv X pins σ (upd H h'.objs.size (.tup ys)) { s with heap:=h'.push { cls:=.type "tuple",data:=.seq its.toArray } } :=
      I1.laid (t':=s.toks) (λb o e=>av _ e) (af _) (show n8 X.prog X.w _ _ _ (.tup ys) from ⟨hz,its,r',zy1.new _ _⟩)
    exact ⟨.ref h'.objs.size,_,I2,rfl,q _ (I1.hok.fresh (af _))⟩
  . obtain ⟨its, r', pl, hz⟩ := I.tuple hq
    exact call_tuple_same pl ⟨.ref p,H,I,rfl,q⟩
def tyV (K:W.Frag)(T:String)(x:V)(H:Hp):Prop:=match x with
  | .str _=>T="str"
  | .int _=>T="int"
  | .ref p => (T = "list" /\ ∃xs, SqL K H p xs)∨(T = "tuple" /\ ∃o, K.lookup p = some o /\ o.cls = .type "tuple" /\ o.dict = none) ∨
      (T="dict"/\((∃kvs,H p=some (.dK kvs))∨∃kvs,H p=some (.dT kvs)))∨(T="set"/\∃S n,H p=some (.set S n))
  | _=>False
theorem xb6 {pins : List (Addr×Obj)}{σ : St}{H : Hp}{s : Shared}{T : String}{x : V}{v : Value}(I : Inv X pins σ H s)(r : o6 x v)(ty : tyV X.K T x H) :
    s.TypeIs v T/\∀a,v=.ref a->∃ob,s.heap.get? a=some ob/\ob.dict=none:=by
  cases x with
  | str z =>
    obtain ⟨t,rfl⟩:=r
    cases (show T="str" from ty)
    exact ⟨typeIs_str s z t,λ_ e=>nomatch e⟩
  | int i =>
    obtain ⟨t,rfl⟩:=r
    cases (show T="int" from ty)
    exact ⟨typeIs_int s i t,λ_ e=>nomatch e⟩
  | ref p =>
    cases r
    rcases ty with ⟨rfl,xs,hq⟩|⟨rfl,o,hk,hc,hd⟩|⟨rfl,hk⟩|⟨rfl,S,n,hk⟩
    . obtain ⟨its, _, pl, _⟩ := I.list hq
      refine ⟨pl.isList.typeIs,λa e=>?_⟩
      cases e
      obtain ⟨o,n,e,c,hd,_⟩:=pl
      exact ⟨o,e,hd⟩
    . refine ⟨⟨o, I.kIn p o hk, hc⟩, λa e => ?_⟩
      cases e
      exact ⟨o,I.kIn _ o hk,hd⟩
    . have z:∃o,s.heap.get? p=some o/\o.ExactDict:=by
        rcases hk with ⟨kvs,hk⟩|⟨kvs,hk⟩
        . obtain ⟨_, _, _, _, o, _, _, e, ex, _⟩ := I.hok p _ hk
          exact ⟨o,e,ex⟩
        . obtain ⟨_, _, _, _, o, _, _, e, ex, _⟩ := I.hok p _ hk
          exact ⟨o,e,ex⟩
      obtain ⟨o,e,ex⟩:=z
      refine ⟨⟨o,e,ex.1⟩,λa e2=>?_⟩
      cases e2
      exact ⟨o,e,ex.2.1⟩
    . obtain ⟨o, _, _, _, e, ex, _⟩ := I.hok p _ hk
      refine ⟨⟨o,e,ex.1⟩,λa e2=>?_⟩
      cases e2
      exact ⟨o,e,ex.2.1⟩
  | _=>exact False.elim ty
def xt0 (K:W.Frag)(T:String)(r:V->List V->Hp->VK->Prop)(to:TE):TE:=λσ H Q=>to σ H λx H1=>tyV K T x H1/\r x [] H1 Q
def tBM (K:W.Frag)(T:String)(r:V->List V->Hp->VK->Prop)(to:TE)(t:TA):TE:=λσ H Q=>to σ H λx H1=>tyV K T x H1/\t σ H1 λxs H2=>r x xs H2 Q
variable {o e:Expr}{es:List Expr}{to:TE}{t:TA}{name:Str}{apos cpos:Pos}{T id:String}{r:V->List V->Hp->VK->Prop}
theorem xl9 (pa : PlainAttrs T)(slot : Slot T name id)(hty : typeOf (.builtin id) = pure (.type "method_descriptor")) (hm : MtR X id r) (ho : PE X o to)
    (hbase:attributeBase o name X.env (eval o X.env)=eval o X.env:=by rfl) (hline:(apos.endLine==cpos.line)=true:=by rfl):PE X (.Call (.Attribute o name apos) [] [] cpos) (xt0 X.K T r to):=by
  intro pins s σ H Q I h
  refine wpAny_Call_method0_late hbase hline (thn (ho pins s σ H _ I h) λv s1 ⟨x,H1,I1,r1,ty,q1⟩=>?_)
  obtain ⟨h1,h2⟩:=xb6 I1 r1 ty
  exact ⟨T,id,pa,slot,hty,h1,h2,Calls.callWith_builtin rfl (PySem.evalArgs_none (hm pins s1 σ H1 x [] v [] Q I1 r1 .nil q1))⟩
theorem J1 (pa : PlainAttrs T)(slot : Slot T name id)(hty : typeOf (.builtin id) = pure (.type "method_descriptor")) (hm : MtR X id r) (ho : PE X o to) (ha : PA X (e::es) t)
    (hbase:attributeBase o name X.env (eval o X.env)=eval o X.env:=by rfl)
    (hfew : ((backTo cpos (starEach (e::es) X.env)).all (λx => !x.1)&&(backToKw cpos (keywordEach [] X.env)).all (λx => x.1.isSome)
      && decide ((e::es).length+([]:List Keyword).length+(if ([]:List Keyword).isEmpty then 0 else 1)<30))=true:=by rfl)
    (hline:(apos.endLine==cpos.line)=true:=by rfl) (hs:starEach (e::es) X.env=(false,eval e X.env)::starEach es X.env:=by rfl) (hplain:(backTo cpos (starEach es X.env)).any (·.1)=false:=by rfl) :
    PE X (.Call (.Attribute o name apos) (e::es) [] cpos) (tBM X.K T r to t):=by
  intro pins s σ H Q I h
  refine wpAny_Call_method_late hbase hfew hline rfl (thn (ho pins s σ H _ I h) λv s1 ⟨x,H1,I1,r1,ty,q1⟩=>?_)
  obtain ⟨h1,h2⟩:=xb6 I1 r1 ty
  refine ⟨T,id,pa,slot,hty,h1,h2,?_⟩
  have hA:=ha cpos pins s1 σ H1 _ I1 q1
  rw [hs] at hA ⊢
  refine Calls.callWith_builtin (by show (false || (backTo cpos (starEach es X.env)).any (·.1))=false;rw [hplain] <;> rfl) (Calls.evalArgs_plain ?_)
  exact thn hA λus s2 ⟨vs,H2,I2,r2,q2⟩=>hm pins s2 σ H2 x vs v us Q I2 r1 r2 q2
end
def MtM (X:Cx)(id:String)(r:V->List V->Hp->VK->Prop):Prop :=
  ∀(pins:List (Addr×Obj)) (s:Shared) (σ:St) (H:Hp) (x:V) (xs:List V) (v:Value) (us:List Value) (Q:VK),Inv X pins σ H s->o6 x v->p9 xs us->r x xs H Q ->
    wpAny (model X.prog X.w) X.A (call (.builtin id) (v::us)) (EP X pins σ Q) X.xe s
theorem p9.one : ∀{x : V} {us : List Value}, p9 [x] us -> ∃u, us = [u] /\ o6 x u
  | _,_,.cons r .nil=>⟨_,rfl,r⟩
theorem p9.zero : ∀{us : List Value}, p9 [] us -> us = []
  | _,.nil=>rfl
theorem p9.eraseIdx : ∀{xs : List V} {us : List Value} (i : Nat), p9 xs us -> p9 (xs.eraseIdx i) (us.eraseIdx i)
  | _,_,_,.nil=>.nil
  | _,_,0,.cons _ t=>t
  | _,_,i+1,.cons r t=>.cons r (p9.eraseIdx i t)
theorem zr4 {α : Type} : ∀(l : List α) (i : Nat), (l.eraseIdx i).length <= l.length
  | [],_=>af _
  | _::_,0=>bY _
  | _::r,i+1=>Nat.succ_le_succ (zr4 r i)
section
variable {X:Cx}{pins:List (Addr×Obj)}{σ:St}{H:Hp}{s:Shared}{l b:Addr}{xs ys zs:List V}
theorem Inv.lset {its its' : List Value}{n : Nat}{f : Array Value -> Array Value}{t' : Nat}(I : Inv X pins σ H s)(hH : H l = some (.lst xs))
    (e:s.heap.get? l=some { cls:=.type "list",data:=.seq its.toArray n }) (hf:f its.toArray=its'.toArray) (hv:p9 ys its') (hz:ys.length<=sizeLine) :
    Inv X pins σ (upd H l (.lst ys)) { s with heap:=s.heap.update l (Obj.mapSeq f),toks:=t' }:=by
  have q:=PySem.IsL.update e f
  rw [hf] at q
  refine I.write (x:=l) (e:=l) (by rw [hH];exact trivial) (.inl rfl) (λb' u hb hu=>(Heap.get?_update_other s.heap (Obj.mapSeq f) (Ne.symm hb)).trans hu) ⟨_,q⟩ ?_
  exact ⟨hz,its',_,hv,q⟩
theorem Inv.lnew {its : List Value}{t' : Nat}(I : Inv X pins σ H s)(hv : p9 ys its)(hz : ys.length <= sizeLine) :
    Inv X pins σ (upd H s.heap.objs.size (.lst ys)) { s with heap:=s.heap.push { cls:=.type "list",data:=.seq its.toArray },toks:=t' } :=
  I.laid (λ_ _ q=>av _ q) (af _) ⟨hz,its,0,hv,aG _ rfl⟩
theorem Inv.fresh (I:Inv X pins σ H s):H s.heap.objs.size=none:=I.hok.fresh (af _)
theorem Inv.lstM (I:Inv X pins σ H s)(hH:H l=some (.lst xs)):xs.length<=sizeLine/\∃(its:List Value) (n:Nat),p9 xs its/\xs.length=its.length/\s.heap.get? l=some { cls:=.type "list",data:=.seq its.toArray n }:=by
  obtain ⟨z,its,n,r,e⟩:=I.hok l _ hH
  exact ⟨z,its,n,r,r.length,e⟩
theorem yy1 {n:Nat}(h:n<=sizeLine):Builtin.List.listTooLong n=false:=by
  unfold Builtin.List.listTooLong
  exact decide_eq_false (by omega)
end
section
variable {X:Cx}
def xf6:V->List V->Hp->VK->Prop:=λx vs H Q=>∃l xs y,x=.ref l/\vs=[y]/\H l=some (.lst xs)/\xs.length<sizeLine/\Q .non (upd H l (.lst (xs++[y])))
theorem b8:MtM X "list.append" xf6:=by
  intro pins s σ H x vs v us Q I rx rv h
  obtain ⟨l,xs,y,rfl,rfl,hH,hz,q⟩:=h
  cases rx
  obtain ⟨u,rfl,ru⟩:=rv.one
  obtain ⟨z,its,n,r,hl,e⟩:=I.lstM hH
  refine call_meets F.slot_list_append ⟨_,e,rfl⟩ F.entry_list_append (F.args_list_append_2 _ _) (PySem.list_append l its.toArray n u (by rw [aC];omega)) ⟨e,?_⟩
  refine ⟨.non,_,I.lset (its':=its++[u]) hH e (by simp) (r.append (.cons ru .nil)) ?_,rfl,q⟩
  rw [aq,bn]
  omega
def xf7:V->List V->Hp->VK->Prop:=λx vs H Q=>∃l b xs zs,x=.ref l/\vs=[.ref b]/\H l=some (.lst xs)/\H b=some (.lst zs)/\xs.length+zs.length<=sizeLine/\Q .non (upd H l (.lst (xs++zs)))
theorem zr5:MtM X "list.extend" xf7:=by
  intro pins s σ H x vs v us Q I rx rv h
  obtain ⟨l,b,xs,zs,rfl,rfl,hH,hB,hz,q⟩:=h
  cases rx
  obtain ⟨u,rfl,ru⟩:=rv.one
  cases ru
  obtain ⟨z,its,n,r,hl,e⟩:=I.lstM hH
  obtain ⟨z2,its2,n2,r2,hl2,e2⟩:=I.lstM hB
  have hsz:its.toArray.size+its2.toArray.size<=sizeLine:=by rw [aC,aC];omega
  have hlong:¬(!its.toArray.isEmpty&&Builtin.List.listTooLong (its.toArray.size+its2.toArray.size))=true:=by
    rw [yy1 hsz,eX]
    exact aI
  refine call_meets F.slot_list_extend ⟨_, e, rfl⟩ F.entry_list_extend (F.args_list_extend_2 _ _)
    (AutoSeq1.list_extend_list_list_0 l its.toArray n b its2.toArray n2 hlong (by rw [aC];omega) (by omega)) ⟨e,e2,?_⟩
  refine ⟨.non,_,I.lset (its':=its++its2) hH e (by simp) (r.append r2) ?_,rfl,q⟩
  rw [aq]
  omega
def xm4:V->List V->Hp->VK->Prop:=λx vs H Q=>∃l xs i k y,x=.ref l/\vs=[.int i]/\H l=some (.lst xs)/\-(2 ^ 63)<=i/\i<2 ^ 63/\seqIndex? i xs.length=some k/\xs[k]?=some y/\Q y (upd H l (.lst (xs.eraseIdx k)))
theorem yx8:MtM X "list.pop" xm4:=by
  intro pins s σ H x vs v us Q I rx rv h
  obtain ⟨l,xs,i,k,y,rfl,rfl,hH,h1,h2,hk,hy,q⟩:=h
  cases rx
  obtain ⟨u,rfl,ru⟩:=rv.one
  obtain ⟨t,rfl⟩:=ru
  obtain ⟨z,its,n,r,hl,e⟩:=I.lstM hH
  obtain ⟨w,hw,rw'⟩:=r.get hy
  refine call_meets F.slot_list_pop ⟨_, e, rfl⟩ F.entry_list_pop (F.args_list_pop_2 _ _)
    (MeetsSeq.list_pop_at l its.toArray n i t k w (fitsIndex_both h1 h2) (by rw [aC,←hl];exact hk) (by rw [←bP];exact hw) (by rw [aC];omega)) ⟨e,?_⟩
  refine ⟨y,_,I.lset (its':=its.eraseIdx k) hH e ?_ (r.eraseIdx k) ?_,rw',q⟩
  . show its.toArray.eraseIdxIfInBounds k = (its.eraseIdx k).toArray
    rw [List.eraseIdxIfInBounds_toArray]
  . have := zr4 xs k
    omega
def xm2:V->List V->Hp->VK->Prop:=λx vs H Q=>∃l xs,x=.ref l/\vs=[]/\H l=some (.lst xs)/\Q .non (upd H l (.lst []))
theorem yx7:MtM X "list.clear" xm2:=by
  intro pins s σ H x vs v us Q I rx rv h
  obtain ⟨l,xs,rfl,rfl,hH,q⟩:=h
  cases rx
  have hus:=rv.zero
  subst hus
  obtain ⟨z,its,n,r,hl,e⟩:=I.lstM hH
  refine call_meets F.slot_list_clear ⟨_,e,rfl⟩ F.entry_list_clear (F.args_list_clear_1 _) (AutoSeq1.list_clear_list_0 l its.toArray n (by rw [aC];omega)) ⟨e,?_⟩
  exact ⟨.non,_,I.lset (its':=[]) (ys:=[]) hH e rfl .nil (aQ _),rfl,q⟩
end
section
variable {prog:Program}{w:World}{A:Around}{E:Value->Shared->Prop}{s:Shared}
end
section
variable {X:Cx}
end
section
variable {κ:Type}[DecidableEq κ]
def J5 (kvs:List (κ×V))(k:κ):Option V:=(kvs.find? λkv=>decide (kv.1=k)).map (·.2)
def putK (kvs:List (κ×V))(k:κ)(v:V):List (κ×V) :=
  if (kvs.any λkv=>decide (kv.1=k))=true then kvs.map (λkv=>if kv.1=k then (kv.1,v) else kv) else kvs++[(k,v)]
theorem M4 {p:κ×V}{r:List (κ×V)}{k:κ}(e:p.1=k):J5 (p::r) k=some p.2:=by simp [J5,cV,e]
theorem O1 {p:κ×V}{r:List (κ×V)}{k:κ}(e:¬p.1=k):J5 (p::r) k=J5 r k:=by simp [J5,cV,e]
theorem M3 (k : κ) : ∀kvs : List (κ×V), (kvs.any λkv => decide (kv.1 = k)) = (J5 kvs k).isSome
  | []=>rfl
  | p::r=>by
    rw [eG]
    by_cases e:p.1=k
    . simp only [M4 e,decide_eq_true e,Bool.true_or,Option.isSome_some]
    . rw [O1 e,decide_eq_false e,fO];exact M3 k r
theorem G4 (kvs:List (κ×V))(k:κ)(v:V):(putK kvs k v).length<=kvs.length+1:=by
  unfold putK
  split
  . rw [ae];omega
  . rw [aq,az,cn];omega
theorem zm8 {kvs:List (κ×V)}{k:κ}(v:V)(h:J5 kvs k=none):putK kvs k v=kvs++[(k,v)]:=by
  unfold putK
  rw [M3,h]
  exact if_neg (by decide)
theorem D8.isSome_eq {o:Option V}{u:Option Value}(r:D8 o u):o.isSome=u.isSome:=by
  cases o with
  | none=>cases u with
    | none=>rfl
    | some _=>exact (show False from r).elim
  | some _=>cases u with
    | none=>exact (show False from r).elim
    | some _=>rfl
theorem KV.val {kvs:List (κ×V)}{vs:List (κ×Value)}(r:KV kvs vs)(k:κ):D8 (J5 kvs k) (valueAt vs k):=by
  unfold KV at r
  induction r with
  | nil=>exact True.intro
  | @cons p q ps qs h t ih =>
    obtain ⟨h1,h2⟩:=h
    by_cases e:p.1=k
    . have e' : q.1 = k := h1.symm.trans e
      have b:valueAt (q::qs) k=some q.2:=by simp [valueAt,cV,e']
      rw [M4 e,b];exact h2
    . have e' : ¬q.1 = k := λz => e (h1.trans z)
      have b:valueAt (q::qs) k=valueAt qs k:=by simp [valueAt,cV,e']
      rw [O1 e,b];exact ih
theorem KV.any {kvs:List (κ×V)}{vs:List (κ×Value)}(r:KV kvs vs)(k:κ):(kvs.any λkv=>decide (kv.1=k))=vs.any λkv=>decide (kv.1=k):=by
  unfold KV at r
  induction r with
  | nil=>rfl
  | cons h t ih=>rw [eG,eG,ih,h.1]
theorem KV.repl {kvs : List (κ×V)}{vs : List (κ×Value)}(r : KV kvs vs)(k : κ){y : V}{u : Value}(ry : o6 y u) :
    KV (kvs.map λkv=>if kv.1=k then (kv.1,y) else kv) (vs.map λkv=>if kv.1=k then (kv.1,u) else kv):=by
  unfold KV at r ⊢
  induction r with
  | nil=>exact .nil
  | @cons p q ps qs h t ih =>
    rw [aR,aR]
    refine .cons ?_ ih
    obtain ⟨h1,h2⟩:=h
    by_cases e:p.1=k
    . rw [if_pos e,if_pos (h1.symm.trans e)];exact ⟨h1,ry⟩
    . rw [if_neg e,if_neg (λz=>e (h1.trans z))];exact ⟨h1,h2⟩
theorem KV.put {kvs:List (κ×V)}{vs:List (κ×Value)}(r:KV kvs vs)(k:κ){y:V}{u:Value}(ry:o6 y u):KV (putK kvs k y) (stored vs k u):=by
  unfold putK stored
  rw [r.any k]
  by_cases e:(vs.any λkv=>decide (kv.1=k))=true
  . rw [if_pos e,if_pos e];exact r.repl k ry
  . rw [if_neg e,if_neg e];exact Paired.snoc r ⟨rfl,ry⟩
theorem KV.length {kvs:List (κ×V)}{vs:List (κ×Value)}(r:KV kvs vs):kvs.length=vs.length:=Paired.length r
end
theorem ya3 {P:Program}{w:World}{k:Key}{u:Value}(r:o6 (kV k) u):(c0 P w).is k u=true:=by
  cases k with
  | inl i=>obtain ⟨t,e⟩:=(show ∃t,u=Value.int i t from r);subst e;exact yb4 P w i t
  | inr x=>obtain ⟨t,e⟩:=(show ∃t,u=Value.str x t from r);subst e;exact yb5 P w x t
theorem zr3 {P : Program}{w : World} : ∀{ks : List Key} {us : List Value}, p9 (ks.map kV) us -> ItemsAre (c0 P w) ks us
  | [],_,r=>by rw [dQ] at r;cases r;exact .nil
  | k::ks,_,r=>by
    rw [aR] at r
    cases r with
    | cons h t=>exact .cons (ya3 h) (zr3 t)
abbrev KT (H:Hp):List (List Key×V)->List (List Key×Addr×Value)->Prop:=Paired λp q=>p.1=q.1/\H q.2.1=some (.tup (p.1.map kV))/\o6 p.2 q.2.2
theorem KT.val {H:Hp}{kvs:List (List Key×V)}{xs:List (List Key×Addr×Value)}(r:KT H kvs xs)(k:List Key):D8 (J5 kvs k) ((atKey xs k).map (·.2)):=by
  induction r with
  | nil=>exact True.intro
  | @cons p q ps qs h t ih =>
    obtain ⟨h1,_,h2⟩:=h
    by_cases e:p.1=k
    . have e' : q.1 = k := h1.symm.trans e
      have b:atKey (q::qs) k=some q.2:=by simp [atKey,cV,e']
      rw [M4 e,b];exact h2
    . have e' : ¬q.1 = k := λz => e (h1.trans z)
      have b:atKey (q::qs) k=atKey qs k:=by simp [atKey,cV,e']
      rw [O1 e,b];exact ih
theorem KT.repl {H : Hp}{kvs : List (List Key×V)}{xs : List (List Key×Addr×Value)}(r : KT H kvs xs)(k : List Key){y : V}{u : Value}(ry : o6 y u) :
    KT H (kvs.map λkv=>if kv.1=k then (kv.1,y) else kv) (xs.map (putAt k u)):=by
  induction r with
  | nil=>exact .nil
  | @cons p q ps qs h t ih =>
    rw [aR,aR]
    refine .cons ?_ ih
    obtain ⟨h1,h2,h3⟩:=h
    unfold putAt
    by_cases e:p.1=k
    . rw [if_pos e,if_pos (h1.symm.trans e)];exact ⟨h1,h2,ry⟩
    . rw [if_neg e,if_neg (λz=>e (h1.trans z))];exact ⟨h1,h2,h3⟩
theorem KT.put {H : Hp}{kvs : List (List Key×V)}{xs : List (List Key×Addr×Value)}(r : KT H kvs xs)(k : List Key){b : Addr}{y : V}{u : Value}(hb : H b = some (.tup (k.map kV)))(ry : o6 y u) :
    KT H (putK kvs k y) (storedH xs k b u):=by
  have e:(kvs.any λkv=>decide (kv.1=k))=(atKey xs k).isSome:=by
    rw [M3,(r.val k).isSome_eq,fm]
  unfold putK storedH
  rw [e]
  by_cases q:(atKey xs k).isSome=true
  . rw [if_pos q,if_pos q];exact r.repl k ry
  . rw [if_neg q,if_neg q];exact Paired.snoc r ⟨rfl,hb,ry⟩
theorem KT.keeps {H H':Hp}{kvs:List (List Key×V)}{xs:List (List Key×Addr×Value)}(r:KT H kvs xs)(ht:∀b ys,H b=some (.tup ys)->H' b=some (.tup ys)):KT H' kvs xs :=
  Paired.mapP r λ_ _ z=>⟨z.1,ht _ _ z.2.1,z.2.2⟩
section
variable {P:Program}{w:World}{H:Hp}{h:Heap}{a:Addr}
theorem xi2 {u:HO}(ok:HOk P w H h)(e:Rd H a u):n8 P w H h a u:=e.ok ok
theorem zz3 {kvs:List (Key×V)}(ok:HOk P w H h)(e:Rd H a (.dK kvs)):kvs.length<=sizeLine/\(a==sysModules)=false/\∃vs,KV kvs vs/\h.DictOf (c0 P w) a vs :=
  show n8 P w H h a (.dK kvs) from xi2 ok e
theorem yu9 {kvs:List (Key×V)}(ok:HOk P w H h)(e:H a=some (.dK kvs)):kvs.length<=sizeLine/\(a==sysModules)=false/\∃vs,KV kvs vs/\h.DictOf (c0 P w) a vs:=zz3 ok (.inl e)
theorem zk8 {ks:List Key}(ok:HOk P w H h)(e:H a=some (.tup (ks.map kV))):(tupleKind (c0 P w)).is h ks a:=by
  obtain ⟨_,its,r,o,h1,h2,n,h3⟩:=(show n8 P w H h a (.tup (ks.map kV)) from ok a _ e)
  exact ⟨o,its.toArray,n,h1,h2,h3.1,by simpa using zr3 r⟩
theorem yl4 {kvs:List (List Key×V)}(ok:HOk P w H h)(e:Rd H a (.dT kvs)):kvs.length<=sizeLine/\(a==sysModules)=false /\
    ∃xs,KT H kvs xs/\h.DictOfH (tupleKind (c0 P w)) a xs:=by
  obtain ⟨z,y,xs,r,o,es,ep,h1,h2,h3,h4,h5⟩:=(show n8 P w H h a (.dT kvs) from xi2 ok e)
  refine ⟨z,y,xs,r,o,es,ep,h1,h2,h3,h4,λx hx=>?_,h5⟩
  have all:∀{l:List (List Key×V)} {m:List (List Key×Addr×Value)},KT H l m->∀x∈m,(tupleKind (c0 P w)).is h x.1 x.2.1:=by
    intro l m q
    induction q with
    | nil=>intro x hx;exact nomatch hx
    | @cons p q ps qs hq t ih =>
      intro x hx
      rcases ay.mp hx with e|hx
      . subst e
        exact zk8 ok (by rw [←hq.1];exact hq.2.1)
      . exact ih x hx
  exact all r x hx
theorem xh5 {kvs:List (List Key×V)}(ok:HOk P w H h)(e:H a=some (.dT kvs)):kvs.length<=sizeLine/\(a==sysModules)=false /\
    ∃xs,KT H kvs xs/\h.DictOfH (tupleKind (c0 P w)) a xs:=yl4 ok (.inl e)
end
def U6 (H:Hp)(a:Addr)(y:V)(r:Option V):Prop :=
  (∃kvs k,Rd H a (.dK kvs)/\y=kV k/\r=J5 kvs k)∨∃kvs k b,Rd H a (.dT kvs)/\y=.ref b/\H b=some (.tup (k.map kV))/\r=J5 kvs k
def zn8 (H:Hp)(a:Addr)(y v:V)(H':Hp):Prop :=
  (∃kvs k,H a=some (.dK kvs)/\y=kV k/\kvs.length<sizeLine/\H'=upd H a (.dK (putK kvs k v))) ∨
  ∃kvs k b,H a=some (.dT kvs)/\y=.ref b/\H b=some (.tup (k.map kV))/\kvs.length<sizeLine/\H'=upd H a (.dT (putK kvs k v))
theorem U6.k {H:Hp}{a:Addr}{kvs:List (Key×V)}{k:Key}(e:H a=some (.dK kvs)):U6 H a (kV k) (J5 kvs k):=.inl ⟨kvs,k,.inl e,rfl,rfl⟩
theorem U6.t {H:Hp}{a b:Addr}{kvs:List (List Key×V)}{k:List Key}(e:H a=some (.dT kvs))(eb:H b=some (.tup (k.map kV))):U6 H a (.ref b) (J5 kvs k):=.inr ⟨kvs,k,b,.inl e,rfl,eb,rfl⟩
theorem zn8.k {H:Hp}{a:Addr}{kvs:List (Key×V)}{k:Key}{v:V}(e:H a=some (.dK kvs))(hl:kvs.length<sizeLine):zn8 H a (kV k) v (upd H a (.dK (putK kvs k v))):=.inl ⟨kvs,k,e,rfl,hl,rfl⟩
theorem zn8.t {H : Hp}{a b : Addr}{kvs : List (List Key×V)}{k : List Key}{v : V}(e : H a = some (.dT kvs))(eb : H b = some (.tup (k.map kV)))(hl : kvs.length<sizeLine) :
    zn8 H a (.ref b) v (upd H a (.dT (putK kvs k v))):=.inr ⟨kvs,k,b,e,rfl,eb,hl,rfl⟩
section
variable {X:Cx}{pins:List (Addr×Obj)}{σ:St}{H:Hp}{s:Shared}{a:Addr}{y v:V}{u r:Value}{o:Option V}{A:Around}{E:Value->Shared->Prop}
theorem Inv.big (I:Inv X pins σ H s):sysModules<s.heap.objs.size:=by
  have h:mainGlobals<s.heap.objs.size:=(I.mod.glob.keeps I.bk).lt
  exact dW (by decide) h
theorem yp5 {Q : Value -> Shared -> Prop}(hu : A.units+1<cLine)(I : Inv X pins σ H s)(g : U6 H a y (some v))(ry : o6 y u)(h : ∀w' s', Inv X pins σ H s' -> o6 v w' -> Q w' s') :
    wpAny (model X.prog X.w) A (getItem (.ref a) u) Q E s:=by
  rcases g with ⟨kvs,k,e,ey,l⟩|⟨kvs,k,b,e,ey,eb,l⟩
  . subst ey
    obtain ⟨z,hd,vs,rel,dd⟩:=zz3 I.hok e
    obtain ⟨w',hw,rw'⟩:=D8.some_of (v:=v) (o:=valueAt vs k) (by rw [l];exact rel.val k)
    exact wpAny_getItem_of (ya3 ry) dd.mapOf hw (h w' _ (I.tok _) rw')
  . subst ey
    cases (show u=Value.ref b from ry)
    obtain ⟨z,hd,xs,rel,dd⟩:=yl4 I.hok e
    obtain ⟨w',hw,rw'⟩:=D8.some_of (v:=v) (o:=(atKey xs k).map (·.2)) (by rw [l];exact rel.val k)
    obtain ⟨p,hp,hp2⟩:=df.mp hw
    refine wpAny_getItem_heap (tupleKind_room_in1 hu) (zk8 I.hok eb) dd hp ?_
    rw [hp2]
    exact h w' _ (I.tok _) rw'
theorem xc8 {Q : Value -> Shared -> Prop}(hu : A.units+1<cLine)(I : Inv X pins σ H s)(g : U6 H a y o)(ry : o6 y u)(h : ∀s', Inv X pins σ H s' -> Q (.bool (!o.isSome)) s') :
    wpAny (model X.prog X.w) A (compareOp .NotIn u (.ref a)) Q E s:=by
  rcases g with ⟨kvs,k,e,ey,l⟩|⟨kvs,k,b,e,ey,eb,l⟩
  . subst ey
    obtain ⟨z,hd,vs,rel,dd⟩:=zz3 I.hok e
    refine wpAny_notIn_of (ya3 ry) hd dd.mapOf ?_
    rw [←(rel.val k).isSome_eq,←l]
    exact h _ (I.tok _)
  . subst ey
    cases (show u=Value.ref b from ry)
    obtain ⟨z,hd,xs,rel,dd⟩:=yl4 I.hok e
    refine wpAny_notIn_heap (tupleKind_room_in1 hu) (zk8 I.hok eb) hd dd ?_
    have q:=(rel.val k).isSome_eq
    rw [fm] at q
    rw [←q,←l]
    exact h _ (I.tok _)
theorem zh8 {h' : Heap}{t' : Nat}{ob : HO}(I : Inv X pins σ H s)(mu : Mut (H a))(hs : Heap.SameBut a s.heap h')(he : ∃q, h'.get? a = some q)(new : n8 X.prog X.w (upd H a ob) h' a ob) :
    Inv X pins σ (upd H a ob) { s with heap:=h',toks:=t' } :=
  I.write (x:=a) (e:=a) mu (.inl rfl) (λb q hb z=>(hs.2 b hb).trans z) he new
theorem yu8 {P : Program}{w : World}{H' : Hp}{h' : Heap}{kvs : List (Key×V)}{vs : List (Key×Value)}(z : kvs.length <= sizeLine)(hd : (a==sysModules) = false)(rel : KV kvs vs)(dd : h'.DictOf (c0 P w) a vs) :
    n8 P w H' h' a (.dK kvs):=⟨z,hd,vs,rel,dd⟩
theorem yp6 {H' : Hp}{Q : Unit -> Shared -> Prop}(hu : A.units+1<cLine)(I : Inv X pins σ H s)(g : zn8 H a y v H')(ry : o6 y u)(rv : o6 v r)(h : ∀s', Inv X pins σ H' s' -> Q () s') :
    wpAny (model X.prog X.w) A (setItem (.ref a) u r) Q E s:=by
  rcases g with ⟨kvs,k,e,ey,l,eH⟩|⟨kvs,k,b,e,ey,eb,l,eH⟩
  . subst ey eH
    obtain ⟨z,hd,vs,rel,dd⟩:=yu9 I.hok e
    have hz:vs.length<=sizeLine:=by rw [←rel.length];exact z
    have hl:(putK kvs k v).length<=sizeLine:=by have:=G4 kvs k v;omega
    refine wpAny_setItem_pairs (hsz:=hz) (ya3 ry) dd λh' dd' hs=>h _ ?_
    have he:∃q,h'.get? a=some q:=let ⟨q,_,_,hq,_⟩:=dd';⟨q,hq⟩
    exact zh8 I (by rw [e];exact True.intro) hs he (yu8 hl hd (rel.put k rv) dd')
  . subst ey eH
    cases (show u=Value.ref b from ry)
    obtain ⟨z,hd,xs,rel,dd⟩:=xh5 I.hok e
    have hz:xs.length<=sizeLine:=by rw [←Paired.length rel];exact z
    have hl:(putK kvs k v).length<=sizeLine:=by have:=G4 kvs k v;omega
    refine wpAny_setItem_heap (hsz:=hz) (tupleKind_room_in1 hu) (zk8 I.hok eb) dd λh' dd' hs=>h _ ?_
    obtain ⟨q,es,ep,hq,h2,h3,h4,_,h5⟩:=dd'
    refine zh8 I (by rw [e];exact True.intro) hs ⟨q,hq⟩ ⟨hl,hd,_,(rel.put k eb rv).keeps λc ys ec=>?_,q,es,ep,hq,h2,h3,h4,h5⟩
    rw [z7 (i8 ec e (λz=>nomatch z))]
    exact ec
end
section
variable {X:Cx}{pins:List (Addr×Obj)}{σ:St}{H:Hp}{s:Shared}{a:Addr}{kvs:List (Key×V)}{k:Key}{u:Value}{A:Around}{E:Value->Shared->Prop}
theorem xn7 {Q:Value->Shared->Prop}(I:Inv X pins σ H s)(e:Rd H a (.dK kvs))(h:∀t s',Inv X pins σ H s'->Q (.int kvs.length t) s'):wpAny (model X.prog X.w) A (call (.builtin "len") [.ref a]) Q E s:=by
  obtain ⟨z,hd,vs,rel,dd⟩:=zz3 I.hok e
  refine call_len_dict hd dd (by rw [←rel.length];rw [sizeLine_eq] at z;omega) ?_
  rw [←rel.length]
  exact h _ _ (I.tok _)
end
def xn4 (i:Expr):Prop:=∀ov iv,subscripted i false ov iv=operate [ov,iv] (getItem ov iv)
theorem xg4 {prog : Program}{w : World}{A : Around}{E : Value -> Shared -> Prop}{s : Shared}{env : Env}{value slice : Expr}{pos : Pos}{T id : String}{Q : Value -> Shared -> Prop}
    (hl:typeLookup (.type T) "__getitem__"=pure (some (.builtin id))) (hs:xn4 slice)
    (h:wpAny (model prog w) A (eval value env) (λo s₁=>wpAny (model prog w) A (eval slice env) (λi s₂=>s₂.TypeIs o T/\wpAny (model prog w) A (getItem o i) Q E s₂) E s₁) E s) :
    wpAny (model prog w) A (eval (.Subscript value slice pos) env) Q E s:=by
  refine Subscript_ (wpAny_mono h (λo s₁ h₁=>wpAny_mono h₁ (λi s₂ h₂=>?_) λ_ _ x=>x) λ_ _ x=>x)
  obtain ⟨hT,h₂⟩:=h₂
  unfold subscriptTail
  refine wpAny_bind ?_
  rw [getitemInPython_of_ne hT.not_modules]
  refine wpAny_bind (wpAny_specialOf hT hl ?_)
  have fin:wpAny (model prog w) A (subscripted slice false o i) (λr s₃=>wpAny (model prog w) A (letTemporaryGo value o r >>= λ_=>pure r) Q E s₃) E s₂:=by
    rw [hs o i]
    exact wpAny_operating (wpAny_mono h₂ (λr s₃ h₃=>wpAny_bind (wpAny_letTemporaryGo (wpAny_pure h₃))) λ_ _ x=>x)
  first
    | exact wpAny_pure (wpAny_bind fin)
    | exact wpAny_bind (wpAny_pure (wpAny_bind fin))
    | exact wpAny_bind fin
theorem zz2 {X:Cx}{pins:List (Addr×Obj)}{σ:St}{H:Hp}{s:Shared}{a:Addr}{y:V}{o:Option V}(I:Inv X pins σ H s)(g:U6 H a y o):s.TypeIs (.ref a) "dict":=by
  rcases g with ⟨kvs,k,e,_,_⟩|⟨kvs,k,b,e,_,_,_⟩
  . obtain ⟨_, _, vs, _, dd⟩ := zz3 I.hok e
    exact dd.typeIs
  . obtain ⟨_, _, xs, _, dd⟩ := yl4 I.hok e
    exact dd.typeIs
def xq4 (td ty:TE):TE:=λσ H Q=>td σ H λx H1=>ty σ H1 λy H2=>∃a v,x=.ref a/\U6 H2 a y (some v)/\Q v H2
def xg6 (ty td:TE):TE:=λσ H Q=>ty σ H λy H1=>td σ H1 λx H2=>∃a o,x=.ref a/\U6 H2 a y o/\Q (.bl (!o.isSome)) H2
def xp9 (td ty tv:TE):TS:=λD σ H=>tv σ H λv H1=>td σ H1 λx H2=>ty σ H2 λy H3=>∃a H4,x=.ref a/\zn8 H3 a y v H4/\D.nx σ H4
section
variable {X:Cx}{o i e value:Expr}{pos pos' tpos:Pos}{td ty tv:TE}
theorem L4 (hu:X.A.units+1<cLine)(ho:PE X o td)(hi:PE X i ty)(hs:xn4 i):PE X (.Subscript o i pos) (xq4 td ty):=by
  intro pins s σ H Q I h
  refine xg4 PySem.F.slot_dict_getitem.lookup hs (thn (ho pins s σ H _ I h) λu s1 ⟨x,H1,I1,rx,q1⟩=>thn (hi pins s1 σ H1 _ I1 q1) λiv s2 ⟨y,H2,I2,ry,a,v,ex,g,q2⟩=>?_)
  subst ex
  obtain rfl:u=Value.ref a:=rx
  exact ⟨zz2 I2 g,yp5 hu I2 g ry λw' s3 I3 rw'=>⟨v,H2,I3,rw',q2⟩⟩
theorem D2 (hu:X.A.units+1<cLine)(hi:PE X i ty)(ho:PE X o td):PC X .NotIn i o (xg6 ty td):=by
  intro pins s σ H Q I h
  refine thn (hi pins s σ H _ I h) λiv s1 ⟨y,H1,I1,ry,q1⟩=>thn (ho pins s1 σ H1 _ I1 q1) λu s2 ⟨x,H2,I2,rx,a,ov,ex,g,q2⟩=>?_
  subst ex
  obtain rfl:u=Value.ref a:=rx
  exact xc8 hu I2 g ry λs3 I3=>⟨.bl (!ov.isSome),H2,I3,rfl,q2⟩
theorem zi2 (hu : X.A.units+1<cLine)(ho : PE X o td)(hi : PE X i ty)(hv : PE X value tv)(hs : swapsWith value (some (.Subscript o i pos')) pos.line X.env = pure false) :
    PS X (.Assign [.Subscript o i pos'] value pos) (xp9 td ty tv):=by
  intro pins s σ H D I h
  refine wpAny_Assign_Subscript (thn (hv pins s σ H _ I h) λr s1 ⟨v,H1,I1,rv,q1⟩=>thn (ho pins s1 σ H1 _ I1 q1) λu s2 ⟨x,H2,I2,rx,q2⟩=>thn (hi pins s2 σ H2 _ I2 q2) λiv s3 ⟨y,H3,I3,ry,a,H4,ex,g,q3⟩=>?_) hs
  subst ex
  obtain rfl:u=Value.ref a:=rx
  exact yp6 hu I3 g ry rv λs4 I4=>⟨σ,H4,I4,q3⟩
end
theorem yu7 {P:Program}{w:World}{H:Hp}(h:Heap)(hb:sysModules<h.objs.size):n8 P w H (h.push { cls:=.type "dict",data:=.dict #[] }) h.objs.size (.dK []) :=
  ⟨aQ _,beq_eq_false_iff_ne.mpr (Ne.symm (aS hb)),[],.nil,Heap.DictOf.new h⟩
theorem yv1 {P:Program}{w:World}{H:Hp}(h:Heap)(hb:sysModules<h.objs.size):n8 P w H (h.push { cls:=.type "dict",data:=.dict #[] }) h.objs.size (.dT []) :=
  ⟨aQ _,beq_eq_false_iff_ne.mpr (Ne.symm (aS hb)),[],.nil,_,#[],0,aG _ rfl,⟨rfl,rfl,rfl⟩,rfl,rfl,cH⟩
section
variable {X:Cx}{pos:Pos}
end
def yk1 : List (TE×TE) -> St -> Hp -> (List (V×V) -> Hp -> Prop) -> Prop
  | [],_,H,Q=>Q [] H
  | (tk,tv)::r,σ,H,Q=>tk σ H λx H1=>tv σ H1 λy H2=>yk1 r σ H2 λps H3=>Q ((x,y)::ps) H3
abbrev VV:List (V×V)->List (Value×Value)->Prop:=Paired λp q=>o6 p.1 q.1/\o6 p.2 q.2
def PPs (X:Cx)(pos:Pos)(keys:List (Option Expr))(values:List Expr)(trs:List (TE×TE)):Prop :=
  ∀(pins:List (Addr×Obj)) (s:Shared) (σ:St) (H:Hp) (Q:List (V×V)->Hp->Prop),Inv X pins σ H s->yk1 trs σ H Q ->
    wpAny (model X.prog X.w) X.A (evalPairs (pairTrees keys values X.env pos)) (λvs s'=>∃ps H',Inv X pins σ H' s'/\VV ps vs/\Q ps H') X.xe s
theorem zw4 {X:Cx}{pos:Pos}:PPs X pos [] [] []:=λpins s σ H Q I h=>pairTrees_nil_walk ⟨[],H,I,.nil,h⟩
theorem zm4 {X : Cx}{pos : Pos}{k v : Expr}{ks : List (Option Expr)}{vs : List Expr}{tk tv : TE}{trs : List (TE×TE)}(hk : PE X k tk)(hv : PE X v tv)(hr : PPs X pos ks vs trs) :
    PPs X pos (some k::ks) (v::vs) ((tk,tv)::trs):=λpins s σ H Q I h =>
  pairTrees_cons_walk (thn (hk pins s σ H _ I h) λu s1 ⟨x,H1,I1,rx,q1⟩=>thn (hv pins s1 σ H1 _ I1 q1) λw2 s2 ⟨y,H2,I2,ry,q2⟩ =>
    thn (hr pins s2 σ H2 _ I2 q2) λws s3 ⟨ps,H3,I3,rel,q3⟩=>⟨(x,y)::ps,H3,I3,.cons ⟨rx,ry⟩ rel,q3⟩)
def W5 (kvs more:List (Key×V)):List (Key×V):=more.foldl (λacc kv=>putK acc kv.1 kv.2) kvs
theorem KV.merge:∀{more:List (Key×V)} {rs:List (Key×Value)} {kvs:List (Key×V)} {vs:List (Key×Value)},KV more rs->KV kvs vs->KV (W5 kvs more) (merged vs rs):=by
  intro more rs kvs vs r
  unfold KV at r
  induction r generalizing kvs vs with
  | nil=>intro q;exact q
  | @cons p q ps qs h t ih =>
    intro r0
    have e:KV (putK kvs p.1 p.2) (stored vs q.1 q.2):=by
      have:=r0.put p.1 h.2
      rw [←h.1];exact this
    exact ih e
theorem C7 : ∀(more kvs : List (Key×V)), (W5 kvs more).length <= kvs.length+more.length
  | [],kvs=>by show kvs.length<=kvs.length+0;omega
  | p::r,kvs=>by
    have h1:=C7 r (putK kvs p.1 p.2)
    have h2:=G4 kvs p.1 p.2
    show (W5 (putK kvs p.1 p.2) r).length<=_
    rw [az];omega
theorem zj2 {P : Program}{w : World} : ∀{kvs : List (Key×V)} {ws : List (Value×Value)}, VV (kvs.map λkv => (kV kv.1, kv.2)) ws -> ∃rs, Carries (c0 P w) ws rs /\ KV kvs rs
  | [],_,r=>by rw [dQ] at r;cases r;exact ⟨[],True.intro,.nil⟩
  | p::kvs,_,r=>by
    rw [aR] at r
    cases r with
    | @cons a b as bs h t =>
      obtain ⟨rs,c,q⟩:=zj2 (P:=P) (w:=w) t
      obtain ⟨b1,b2⟩:=b
      exact ⟨(p.1,b2)::rs,⟨ya3 h.1,rfl,c⟩,.cons ⟨rfl,h.2⟩ q⟩
def xq5 (trs:List (TE×TE)):TE:=λσ H Q=>∀p,H p=none->yk1 trs σ (upd H p (.dK [])) λps H2=>H2 p=some (.dK [])/\∃kvs:List (Key×V),ps=kvs.map (λkv=>(kV kv.1,kv.2))/\kvs.length<=15/\Q (.ref p) (upd H2 p (.dK (W5 [] kvs)))
theorem zv8 {X : Cx}{pos : Pos}{keys : List (Option Expr)}{values : List Expr}{trs : List (TE×TE)}(h : PPs X pos keys values trs)(hall : keys.all (·.isSome) = true)(hl : keys.length = values.length)(h0 : keys ≠ [])
    (h15:keys.length<=15):PE X (.Dict keys values pos) (xq5 trs):=by
  intro pins s σ H Q I q
  have hn:=I.hok.fresh (af s.heap.objs.size)
  have I1:=I.laid (a:=s.heap.objs.size) (o:=.dK []) (h':=s.heap.push { cls:=.type "dict",data:=.dict #[] }) (t':=s.toks) (λ_ _ q=>av _ q) (af _) (yu7 s.heap I.big)
  refine wpAny_Dict_walk (knd:=c0 X.prog X.w) hall hl h0 h15 (thn (h pins _ σ _ _ I1 (q _ hn)) λws s2 ⟨ps,H2,I2,rel,e,kvs,ep,lk,q2⟩=>?_)
  subst ep
  obtain ⟨rs,c,rk⟩:=zj2 (P:=X.prog) (w:=X.w) rel
  obtain ⟨z,hd,vs0,r0,dd⟩:=yu9 I2.hok e
  cases r0
  refine ⟨rs,c,dd,λh' dd' hs=>⟨.ref s.heap.objs.size,_,?_,rfl,q2⟩⟩
  have hz:(W5 [] kvs).length<=sizeLine:=by
    have h1:=C7 kvs []
    rw [cn] at h1
    rw [sizeLine_eq];omega
  have he:∃q,h'.get? s.heap.objs.size=some q:=let ⟨q,_,_,hq,_⟩:=dd';⟨q,hq⟩
  exact zh8 I2 (by rw [e];exact True.intro) hs he (yu8 hz hd (rk.merge .nil) dd')
section
variable {X:Cx}{pins:List (Addr×Obj)}{σ:St}{H:Hp}{s:Shared}{a:Addr}{y d:V}{u r:Value}{o:Option V}{A:Around}{E:Value->Shared->Prop}
end
section
variable {X:Cx}{o e f:Expr}{apos cpos:Pos}{td ty tx:TE}
end
section
variable {X:Cx}{pins:List (Addr×Obj)}{σ:St}{H:Hp}{s:Shared}{a:Addr}{kvs:List (Key×V)}{A:Around}{E:Value->Shared->Prop}
end
section
variable {X:Cx}{pins:List (Addr×Obj)}{σ:St}{H:Hp}{s:Shared}{a:Addr}{y:V}{u:Value}{A:Around}{E:Value->Shared->Prop}
end
end L2
namespace Att
open PySem PySem.W PySem.Calls PyProof.Rows
theorem zh0 {P:Params}{h:Heap}:∀(ns:List Int) (vs:List Value),WellAll P h vs (ns.map WData.int)->IntsAre vs ns:=by
  intro ns
  induction ns with
  | nil =>
    intro vs w
    rw [dQ] at w
    cases w
    exact .nil
  | cons n ns ih =>
    intro vs w
    rw [aR] at w
    cases w with
    | cons a b =>
      cases a
      exact .cons _ _ (ih _ b)
theorem ys7 {l : OpenLaw}{n : Nat}(hn : l.most = some n){P : Params}{h : Heap}{args : List WData}{vals : List Value}
    (hpre:l.row.toRowW.claim.pre args=true) (hwl:WellAll P h vals args) :
    ∃a vs ns,vals=[Value.ref a]/\args=[WData.list (ns.map WData.int)]/\h.get? a=some { cls:=.type "list",data:=.seq vs.toArray }/\IntsAre vs ns/\ns.length<=n:=by
  have hsh:WShape.hasAll [] args [.list .int]=true:=(pre_splitW hpre).1
  have hc:l.pre.holds [] { args:=args }=true:=(pre_splitW hpre).2
  obtain ⟨d,r,rfl,h1,h2⟩:=hasAllW_cons hsh
  obtain rfl:=hasAllW_nil h2
  obtain ⟨xs,rfl,h3⟩:=hasW_list h1
  obtain ⟨ns,rfl⟩:=items_int h3
  have hlen:ns.length<=n:=by
    unfold OpenLaw.pre at hc
    have h4:(WTm.not (.lt (.lit (.int n)) (.len (.arg 0)))).holds [] { args:=[.list (ns.map .int)] }=true:=by
      have h4:=(holds_andW hc).1
      rw [hn] at h4
      exact h4
    have h5:=condW_of h4 (w_not (w_lt w_lit (w_len_list (w_arg rfl))))
    rw [ae] at h5
    refine cQ λq=>?_
    have q':(n:Int)<((ns.length:Nat):Int):=by omega
    first
      | (rw [decide_eq_true q'] at h5;exact absurd h5 (by decide))
      | (simp at h5;omega)
  cases hwl with
  | cons w1 w2 =>
    cases w2
    cases w1 with
    | list ho hall=>exact ⟨_,_,ns,rfl,rfl,ho,zh0 ns _ hall,hlen⟩
theorem ys0 (l:OpenLaw)(args:List WData):l.row.toRowW.claim.post args (.bool true) args=true :=
  postW_of (r := l.row.toRowW) (X := (true==true))
    (show WShape.has [] (.bool true) .bool=true by first|rfl|decide|simp [WShape.has,WShape.arms,WShape.armsAll])
    (show (WTm.eq .res (.lit (.bool true))).value [] { args:=args,res:=some (.bool true),after:=args }=some (.bool (true==true)) from w_eq_bool (w_res rfl) w_lit) rfl
section
variable {prog:Program}{w:World}{A:Around}{E:Value->Shared->Prop}{s:Shared}{K:Frag}
end
end Att
namespace L2
open PySem PySem.Spec PyProof.Rows
theorem D7 : ∀{vs : List Value} {ns : List Int}, IntsAre vs ns -> p9 (ns.map V.int) vs
  | _,_,.nil=>.nil
  | _,_,.cons n t h=>.cons ⟨t,rfl⟩ (D7 h)
def Only (H:Hp):Prop:=∀b,H b=none∨∃o xs,H b=some (.frz o (.lst xs))
theorem yw8 {P : Program}{w : World}{K : W.Frag}{mg mb : Str -> Option Value}{CX : CXT}{k : Nat}{fa a : Addr}{fd : FuncData}{x : Str}{sp : Sp}{s₁ : Shared}{vs : List Value}{ns : List Int}
    (KX:K.In s₁.heap) (hns:s₁.heap.Ns mainGlobals mg) (hb:s₁.heap.Ns builtinsNs mb) (hbb:∀x:Str,x≠"__name__"->mb x=bootBuiltins x) (hlim:s₁.heap.NoLimit) (hg:s₁.gens=#[])
    (ha:s₁.heap.get? a=some { cls:=.type "list",data:=.seq vs.toArray }) (hi:IntsAre vs ns) (hl:ns.length<=sizeLine) (hr:X8 k callerA)
    (F:∀base:Heap,K.In base->base.Ns mainGlobals mg->p6 P w K mg base CX k fa fd [x] sp) (hbind:∀(s:Shared) (u:Value),BindsTo s fd ⟨[u],[]⟩ [(x,u)])
    (hsp:∀H:Hp,Only H->SqL K H a (ns.map V.int)->sp [.ref a] H (λv _=>v=.bl true) λ_ _ _=>False)
    (hCX:∀H e s',CX [] H s₁ (λ_ _ _=>False) e s'->False) :
    codeAny (model P w) callerA (.call (.ref fa) ⟨[.ref a],[]⟩) (λr s'=>r=.ok (.ret (.bool true))/\OldK s₁.heap s'.heap/\s'.os=s₁.os/\AllBare s'.gens) s₁:=by
  have rv:=D7 hi
  have lenV:=hi.length
  have core:∀H:Hp,Only H->SqL K H a (ns.map V.int)->HOk P w H s₁.heap->(∀b,H b≠none->b=a)->(H a≠none->K.lookup a=none) ->
      codeAny (model P w) callerA (.call (.ref fa) ⟨[.ref a],[]⟩) (λr s'=>r=.ok (.ret (.bool true))/\OldK s₁.heap s'.heap/\s'.os=s₁.os/\AllBare s'.gens) s₁:=by
    intro H hO hS hok hA hK
    have base_of:∀{b:Addr} {o:Obj},s₁.heap.get? b=some o->H b=none->(zt6 s₁.heap H).get? b=some o:=λe n=>yw1 e n
    have noA:∀{b:Addr} {o:Obj} {es:Array DictEntry} {ep:Nat},s₁.heap.get? b=some o->o.data=.dict es ep->H b=none:=λ{b o es ep} e d=>by
      cases q:H b with
      | none=>rfl
      | some u =>
        have e':b=a:=hA b (by rw [q];simp)
        subst e'
        rw [ha] at e;cases e
        have d':Data.seq vs.toArray _=Data.dict es ep:=d
        cases d'
    have nsK:∀{b:Addr} {m:Str->Option Value},s₁.heap.Ns b m->(zt6 s₁.heap H).Ns b m:=λ{b m} ⟨o,es,ep,e,d,r⟩=>⟨o,es,ep,base_of e (noA e d),d,r⟩
    have hKb:K.In (zt6 s₁.heap H):=λb o e=>base_of (KX b o e) (by
      cases q:H b with
      | none=>rfl
      | some u =>
        have e':b=a:=hA b (by rw [q];simp)
        subst e'
        rw [hK (by rw [q];simp)] at e;cases e)
    have hM:Mod K mg (zt6 s₁.heap H):=⟨hKb,nsK hns,⟨mb,nsK hb,hbb⟩,let ⟨mc,h1,h2⟩:=hlim;⟨mc,nsK h1,h2⟩⟩
    have e0:yf3 P w K mg (zt6 s₁.heap H) callerA [] s₁ H:=⟨rfl,hM,λb o e=>xe2 e,fj (yq2 _ _),trivial,λb hb=>absurd (show b∈([]:List Addr) from hb) (by simp),hok,.of_eq hg⟩
    refine codeAny_mono ((F _ hKb (nsK hns)).run callerA [] s₁ H ⟨[.ref a],[]⟩ [.ref a] [.ref a] _ _ hr e0 (hbind s₁ (.ref a)) (.cons rfl .nil) (hsp H hO hS)) λr s' h=>?_
    cases r with
    | error e=>exact (hCX H e s' h).elim
    | ok fl =>
      cases fl with
      | next=>exact False.elim h
      | brk=>exact False.elim h
      | cont=>exact False.elim h
      | ret u =>
        obtain ⟨v,H',os,bare,un,hok',r',q⟩:=h
        have q':v=.bl true:=q
        subst q'
        obtain rfl:u=Value.bool true:=r'
        refine ⟨rfl,OldK.of_keep λb o e=>?_,os,bare⟩
        cases q:H b with
        | none=>exact un.keep b o e q (by intro z;exact absurd (show b∈([]:List Addr) from z) (by simp)) (by simp)
        | some u =>
          rcases hO b with z|⟨ob,xs,z⟩
          . rw [q] at z;cases z
          . have z2 := un.frzs b ob _ z
            obtain ⟨e1,_⟩:=hok b _ z
            obtain ⟨e2,_⟩:=hok' b _ z2
            rw [e] at e1;cases e1
            exact e2
  cases hk:K.lookup a with
  | some o =>
    have e:=KX a o hk
    rw [ha] at e
    cases e
    refine core (λ_=>none) (λ_=>.inl rfl) (.inr ⟨_,vs.toArray,_,hk,rfl,rfl,rfl,by rw [aC,lenV];exact hl,by simpa using rv⟩) (λb u z=>by have z':(none:Option HO)=some u:=z;cases z') (λb z=>absurd rfl z) λz=>absurd rfl z
  | none =>
    refine core (λb=>if b=a then some (.frz { cls:=.type "list",data:=.seq vs.toArray } (.lst (ns.map V.int))) else none) (λb=>?_) (.inl (.inr ⟨{ cls:=.type "list",data:=.seq vs.toArray },if_pos rfl⟩)) (λb u z=>?_) (λb z=>?_) λ_=>hk
    . by_cases hb : b = a
      . exact .inr ⟨_,_,if_pos hb⟩
      . exact .inl (if_neg hb)
    . by_cases hb : b = a
      . have z' := (if_pos hb).symm.trans z
        cases z'
        subst hb
        exact ⟨ha,by rw [ae];exact hl,vs,_,rv,ha⟩
      . have z' := (if_neg hb).symm.trans z
        cases z'
    . by_cases hb : b = a
      . exact hb
      . exact absurd (if_neg hb) z
end L2
namespace L2
open PySem PySem.Spec PyProof.Rows
def Q6 (s:Stmt):Arguments:=match s with
  | .FunctionDef _ a _ _ _ _ _ _ _ _=>a
  | _=>{ posonlyargs:=[],args:=[],vararg:=none,kwonlyargs:=[],kw_defaults:=[],kwarg:=none,defaults:=[] }
def V5 (s:Stmt):List Stmt:=match s with
  | .FunctionDef _ _ b _ _ _ _ _ _ _=>b
  | _=>[]
def y6 (s:Stmt):Scope:=match s with
  | .FunctionDef _ _ _ _ _ _ sc _ _ _=>sc
  | _=>{ kind:=.function,names:=[],isGenerator:=false,isCoroutine:=false }
abbrev CX0:CXT:=λ_ _ _ _ _ _=>False
abbrev E0:XK:=λ_ _ _=>False
theorem ym4 {X:Cx}:B1 CX0 X E0:=λ_ _ _ _ _ _ _ h=>h.elim
structure Fun (K:W.Frag) (x qual:Str) (st:Stmt) (f:Addr) (fd:FuncData):Prop where
  ex:∃(oc:Value) (od:Option Addr) (kV doc pm:Value) (an:Option Addr) (cdv ct:Value) (osl:Array (Option Value)),
    fd=W.fnOf x qual (Q6 st) (V5 st) (y6 st) .none kV doc pm an cdv ct/\K.lookup f=some ⟨oc,od,.func fd,osl⟩/\W.codeIn K cdv qual=true
  kp:W.keepIn K (.ref f)=true
section
variable {P:Program}{w:World}{K:W.Frag}{mg:Str->Option Value}{base:Heap}
theorem Fun.ok {x qual : Str}{st : Stmt}{f : Addr}{fd : FuncData}{N ps : List Str}{k : Nat}{sp : Sp}(F : Fun K x qual st f fd)(S : v1 N ps (y6 st))(len : ∀vs H Q E, sp vs H Q E -> vs.length = ps.length)
    (hbody:∀(cdv:Value) (A:Around) (outer:List Env) (s:Shared) (H:Hp) (vs:List V) (Q:VK) (E:XK),X8 k (A.deeper (envOfC qual (y6 st) s.heap.objs.size f cdv))->sp vs H Q E ->
      ∃t,PSs (ze0 CX0 P w K mg base N qual (y6 st) f cdv A outer s H E).nox (V5 st) t/\t { nx:=λ_ H'=>Q .non H',rt:=Q } (start N vs) H):p6 P w K mg base CX0 (k+1) f fd ps sp:=by
  obtain ⟨oc,od,kV,doc,pm,an,cdv,ct,osl,rfl,lk,hcd⟩:=F.ex
  refine xh6 lk hcd S len λA outer s H vs Q E hr hsp=>?_
  obtain ⟨t,h,q⟩:=hbody cdv A outer s H vs Q E hr hsp
  exact ⟨t,h.nox,q⟩
theorem Fun.binds {x qual : Str}{st : Stmt}{f : Addr}{fd : FuncData}{ps : List Str}(F : Fun K x qual st f fd)
    (h:∀(kV doc pm:Value) (an:Option Addr) (cdv ct:Value) (us:List Value),us.length=ps.length->bindArgs (W.fnOf x qual (Q6 st) (V5 st) (y6 st) .none kV doc pm an cdv ct) ⟨us,[]⟩=pure (ps.zip us)):O2 K fd ps []:=by
  obtain ⟨oc,od,kV,doc,pm,an,cdv,ct,osl,rfl,lk,hcd⟩:=F.ex
  exact .all (h kV doc pm an cdv ct)
theorem zt4 {x qual : Str}{st : Stmt}{f : Addr}{oc : Value}{od an : Option Addr}{osl : Array (Option Value)}{kV doc pm cdv ct : Value}(l : K.lookup f = some ⟨oc, od, .func (W.fnOf x qual (Q6 st) (V5 st) (y6 st) .none kV doc pm an cdv ct), osl⟩)
    (c:W.codeIn K cdv qual=true) (k:W.keepIn K (.ref f)=true):Fun K x qual st f (W.fnOf x qual (Q6 st) (V5 st) (y6 st) .none kV doc pm an cdv ct):=⟨⟨oc,od,kV,doc,pm,an,cdv,ct,osl,rfl,l,c⟩,k⟩
end
theorem xo4 {A:Around}{k:Nat}(hr:X8 k A):A.units+1<cLine:=bT (Nat.add_le_add_left (by decide:1<=64) _) hr.units
theorem zr8 {n:Nat}(h:n<=1000):n<sizeLine:=bT h (by decide)
section
variable {X:Cx}
theorem pv (i : Nat){x : Str}{pos : Pos}(hN : X.N[i]? = some x := by rfl)(hv : Vis X.env.scope x := by first|exact Or.inl rfl|exact Or.inr (Or.inl rfl)|exact Or.inr (Or.inr rfl))(hd : (x==("__debug__" : Str)) = false := by decide)
    (hcd:(x==("__classdict__":Str))=false:=by decide):PE X (.Name x pos) (xr1 i):=xm0 hN hv hd hcd
end
theorem k9 {A B:Prop}(h:B):if false=true then A else B:=by
  rw [if_neg aI]
  exact h
theorem b6 {A B:Prop}(h:A):if true=true then A else B:=by
  rw [if_pos rfl]
  exact h
theorem yw4 {c A B:Prop}[Decidable c](h1:c->A)(h2:¬c->B):if c then A else B:=by
  by_cases h:c
  . rw [if_pos h]
    exact h1 h
  . rw [if_neg h]
    exact h2 h
def y4 (H H':Hp):Prop:=∀b o,H b=some o->H' b=some o
theorem y4.refl (H:Hp):y4 H H:=λ_ _ h=>h
theorem y4.trans {H H1 H2:Hp}(a:y4 H H1)(b:y4 H1 H2):y4 H H2:=λc o h=>b c o (a c o h)
theorem y4.free {H H':Hp}(e:y4 H H'){l:Addr}(h:H' l=Option.none):H l=Option.none:=by
  cases q:H l with
  | none=>rfl
  | some o =>
    rw [e l o q] at h
    cases h
theorem y4.seq {K:W.Frag}{H H':Hp}{a:Addr}{xs:List V}(e:y4 H H')(h:SqL K H a xs):SqL K H' a xs:=by
  rcases h with (h|⟨o,h⟩)|h
  . exact .inl (.inl (e _ _ h))
  . exact .inl (.inr ⟨o,e _ _ h⟩)
  . exact .inr h
section
variable {X:Cx}
theorem E5:R3 X (.builtin "len") (λxs H Q=>∃a kvs,xs=[V.ref a]/\H a=some (.dK kvs)/\Q (.int kvs.length) H):=by
  intro pins s σ H xs us Q I r h
  obtain ⟨a,kvs,rfl,ha,q⟩:=h
  obtain ⟨u,rfl,ru⟩:=M5 r
  cases ru
  exact xn7 I (.inl ha) λt s' I'=>⟨.int kvs.length,H,I',⟨t,rfl⟩,q⟩
end
section
variable {κ:Type}[DecidableEq κ]
end
end L2
set_option maxHeartbeats 4000000
namespace Att
open PySem PySem.W PySem.Calls PyProof.Rows
theorem yo9 {ns:List Int}{z:Int}(h:(WData.list (ns.map WData.int)).layable=true)(hz:z∈ns):Builtin.Int.intBits z<=2 ^ 20:=by
 have h1:=layableW_item h (WData.int z) (aw.mpr ⟨z,hz,rfl⟩)
 obtain ⟨_,_,h3⟩:=layableW_iff.mp h1
 simpa only [WData.weight,Builtin.Int.intBits] using h3
theorem attach_callB {l:OpenLaw}{n:Nat}{q:Program}{loose:List Str}{XP:(Str->Option Value)->Heap->Prop}{YP:World->Heap->Prop}{d:DefRec}
  (hn:l.most=some n) (hdf:d.params.defaults=[])
  (call:∀(w:World) (s₀ s₁:Shared) (mg mb:Str->Option Value) (fa:Addr) (o:Obj) (pm cd doc:Value) (a:Addr) (vs:List Value) (ns:List Int),
   Ground q loose [] XP w s₀ mg mb s₁.heap->YP w s₁.heap ->
   s₁.heap.get? fa=some o->o.data=.func (docDef d.name d.params d.body d.scope pm cd doc)->s₁.heap.CodeRec cd d.name->mg d.name=some (.ref fa) ->
   s₁.heap.get? a=some { cls:=.type "list",data:=.seq vs.toArray }->IntsAre vs ns->ns.length<=n->(∀z∈ns,Builtin.Int.intBits z<=2 ^ 20)->s₁.gens=#[] ->
   codeAny (model l.prog w) callerA (.call (.ref fa) ⟨[.ref a],[]⟩) (λr s'=>r=.ok (.ret (.bool true))/\OldK s₁.heap s'.heap/\s'.os=s₁.os/\AllBare s'.gens) s₁) :
  WalkO q loose XP YP l.row.toRowW d [] (λf vs=>PySem.call f vs):=by
 intro w s₀ s₁ mg mb G Y fa o pm cd doc dV kV ho hd hcd hD hmg hg args vals as hpre hlay hrd hwl hlo
 obtain rfl:dV=.none:=Dflts.none hD hdf
 obtain rfl:kV=.none:=Dflts.noKw hD
 obtain ⟨a,vs,ns,rfl,rfl,hobj,hints,hlen⟩:=ys7 hn hpre hwl
 have hbits:∀z∈ns,Builtin.Int.intBits z<=2 ^ 20:=λz hz=>yo9 (layableW_arg hlay _ au) hz
 refine enter_call (codeAny_mono (call w s₀ s₁ mg mb fa o pm cd doc a vs ns G Y ho (fd_plain hd) hcd hmg hobj hints hlen hbits hg) λr s' hq=>?_)
 obtain ⟨rfl,h2,h3,h4⟩:=hq
 exact ⟨.inl ⟨.bool true,.bool true,[],rfl,λ_=>rfl,.bool true,ys0 l _,λ_=>⟨List.Pairwise.nil,λ_ hm=>(nomatch hm)⟩⟩,h2,h3,h4⟩
end Att
namespace L2
open PySem PySem.Spec PyProof.Rows
theorem walk_ofB {l:W.OpenLaw}{n k:Nat}{q:Program}{loose:List Str}{XP:(Str->Option Value)->Heap->Prop}{YP:World->Heap->Prop}{d:DefRec}{K:Params->W.Frag}{CX:CXT}{sp:W.Frag->Sp}{x:Str}
  (hn:l.most=some n) (hn2:n<=sizeLine) (hdf:d.params.defaults=[]) (hr:X8 k callerA)
  (hY:∀(w:World) (h:Heap),YP w h->(K w.params).In h)
  (F:∀(w:World) (mg:Str->Option Value) (fa:Addr) (h:Heap),(K w.params).In h->h.Ns mainGlobals mg->mg d.name=some (.ref fa) ->
   ∃fd:FuncData,(∀(s:Shared) (u:Value),BindsTo s fd ⟨[u],[]⟩ [(x,u)]) /\
    ∀base:Heap,(K w.params).In base->base.Ns mainGlobals mg->p6 l.prog w (K w.params) mg base CX k fa fd [x] (sp (K w.params)))
  (hsp:∀(K:W.Frag) (H:Hp) (a:Addr) (ns:List Int),ns.length<=n->(∀z∈ns,Builtin.Int.intBits z<=2 ^ 20)->Only H->SqL K H a (ns.map V.int)->sp K [.ref a] H (λv _=>v=.bl true) λ_ _ _=>False)
  (hCX:∀(H:Hp) (s:Shared) (e:Value) (s':Shared),CX [] H s (λ_ _ _=>False) e s'->False) :
  W.WalkO q loose XP YP l.row.toRowW d [] (λf vs=>PySem.call f vs):=by
 refine Att.attach_callB hn hdf λw s₀ s₁ mg mb fa o pm cd doc a vs ns G Y ho hd hcd hmg hobj hints hlen hbits hg=>?_
 have KX:=hY w _ Y
 obtain ⟨fd,hb,hF⟩:=F w mg fa _ KX G.T.g hmg
 exact yw8 KX G.T.g G.T.b G.T.builtins G.T.nolimit hg hobj hints (aB hlen hn2) hr hF hb (λH hO hS=>hsp (K w.params) H a ns hlen hbits hO hS) λH e s'=>hCX H s₁ e s'
section
variable {X:Cx}
end
theorem yq0 {α β:Type}{l:List α}{f:α->β->Sem (ForInStep β)}{g:β->α->β}:∀(c:β),(∀x∈l,∀c,f x c=pure (.yield (g c x)))->forIn l c f=pure (l.foldl g c):=by
 induction l with
 | nil=>intro c _;rfl
 | cons x l ih =>
  intro c h
  rw [dY,h x au,pure_bind]
  exact ih _ λy hy=>h y (ao _ hy)
def Z7 (cells:List (Str×Addr))(cs:List (Str×Addr))(x:Str×NameKind):List (Str×Addr):=if (x.2==NameKind.free)=true then (x.1,(cells.lookup x.1).getD 0)::cs else cs
def yu3 (cells:List (Str×Addr))(names:List (Str×NameKind)):List (Str×Addr):=names.foldl (Z7 cells) []
theorem I0 {scope:Scope}{env:Env}(h:∀y∈scope.names,y.2=.free->∃c,env.cells.lookup y.1=some c):closureFor scope env=pure (yu3 env.cells scope.names):=by
 simp only [closureFor]
 rw [yq0 (g:=Z7 env.cells) [] (λx hx c=>by
  obtain ⟨n,k⟩:=x
  by_cases hk:k=.free
  ·subst hk
   obtain ⟨a,ha⟩:=h _ hx rfl
   have ha':env.cells.lookup n=some a:=ha
   simp only [Z7,beq_self_eq_true,if_true,cellOf,ha',dC,pure_bind]
  ·have hb:(k==NameKind.free)=false:=by simpa using hk
   simp only [Z7,hb,ck,if_false])]
 rfl
theorem zq6 {cells:List (Str×Addr)}:∀{names:List (Str×NameKind)} {cs:List (Str×Addr)},(∀y∈names,y.2=.free->∃c,cells.lookup y.1=some c)->(∀x c,cs.lookup x=some c->cells.lookup x=some c) ->
  ∀x c,(names.foldl (Z7 cells) cs).lookup x=some c->cells.lookup x=some c
 | [],cs,_,h,x,c,e=>h x c e
 | (n,k)::r,cs,hn,h,x,c,e=>by
  refine zq6 (names:=r) (λy hy=>hn y (ao _ hy)) (λx c e=>?_) x c e
  by_cases hk:k=.free
  ·subst hk
   obtain ⟨a,ha⟩:=hn (n,.free) au rfl
   have ha':cells.lookup n=some a:=ha
   simp only [Z7,beq_self_eq_true,if_true,ha',dC,bR] at e
   cases q:x==n with
   | true =>
    rw [q] at e
    have q':x=n:=by simpa using q
    rw [q',ha']
    exact e
   | false =>
    rw [q] at e
    exact h x c e
  ·have hb:(k==NameKind.free)=false:=by simpa using hk
   simp only [Z7,hb,ck,if_false] at e
   exact h x c e
theorem zd9 {cells:List (Str×Addr)}{x:Str}:∀{names:List (Str×NameKind)} {cs:List (Str×Addr)},((x,NameKind.free)∈names∨∃c,cs.lookup x=some c)->∃c,(names.foldl (Z7 cells) cs).lookup x=some c
 | [],cs,h=>by
  rcases h with h|h
  ·cases h
  ·exact h
 | (n,k)::r,cs,h=>by
  refine zd9 (names:=r) (cs:=Z7 cells cs (n,k)) ?_
  rcases h with h|⟨c,h⟩
  ·rcases ay.mp h with e|e
   ·cases e
    right
    simp [Z7]
   ·exact .inl e
  ·right
   by_cases hk:k=.free
   ·subst hk
    simp only [Z7,beq_self_eq_true,if_true,bR]
    cases x==n with
    | true=>exact ⟨_,rfl⟩
    | false=>exact ⟨c,h⟩
   ·have hb:(k==NameKind.free)=false:=by simpa using hk
    simp only [Z7,hb,ck,if_false]
    exact ⟨c,h⟩
def O9 (sc osc:Scope)(fr:List Str):Bool :=
 sc.kind == .function&&(sc.names.all λy=>y.2 != .cell)&&(sc.names.all λy=>y.2 != .local || sc.names.lookup y.1==some .local) &&
 (sc.names.all λy=>y.2 != .free || (osc.names.lookup y.1==some .cell || osc.names.lookup y.1==some .free))&&(fr.all λx=>sc.names.lookup x==some .free)
structure zs6 (sc osc:Scope) (fr:List Str):Prop where
 kind:sc.kind=.function
 cell:∀y∈sc.names,y.2≠.cell
 loc:∀y∈sc.names,y.2=.local->sc.names.lookup y.1=some .local
 free:∀y∈sc.names,y.2=.free->osc.names.lookup y.1=some .cell∨osc.names.lookup y.1=some .free
 fr:∀x∈fr,sc.names.lookup x=some .free
theorem E6 {sc osc:Scope}{fr:List Str}(h:O9 sc osc fr=true):zs6 sc osc fr:=by
 unfold O9 at h
 rw [bN,bN,bN,bN] at h
 obtain ⟨⟨⟨⟨h1,h2⟩,h3⟩,h4⟩,h5⟩:=h
 refine ⟨by simpa using h1,λy hy=>?_,λy hy e=>?_,λy hy e=>?_,λx hx=>?_⟩
 ·simpa using bS.mp h2 y hy
 ·have:=bS.mp h3 y hy
  rw [e] at this
  simpa using this
 ·have:=bS.mp h4 y hy
  rw [e] at this
  simpa using this
 ·simpa using bS.mp h5 x hx
theorem mem_of_lookup {x:Str}{k:NameKind}:∀{l:List (Str×NameKind)},l.lookup x=some k->(x,k)∈l
 | [],h=>by cases h
 | (n,j)::r,h=>by
  rw [bR] at h
  cases q:x==n with
  | true =>
   rw [q] at h
   have q':x=n:=by simpa using q
   cases h
   rw [q']
   exact au
  | false =>
   rw [q] at h
   exact ao _ (mem_of_lookup h)
theorem Q4 {env:Env}:∀{names:List (Str×NameKind)} {x:Str},names.lookup x=some .free ->
  (names.map λ(n,k)=>if (k==NameKind.free&&env.scope.kind == .function&&env.kindOf n==some .cell) then (n,NameKind.cell) else (n,k)).lookup x=some .cell ∨
  (names.map λ(n,k)=>if (k==NameKind.free&&env.scope.kind == .function&&env.kindOf n==some .cell) then (n,NameKind.cell) else (n,k)).lookup x=some .free
 | [],_,h=>by cases h
 | (n,k)::r,x,h=>by
  have ih:=@Q4 env r x
  show List.lookup x ((if (k==NameKind.free&&env.scope.kind == .function&&env.kindOf n==some .cell)=true then (n,NameKind.cell) else (n,k))::_)=_∨List.lookup x ((if (k==NameKind.free&&env.scope.kind == .function&&env.kindOf n==some .cell)=true then (n,NameKind.cell) else (n,k))::_)=_
  rw [bR] at h
  by_cases hc:(k==NameKind.free&&env.scope.kind == .function&&env.kindOf n==some .cell)=true
  ·rw [if_pos hc]
   simp only [bR]
   cases hx:x==n with
   | true=>exact .inl rfl
   | false=>rw [hx] at h;exact ih h
  ·rw [if_neg hc]
   simp only [bR]
   cases hx:x==n with
   | true=>rw [hx] at h;exact .inr h
   | false=>rw [hx] at h;exact ih h
def o5 (X:Cx)(N':List Str)(scope:Scope)(C:Addr)(s₃:Shared)(H₃:Hp)(fp:List Addr):Cx where
 prog:=X.prog
 w:=X.w
 K:=X.K
 mg:=X.mg
 base:=X.base
 A:=X.A
 N:=N'
 s₀:=s₃
 H₀:=H₃
 env:=compEnvC scope (yu3 X.env.cells scope.names) C X.env
 outer:=X.stack
 stack:=X.stack
 ex:=fp
 fn:=λ_=>false
 calm:=X.calm
 pn:=[]
 xe:=λ_ _=>False
def V0 (own:Nat)(fr:List Nat)(σ:St):St:=List.replicate own none++fr.map λj=>(σ[j]?).getD none
section
variable {X:Cx}{pins:List (Addr×Obj)}{σ:St}{H:Hp}{s:Shared}
theorem ya1 {N':List Str}{own:Nat}{fr:List Nat}{scope:Scope}{fp:List Addr}{h₁:Heap}{m:Str->Option Value}{t:Nat}{oD:Obj}(I:Inv X pins σ H s)(hf:∀b∈fp,B0 X pins H b)(hob:∀b∈fp,∃o,s.heap.get? b=some o)
  (hok:zs6 scope X.env.scope (N'.drop own)) (hfr:fr.map (λj=>X.N[j]?)=(N'.drop own).map some) (hown:own<=N'.length)
  (hn:h₁.Ns s.heap.objs.size m) (hsb:Heap.SameBut s.heap.objs.size (s.heap.push oD) h₁) :
  Inv (o5 X N' scope s.heap.objs.size s H fp) [] (V0 own fr σ) H { s with heap:=h₁,toks:=t }:=by
 have cellsSub:∀x c,(yu3 X.env.cells scope.names).lookup x=some c->X.env.cells.lookup x=some c:=λx c e =>
  zq6 (λy hy hk=>I.ok.has y.1 (hok.free y hy hk)) (λx c e=>by cases e) x c e
 have up:∀b o,s.heap.get? b=some o->h₁.get? b=some o:=λb o e=>(hsb.2 b (aS (aF e))).trans (av _ e)
 have hlen:fr.length=(N'.drop own).length:=by
  have:=congrArg List.length hfr
  simpa using this
 have okX:(o5 X N' scope s.heap.objs.size s H fp).Ok :=
  {mod:=I.ok.mod
   kind:=hok.kind
   glob:=I.ok.glob
   blt:=I.ok.blt
   above:=af _
   inj:=λx y c e1 e2=>I.ok.inj x y c (cellsSub x c e1) (cellsSub y c e2)
   has:=λx hk=>by
    have hk':(relabel scope X.env).names.lookup x=some .cell∨(relabel scope X.env).names.lookup x=some .free:=hk
    have key:(x,NameKind.free)∈scope.names:=by
     have all:∀(l:List (Str×NameKind)),(∀y∈l,y.2≠.cell)->((l.map λ(n,k)=>if (k==NameKind.free&&X.env.scope.kind == .function&&X.env.kindOf n==some .cell) then (n,NameKind.cell) else (n,k)).lookup x=some .cell ∨
       (l.map λ(n,k)=>if (k==NameKind.free&&X.env.scope.kind == .function&&X.env.kindOf n==some .cell) then (n,NameKind.cell) else (n,k)).lookup x=some .free)->(x,NameKind.free)∈l:=by
      intro l
      induction l with
      | nil=>intro _ h;rcases h with h|h <;> cases h
      | cons p r ih =>
       obtain ⟨n,k⟩:=p
       intro hc h
       have hr:∀y∈r,y.2≠.cell:=λy hy=>hc y (ao _ hy)
       have hkc:k≠.cell:=hc (n,k) au
       rw [aR] at h
       by_cases hx:(x==n)=true
       ·have hx':x=n:=by simpa using hx
        subst hx'
        by_cases hk:k=.free
        ·subst hk
         exact au
        ·exfalso
         have hb:(k==NameKind.free)=false:=by simpa using hk
         simp [hb,bR] at h
         rcases h with h|h
         ·exact hkc h
         ·exact hk h
       ·have hx0:(x==n)=false:=by simpa using hx
        refine ao _ (ih hr ?_)
        by_cases hc:(k==NameKind.free&&X.env.scope.kind == .function&&X.env.kindOf n==some .cell)=true
        ·simp only [hc,if_true,bR,hx0] at h
         exact h
        ·have hc':(k==NameKind.free&&X.env.scope.kind == .function&&X.env.kindOf n==some .cell)=false:=by simpa using hc
         simp only [hc',ck,if_false,bR,hx0] at h
         exact h
     exact all scope.names hok.cell hk'
    exact zd9 (.inl key)
   cab:=λx c e=>by cases e
   hd:=I.ok.hd
   frames:=I.ok.frames
   stk:=.inl rfl
   exf:=λb hb=>⟨λe=>by
     obtain ⟨o,ho⟩:=hob b hb
     exact absurd (aF ho) (by rw [e];exact aZ _),λx c e=>(hf b hb).2.2.2.2.1 x c (cellsSub x c e)⟩
   bs:=I.bs
   bsz:=aB I.ok.bsz I.sz
   noex:=λb o e hb=>by
    rcases (hf b hb).2.2.2.1 with z|z
    ·exact I.ok.noex b o e z
    ·exact absurd (aF (I.ok.bs b o e).1) (Nat.not_lt.mpr z)
   exfs:=λb hb z=>by
    rcases ay.mp (I.stkSub b z) with e|e
    ·exact (hf b hb).2.1 e
    ·exact (hf b hb).2.2.1 e
   funs:=I.stack
   frf:=I.stkFree }
 refine ⟨okX,rfl,I.bare,Un.kept up,⟨m,hn,λi x v e1 e2 e3=>?_⟩,λx c e=>?_,I.hok.fresh (af _),λx c e=>I.freeC x c (cellsSub x c e),λp hp=>(by cases hp),I.hok.kept up,?_⟩
 ·have e2':(List.replicate own none++fr.map λj=>(σ[j]?).getD none)[i]?=some (some v):=e2
  by_cases hi:i<own
  ·rw [aN (by simpa using hi),de] at e2'
   rw [if_pos hi] at e2'
   cases e2'
  ·rw [bd (by simpa using cQ hi),cA,ag] at e2'
   cases hj:fr[i-own]? with
   | none=>rw [hj] at e2';cases e2'
   | some j =>
    rw [hj] at e2'
    have e4:(σ[j]?).getD none=some v:=by simpa using e2'
    have e5:σ[j]?=some (some v):=by
     cases q:σ[j]? with
     | none=>rw [q] at e4;cases e4
     | some z=>rw [q] at e4;simpa using e4
    have e6:N'[own+(i-own)]?=some x:=by
     rw [show own+(i-own)=i by lia]
     exact e1
    have e7:(N'.drop own)[i-own]?=some x:=by rw [cY];exact e6
    have e8:X.N[j]?=some x:=by
     have q:=congrArg (λl=>l[i-own]?) hfr
     simp only [ag,hj,e7,dD] at q
     simpa using q
    have hx:=hok.fr x (ax e7)
    have hmem:=mem_of_lookup hx
    have hout:=hok.free _ hmem rfl
    obtain ⟨mX,_,hl⟩:=I.loc
    obtain ⟨u,r,l⟩:=hl j x v e8 e5 (.inr hout)
    refine ⟨u,r,?_⟩
    rcases l with ⟨k,_⟩|⟨_,c,ec,z⟩
    ·have k':X.env.scope.names.lookup x=some .local:=k
     rcases hout with q|q <;> (have q':X.env.scope.names.lookup x=_:=q;rw [k'] at q';cases q')
    ·obtain ⟨c',ec'⟩:=zd9 (cells:=X.env.cells) (cs:=[]) (.inl hmem)
     have q:=cellsSub x c' ec'
     rw [ec] at q
     cases q
     obtain ⟨o,ho,hd⟩:=z
     exact .inr ⟨Q4 hx,c,ec',o,up c o ho,hd⟩
 ·obtain ⟨v,o,ho,hd⟩:=I.cell x c (cellsSub x c e)
  exact ⟨v,o,up c o ho,hd⟩
 ·show (List.replicate own none++fr.map λj=>(σ[j]?).getD none).length=N'.length
  rw [aq,cA,ae,hlen,be]
  lia
end
section
variable {prog:Program}{w:World}{A:Around}{s:Shared}
theorem G0 {elt target iter:Expr}{scope:Scope}{pos:Pos}{it acc:Value}{env:Env}{R:Result->Shared->Prop}(I:Nat->Shared->Prop)
  (turn:∀n s,I n s->wpAny (model prog w) A (pyNext it) (λr s₁=>match r with
   | none=>R (.ok .next) s₁
   | some v=>wpAny (model prog w) A (letOwnedTupleGo target it v) (λ_ s₁'=>wpAny (model prog w) A (assign target env v) (λ_ s₂=>wpAny (model prog w) A (eval elt env) (λx s₃ =>
     wpAny (model prog w) A (call (.builtin "list.append") [acc,x]) (λ_ s₄=>∃m,m<n/\I m s₄) (notedBy (model prog w) A env λe s'=>R (.error e) s') s₃)
     (notedBy (model prog w) A env λe s'=>R (.error e) s') s₂) (notedBy (model prog w) A env λe s'=>R (.error e) s') s₁') (notedBy (model prog w) A env λe s'=>R (.error e) s') s₁) (notedBy (model prog w) A env λe s'=>R (.error e) s') s)
  (n:Nat) (h:I n s):codeAny (model prog w) A (.compLoop (.ListComp elt [⟨target,iter,[],0⟩] scope pos) 0 it acc env) R s:=by
 refine codeAny_loop rfl I (λn s hI=>?_) n h
 show wpAny _ _ ((compTurn (.ListComp elt [⟨target,iter,[],0⟩] scope pos) 0 it acc env).onRaise (λx=>do noteFrame x env;theTreesLotGoes x)) _ _ s
 refine wpAny_noted ?_
 rw [compTurn_list1]
 refine wpAny_bind (wpAny_standAt (wpAny_bind (wpAny_mono (turn n s hI) (λr s₁ h₁=>?_) λ_ _ h'=>h')))
 cases r with
 | none=>exact wpAny_pure h₁
 | some v =>
  refine wpAny_bind (wpAny_mono h₁ (λ_ s₁' h₁'=>?_) λ_ _ h'=>h')
  exact wpAny_bind (wpAny_mono h₁' (λ_ s₂ h₂=>wpAny_bind (wpAny_bind (wpAny_mono h₂ (λx s₃ h₃=>wpAny_bind (wpAny_mono h₃
   (λ_ s₄ h₄=>wpAny_pure (wpAny_pure ⟨rfl,h₄⟩)) λ_ _ h'=>h')) λ_ _ h'=>h'))) λ_ _ h'=>h')
end
abbrev CT (α:Type):=Addr->Shared->Hp->List Addr->α
def xb3 (own:Nat)(fr:List Nat)(wi:TI)(g:CT TG)(te:CT TE)(σ:St)(H:Hp)(Q:Addr->Hp->Prop):Prop:=wi σ H λJ H1=>∀D,H1 D=none ->
 ∃W:Nat->Nat->St->Hp->Prop,(∃m,W 0 m (V0 own fr σ) (upd H1 D (.lst [])))/\∀i m σ' H',W i m σ' H' ->
  (J.stop i H'/\Q D H')∨(J.go i H'/\∀x H2,J.yld i H' x H2->∀C₀ s₀ H₀ fp,g C₀ s₀ H₀ fp x σ' H2 λσ3 H3=>∃N:VK,te C₀ s₀ H₀ fp σ3 H3 N/\∀y H4,N y H4 ->
   ∃ys m',H4 D=some (.lst ys)/\ys.length<sizeLine/\m'<m/\W (i+1) m' σ3 (upd H4 D (.lst (ys++[y]))))
def yo2 (own:Nat)(fr:List Nat)(wi:TI)(g:CT TG)(te:CT TE):TE:=λσ H Q=>xb3 own fr wi g te σ H λD H'=>Q (.ref D) H'
def xh1 (X:Cx)(pins:List (Addr×Obj))(H:Hp)(C:Addr):Prop :=
 H C=none/\C≠X.env.locals/\X.s₀.heap.objs.size<=C/\(∀x c,X.env.cells.lookup x=some c->c≠C)/\∀p∈X.pn++pins,p.1≠C
section
variable {X:Cx}{own:Nat}{fr:List Nat}{N':List Str}{tg iter elt:Expr}{scope:Scope}{pos:Pos}{wi:TI}{g:CT TG}{te:CT TE}
theorem zy9 {pins:List (Addr×Obj)}{s:Shared}{σ:St}{H:Hp}{Q:Addr->Hp->Prop}{use:Option (Value->Sem Unit)}{Q':Value->Shared->Prop}{pos':Pos}(hc:X.calm=true)(hi:PI X tg iter wi)(hg:∀C s₃ H₃ fp,PG (o5 X N' scope C s₃ H₃ fp) tg (g C s₃ H₃ fp))(he:∀C s₃ H₃ fp,PE (o5 X N' scope C s₃ H₃ fp) elt (te C s₃ H₃ fp))
  (hok:zs6 scope X.env.scope (N'.drop own)) (hfr:fr.map (λj=>X.N[j]?)=(N'.drop own).map some) (hown:own<=N'.length) (hs:∀x,foldedSetIterable iter X.env x=pure x)
  (I:Inv X pins σ H s) (h:xb3 own fr wi g te σ H Q)
  (fin:∀D C m H' s',Inv X pins σ H' s'->s'.heap.Ns C m->xh1 X pins H' C->Q D H'->compPost (model X.prog X.w) X.A X.xe use Q' (.ref D) C (.ok .next) s') :
  wpAny (model X.prog X.w) X.A (comprehension (.ListComp elt [⟨tg,iter,[],0⟩] scope pos) scope X.env pos' (newList []) false (eval iter X.env) use) Q' X.xe s:=by
 refine wpAny_comprehension_free rfl hs (I0 λy hy hk=>I.ok.has y.1 (hok.free y hy hk)) hok.kind hok.loc (thn (hi pins s σ H _ I h) λxv s1 h1=>thn h1 λitv s2 h2=>?_)
 obtain ⟨it,fp,tn,J,H2,e,I2,T,st2,f2,body⟩:=h2
 subst e
 refine wpAny_newList (items:=[]) ?_
 have hD:H2 s2.heap.objs.size=none:=I2.hok.fresh (af _)
 have I3:Inv X pins σ (upd H2 s2.heap.objs.size (.lst [])) { s2 with heap:=s2.heap.push { cls:=.type "list",data:=.seq ([]:List Value).toArray } }:=I2.lnew (its:=[]) (t':=s2.toks) .nil (by decide)
 obtain ⟨W,⟨m0,w0⟩,turn⟩:=body _ hD
 generalize hDD:s2.heap.objs.size=D at hD I3 w0 turn ⊢
 have up3:∀b o,s2.heap.get? b=some o->(s2.heap.push { cls:=.type "list",data:=.seq ([]:List Value).toArray }).get? b=some o:=λb o e=>av _ e
 have st3:tn 0 (s2.heap.push { cls:=.type "list",data:=.seq ([]:List Value).toArray }):=T.keep _ _ _ st2 λb _ o e=>up3 b o e
 have fpne:∀b∈fp,b≠D:=λb hb e=>by
  obtain ⟨o,ho,_⟩:=T.obj _ _ st2 b hb
  rw [e,←hDD] at ho
  exact absurd (aF ho) (aZ _)
 have f3:∀b∈fp,B0 X pins (upd H2 D (.lst [])) b:=λb hb=>⟨by rw [z7 (fpne b hb)];exact (f2 b hb).1,(f2 b hb).2⟩
 generalize hs3:({ s2 with heap:=s2.heap.push { cls:=.type "list",data:=.seq ([]:List Value).toArray } }:Shared)=s3 at I3 ⊢
 have st3':tn 0 s3.heap:=by rw [←hs3];exact st3
 generalize upd H2 D (.lst [])=H3 at I3 f3 w0
 have hob:∀b∈fp,∃o,s3.heap.get? b=some o:=λb hb=>let ⟨o,ho,_⟩:=T.obj _ _ st3' b hb;⟨o,ho⟩
 refine wpAny_newFunctionEnv hok.cell (by intro y hy;simp at hy) (λh₁ hns₁ hsb₁=>?_) hok.kind
 have up4:∀b o,s3.heap.get? b=some o->h₁.get? b=some o:=λb o e=>(hsb₁.2 b (aS (aF e))).trans (av _ e)
 have I4:=ya1 (N':=N') (own:=own) (fr:=fr) (scope:=scope) (t:=s3.toks+([]:List (Str×Value)).length) I3 f3 hob hok hfr hown hns₁ hsb₁
 have st4:tn 0 h₁:=T.keep _ _ _ st3' λb _ o e=>up4 b o e
 have stat:∀{H':Hp} ,(∀b∈fp,H' b=none)->∀b∈fp,B0 (o5 X N' scope s3.heap.objs.size s3 H3 fp) [] H' b:=λhn b hb=>by
  refine ⟨hn b hb,(I4.ok.exf b hb).1,I4.ok.exfs b hb,.inl hb,(I4.ok.exf b hb).2,λp hp=>by cases hp⟩
 have loop:codeAny (model X.prog X.w) X.A (.compLoop (.ListComp elt [⟨tg,iter,[],0⟩] scope pos) 0 (.ref it) (.ref D) (o5 X N' scope s3.heap.objs.size s3 H3 fp).env)
   (compPost (model X.prog X.w) X.A X.xe use Q' (.ref D) s3.heap.objs.size) { s3 with heap:=h₁,toks:=s3.toks+([]:List (Str×Value)).length }:=by
  refine G0 (λn s'=>∃i σ' H',Inv (o5 X N' scope s3.heap.objs.size s3 H3 fp) [] σ' H' s'/\tn i s'.heap/\(∀b∈fp,H' b=none)/\W i n σ' H') ?_ m0 ⟨0,_,H3,I4,st4,λb hb=>(f3 b hb).1,w0⟩
  rintro n s5 ⟨i,σ5,H5,I5,st5,fr5,w5⟩
  rcases turn i n σ5 H5 w5 with ⟨stop,q⟩|⟨go,step⟩
  ·refine thn (T.done (o5 X N' scope s3.heap.objs.size s3 H3 fp) rfl rfl rfl hc i [] s5 σ5 H5 _ I5 (stat fr5) st5 stop) λr s6 ⟨hr,I6⟩=>?_
   subst hr
   obtain ⟨m6,hn6,_⟩:=I6.loc
   have I7:Inv X pins σ H5 s6:=I3.call' (ch:=fp) (by have:=I6.os;exact this) I6.base I6.hok I6.bare λb hb=>⟨(f3 b hb).2.2.2.1,(f3 b hb).2.1,(f3 b hb).2.2.2.2.1,(f3 b hb).2.2.2.2.2⟩
   refine fin D s3.heap.objs.size m6 H5 s6 I7 hn6 ⟨I6.free,dR I3.lt,I3.sz,λx c e z=>?_,λp hp z=>?_⟩ q
   ·obtain ⟨v,z1⟩:=I3.cell x c e
    exact absurd z1.lt (by rw [z];exact aZ _)
   ·exact absurd (aF (I3.pin p hp).1) (by rw [z];exact aZ _)
  ·refine thn (T.item (o5 X N' scope s3.heap.objs.size s3 H3 fp) rfl rfl rfl hc i [] s5 σ5 H5 _ I5 (stat fr5) st5 go) λr s6 ⟨u,hr,h6⟩=>?_
   subst hr
   refine thn h6 λ_ s7 ⟨x,H7,I7,r7,y7,st7,fr7⟩=>?_
   have I7':=I7.pinned (stat fr7) (T.obj _ _ st7)
   refine wpAny_mono (hg _ _ _ _ _ s7 σ5 H7 x u _ I7' r7 (step x H7 y7 _ _ _ _)) (λ_ s8 ⟨σ8,H8,I8,N,q8,hN⟩=>?_) λ_ _ z=>z.elim
   refine wpAny_mono (he _ _ _ _ _ s8 σ8 H8 N I8 q8) (λyv s9 ⟨y,H9,I9,r9,n9⟩=>?_) λ_ _ z=>z.elim
   obtain ⟨ys,m',hD9,hlt,hm,w9⟩:=hN y H9 n9
   refine wpAny_mono (b8 (X:=o5 X N' scope s3.heap.objs.size s3 H3 fp) _ s9 σ8 H9 (.ref D) [y] (.ref D) [yv] (λ_ H'=>H'=upd H9 D (.lst (ys++[y]))) I9 rfl (.cons r9 .nil) ⟨D,ys,y,rfl,rfl,hD9,hlt,rfl⟩) (λ_ s10 ⟨_,H10,I10,_,q10⟩=>?_) λ_ _ z=>z.elim
   subst q10
   have pin:=λb hb o e=>I10.pin (b,o) (aD _ (aD _ (P3 (h:=s7.heap) (fp:=fp) hb e)))
   refine ⟨m',hm,i+1,σ8,_,I10.unpinned,T.keep _ _ _ st7 λb hb o e=>(pin b hb o e).1,λb hb=>?_,w9⟩
   obtain ⟨o,e,d⟩:=T.obj _ _ st7 b hb
   exact (pin b hb o e).2.1
 exact codeAny_compStart_list loop (T.self X.A 0 _ _ _ st4 loop)
theorem xe9 (own:Nat)(fr:List Nat)(N':List Str)(hc:X.calm=true)(hi:PI X tg iter wi)(hg:∀C s₃ H₃ fp,PG (o5 X N' scope C s₃ H₃ fp) tg (g C s₃ H₃ fp))(he:∀C s₃ H₃ fp,PE (o5 X N' scope C s₃ H₃ fp) elt (te C s₃ H₃ fp))
  (hok:O9 scope X.env.scope (N'.drop own)=true:=by rfl) (hfr:fr.map (λj=>X.N[j]?)=(N'.drop own).map some:=by rfl) (hown:own<=N'.length:=by decide) (hs:∀x,foldedSetIterable iter X.env x=pure x:=by intro _;rfl) :
  PE X (.ListComp elt [⟨tg,iter,[],0⟩] scope pos) (yo2 own fr wi g te):=by
 intro pins s σ H Q I h
 rw [eval_ListComp]
 refine zy9 (use:=none) hc hi hg he (E6 hok) hfr hown hs I h λD C m H' s' I' hn sp q=>?_
 refine ⟨m,hn,λh' sb=>⟨.ref D,H',?_,rfl,q⟩⟩
 exact I'.turned (t':=s'.toks) (λb o hb e=>(sb.2 b hb).trans e) sp.1 sp.2.1 (.inr sp.2.2.1) sp.2.2.2.1 sp.2.2.2.2
theorem yi6 {i:Nat}{y:Str}{py spos:Pos}(own:Nat)(fr:List Nat)(N':List Str)(hN:X.N.Nodup)(hy:X.N[i]?=some y)(hl:X.env.scope.names.lookup y=some .local)(hc:X.calm=true)(hi:PI X tg iter wi)(hg:∀C s₃ H₃ fp,PG (o5 X N' scope C s₃ H₃ fp) tg (g C s₃ H₃ fp))(he:∀C s₃ H₃ fp,PE (o5 X N' scope C s₃ H₃ fp) elt (te C s₃ H₃ fp))
  (hsw:swapsWith (.ListComp elt [⟨tg,iter,[],0⟩] scope pos) (some (.Name y py)) spos.line X.env=pure true:=by rfl)
  (hok:O9 scope X.env.scope (N'.drop own)=true:=by rfl) (hfr:fr.map (λj=>X.N[j]?)=(N'.drop own).map some:=by rfl) (hown:own<=N'.length:=by decide) (hs:∀x,foldedSetIterable iter X.env x=pure x:=by intro _;rfl) :
  PS X (.Assign [.Name y py] (.ListComp elt [⟨tg,iter,[],0⟩] scope pos) spos) (yk0 (yo2 own fr wi g te) (p3 i)):=by
 intro pins s σ H D I h
 rw [exec_Assign_Name_used _ _ _ _ hsw]
 refine wpAny_bind (wpAny_standAt (wpAny_bind ?_))
 show wpAny _ X.A (do let _ ←comprehension (.ListComp elt [⟨tg,iter,[],0⟩] scope pos) scope X.env _ (newList []) false (eval iter X.env) (some (assign (.Name y py) X.env))) _ _ s
 refine wpAny_bind (wpAny_mono (zy9 (use:=some (assign (.Name y py) X.env)) (Q':=λ_ s'=>SP X pins D .next s') hc hi hg he (E6 hok) hfr hown hs I h λDl C m H' s' I' hn sp q=>?_) (λ_ s' hq=>wpAny_pure (wpAny_pure hq)) λ_ _ e=>e)
 show wpAny _ X.A (assign (.Name y py) X.env (.ref Dl)) _ _ _
 refine wpAny_assign_Name (D5 (v:=.ref Dl) I' hN hy (.inl hl) rfl (λs2 I2 ⟨a,sb,ha⟩=>?_) (.inr hl))
 have hCa:C≠a:=by
  rcases ha with e|e
  ·rw [e];exact sp.2.1
  ·exact λz=>sp.2.2.2.1 y a e z.symm
 refine ⟨m,hn.sameBut sb hCa,λh' sb'=>⟨_,H',?_,q⟩⟩
 exact I2.turned (t':=s2.toks) (λb o hb e=>(sb'.2 b hb).trans e) sp.1 sp.2.1 (.inr sp.2.2.1) sp.2.2.2.1 sp.2.2.2.2
theorem f9 {x:Str}{px:Pos}(fr:List Nat)(N':List Str)(hc:X.calm=true)(hi:PI X (.Name x px) iter wi)(he:∀C s₃ H₃ fp,PE (o5 X N' scope C s₃ H₃ fp) elt (te C s₃ H₃ fp))(hN:N'.Nodup:=by decide +kernel)(h0:N'[0]?=some x:=by rfl)(hx:scope.names.lookup x=some .local:=by rfl)
  (hok:O9 scope X.env.scope (N'.drop 1)=true:=by rfl) (hfr:fr.map (λj=>X.N[j]?)=(N'.drop 1).map some:=by rfl) (hown:1<=N'.length:=by decide) (hs:∀x,foldedSetIterable iter X.env x=pure x:=by intro _;rfl) :
  PE X (.ListComp elt [⟨.Name x px,iter,[],0⟩] scope pos) (yo2 1 fr wi (λ_ _ _ _=>p3 0) te) :=
 xe9 1 fr N' hc hi (λ_ _ _ _=>m7 hN h0 (.inl (lookup_relabel_local hx)) (.inr (lookup_relabel_local hx))) he hok hfr hown hs
theorem yc8 {i:Nat}{x y:Str}{px py spos:Pos}(fr:List Nat)(N':List Str)(hNd:X.N.Nodup)(hy:X.N[i]?=some y)(hl:X.env.scope.names.lookup y=some .local)(hc:X.calm=true)(hi:PI X (.Name x px) iter wi)(he:∀C s₃ H₃ fp,PE (o5 X N' scope C s₃ H₃ fp) elt (te C s₃ H₃ fp))
  (hsw:swapsWith (.ListComp elt [⟨.Name x px,iter,[],0⟩] scope pos) (some (.Name y py)) spos.line X.env=pure true:=by rfl) (hN:N'.Nodup:=by decide +kernel) (h0:N'[0]?=some x:=by rfl) (hx:scope.names.lookup x=some .local:=by rfl)
  (hok:O9 scope X.env.scope (N'.drop 1)=true:=by rfl) (hfr:fr.map (λj=>X.N[j]?)=(N'.drop 1).map some:=by rfl) (hown:1<=N'.length:=by decide) (hs:∀x,foldedSetIterable iter X.env x=pure x:=by intro _;rfl) :
  PS X (.Assign [.Name y py] (.ListComp elt [⟨.Name x px,iter,[],0⟩] scope pos) spos) (yk0 (yo2 1 fr wi (λ_ _ _ _=>p3 0) te) (p3 i)) :=
 yi6 1 fr N' hNd hy hl hc hi (λ_ _ _ _=>m7 hN h0 (.inl (lookup_relabel_local hx)) (.inr (lookup_relabel_local hx))) he hsw hok hfr hown hs
end
end L2
namespace PySem
open Sem (wp)
section
variable {prog:Program}{w:World}{A:Around}{E:Value->Shared->Prop}{s:Shared}
theorem C5 {Q:List Value->Shared->Prop}{r:Addr}{a b c:Int}{t u v:Tok}{n:Nat}(hh:A.handled=none)(hr:IsRange s.heap r a b c t u v)(hsmall:Builtin.Range.small a b c=true)
  (hn:Builtin.Range.rangeSize a b c=n) (hlen:n<=2 ^ 24)
  (hQ:∀h' tk acc,(∀b o,s.heap.get? b=some o->h'.get? b=some o)->ItemsOf (λi v=>∃t,v=.int (a+i*c) t) acc n->Q acc.toList { s with heap:=h',toks:=tk }) :
  wpAny (model prog w) A (collect (.ref r)) Q E s:=by
 unfold collect
 refine wpAny_bind (wpAny_runValue (codeAny_builtin F.entry_proto_collect ?_))
 rw [Around.under_plainId F.plain_proto_collect _]
 show wpAny _ A.in1 (newList [] >>= λl=>again (.builtin "list.__iadd__" ⟨[l,.ref r],[]⟩)) _ _ s
 refine wpAny_bind (wpAny_newObj_type ?_)
 refine wpAny_pure ⟨plainId_quiet F.plain_list_iadd _,codeAny_builtin F.entry_list_iadd ?_⟩
 rw [Around.under_plainId F.plain_list_iadd _]
 show wpAny _ A.in1 (Builtin.List.listExtendWith (.ref s.heap.objs.size) (.ref r) (.ref s.heap.objs.size)) _ _ _
 have key:∀(r₁:Result) (s₁:Shared),(r₁=.ok (.ret (.ref s.heap.objs.size))/\∃h' tk acc' c',s₁={ s with heap:=h',toks:=tk }/\(∀b o,s.heap.get? b=some o->h'.get? b=some o)/\h'.get? s.heap.objs.size=some { cls:=.type "list",dict:=none,data:=.seq acc' c',slots:=#[] }/\ItemsOf (λi v=>∃t,v=.int (a+i*c) t) acc' n) ->
   (match r₁ with
    | .ok (.ret v)=>wpAny (model prog w) A (match v with
      | .ref a=>do
       match (←load a).data with
       | .seq xs _=>pure xs.toList
       | _=>unsupported "internal:collect"
      | _=>unsupported "internal:collect") Q E s₁
    | .ok _=>False
    | .error e=>E e s₁):=by
  rintro r₁ s₁ ⟨rfl,h',tk,acc',c',rfl,hk,hS',hacc⟩
  show wpAny _ A (load s.heap.objs.size >>= _) _ _ _
  refine wpAny_bind (wpAny_load hS' ?_)
  exact wpAny_pure (hQ h' tk acc' hk hacc)
 refine wpAny_mono (wpAny_extend_range (s:={ s with heap:=s.heap.push { cls:=.type "list",data:=.seq ([]:List Value).toArray } }) (A:=A)
  (R:=λr₁ s₁=>r₁=.ok (.ret (.ref s.heap.objs.size))/\∃h' tk acc' c',s₁={ s with heap:=h',toks:=tk }/\(∀b o,s.heap.get? b=some o->h'.get? b=some o)/\h'.get? s.heap.objs.size=some { cls:=.type "list",dict:=none,data:=.seq acc' c',slots:=#[] }/\ItemsOf (λi v=>∃t,v=.int (a+i*c) t) acc' n)
  hh (av _ hr) hsmall hn hlen s.heap.objs.size (.ref s.heap.objs.size) 0 (aG _ rfl) λh' tk acc' c' hk hS' hacc=>⟨rfl,h',tk,acc',c',rfl,λb o e=>hk b o (aS (aF e)) (av _ e),hS',hacc⟩) (λfin s₁ h₁=>?_) λe s₁ h₁=>key _ _ h₁
 cases fin with
 | done f=>exact key _ _ h₁
 | again c'=>exact ⟨h₁.1,codeAny_mono h₁.2 λr₂ s₂ h₂=>key _ _ h₂⟩
open AutoSeq1 (wpAny_loadPart')
theorem J4 {r:Addr}{a b c:Int}{t u v:Tok}{n:Nat}(hsmall:Builtin.Range.small a b c=true)(hn:Builtin.Range.rangeSize a b c=n)(hlen:n<=2 ^ 24)(hsz:n<=sizeLine) :
  Meets (Builtin.«tuple.__new__» ⟨[.type "tuple",.ref r],[]⟩)
   (λA R s=>A.handled=none/\IsRange s.heap r a b c t u v/\∀(h':Heap) (tk:Nat) (acc:Array Value),(∀b o,s.heap.get? b=some o->h'.get? b=some o)->ItemsOf (λi v=>∃t,v=.int (a+i*c) t) acc n ->
    R (.ok (.ret (.ref h'.objs.size))) { s with heap:=h'.push { cls:=.type "tuple",data:=.seq acc },toks:=tk }) :=
 .of_wp λprog w A R s h=>by
  obtain ⟨hh,hr,h⟩:=h
  have hsub:=sub_tuple_self
  have hinit:=init_tuple_lookup
  have hmh:=madeHere_tuple
  have hT:s.TypeIs (.ref r) "range":=⟨_,hr,rfl⟩
  have hh1:A.in1.handled=none:=hh
  wp_walk using wpAny_typeOf hT,C5 hh1 hr hsmall hn hlen
  intro h' tk acc hk hacc
  show wpAny _ _ (Builtin.Tuple.tupleExact acc.toList.toArray >>= λv=>ret v) _ _ _
  unfold Builtin.Tuple.tupleExact
  refine wpAny_bind (wpAny_newObj_type ?_ (show acc.toList.toArray.size<=sizeLine by simp only [Array.toArray_toList];rw [hacc.1];exact hsz))
  refine wpAny_pure ⟨_,rfl,?_⟩
  have e:acc.toList.toArray=acc:=by simp
  rw [e]
  exact h h' tk acc hk hacc
theorem zd8 {Q:Value->Shared->Prop}{r:Addr}{a b c:Int}{t u v:Tok}{n:Nat}(hh:A.handled=none)(hr:IsRange s.heap r a b c t u v)(hsmall:Builtin.Range.small a b c=true)
  (hn:Builtin.Range.rangeSize a b c=n) (hlen:n<=2 ^ 24) (hsz:n<=sizeLine)
  (h:∀(h':Heap) (tk:Nat) (acc:Array Value),(∀b o,s.heap.get? b=some o->h'.get? b=some o)->ItemsOf (λi v=>∃t,v=.int (a+i*c) t) acc n->Q (.ref h'.objs.size) { s with heap:=h'.push { cls:=.type "tuple",data:=.seq acc },toks:=tk }) :
  wpAny (model prog w) A (call (.type "tuple") [.ref r]) Q E s :=
 callType_new F.called_tuple (by decide) (F.typeCall_tuple_1 _) (F.newCall_tuple_1 _) (λobj=>F.args_object_init_2 obj _) F.entry_tuple_new
  (J4 hsmall hn hlen hsz) ⟨hh,hr,λh' tk acc hk hacc=>⟨⟨_,aG _ rfl,rfl⟩,h h' tk acc hk hacc⟩⟩
end
end PySem
namespace L2
open PySem PySem.Spec PyProof.Rows
theorem C9:∀{xs:List V} {us:List Value},xs.length=us.length->(∀(i:Nat) x u,xs[i]?=some x->us[i]?=some u->o6 x u)->p9 xs us
 | [],[],_,_=>.nil
 | [],_::_,h,_=>by cases h
 | _::_,[],h,_=>by cases h
 | x::xs,u::us,h,r=>.cons (r 0 x u rfl rfl) (C9 (by simpa using h) λi y w e1 e2=>r (i+1) y w (by simpa using e1) (by simpa using e2))
def X7 (lo:Int)(n:Nat):List V:=(List.range n).map λi=>V.int (lo+(i:Nat))
theorem S0 (lo:Int)(n:Nat):(X7 lo n).length=n:=by unfold X7;rw [ae,aA]
theorem zn7 {acc:Array Value}{lo:Int}{n:Nat}(h:ItemsOf (λi v=>∃t,v=.int (lo+i*1) t) acc n):p9 (X7 lo n) acc.toList:=by
 obtain ⟨h1,h2⟩:=h
 refine C9 (by rw [S0,aW,h1]) λi x u e1 e2=>?_
 have hi:i<n:=by
  have:=(ap.mp e1).1
  rwa [S0] at this
 obtain ⟨t,rfl⟩:=h2 i u (by simpa using e2)
 unfold X7 at e1
 rw [ag,aM hi] at e1
 cases e1
 exact ⟨t,by rw [Int.mul_one]⟩
section
variable {X:Cx}
theorem Y8:R3 X (.type "range") (λxs H Q=>∃j,xs=[.int j]/\∀p,H p=none->Q (.ref p) (upd H p (.rng 0 j))):=by
 intro pins s σ H xs us Q I r h
 obtain ⟨j,rfl,q⟩:=h
 obtain ⟨u,rfl,t,rfl⟩:=M5 r
 exact call_range_1 ⟨.ref s.heap.objs.size,_,I.laid (λb o e=>av _ e) (af _) (show n8 X.prog X.w _ _ _ (.rng 0 j) from ⟨_,_,_,aG _ rfl⟩),rfl,q _ (I.hok.fresh (af _))⟩
def yt8 (lo hi:Int):Prop:=-(2 ^ 62)<=lo/\lo<2 ^ 62/\-(2 ^ 62)<=hi/\hi<2 ^ 62/\(hi-lo).toNat<=1000000
theorem K6:1000000<=sizeLine:=by decide
theorem c8 (hc:X.calm=true):R3 X (.type "list") (λxs H Q=>∃p lo hi,xs=[.ref p]/\H p=some (.rng lo hi)/\yt8 lo hi/\∀l,H l=none->Q (.ref l) (upd H l (.lst (X7 lo (hi-lo).toNat)))):=by
 intro pins s σ H xs us Q I r h
 obtain ⟨p,lo,hi,rfl,hp,⟨s1,s2,s3,s4,s5⟩,q⟩:=h
 obtain ⟨u,rfl,rx⟩:=M5 r
 cases rx
 obtain ⟨t,u,v,hr⟩:=I.hok p _ hp
 have hz:=K6
 refine call_list_range (n:=(hi-lo).toNat) (I.ok.hd hc) hr (small_one s1 s2 s3 s4) (by rw [rangeSize_one];split <;> lia) (by lia) λh' tk acc' c' kp hS hacc=>?_
 refine ⟨.ref s.heap.objs.size,_,I.laid (t':=tk) kp (af _) (show n8 X.prog X.w _ h' _ (.lst (X7 lo (hi-lo).toNat)) from ⟨by rw [S0];lia,acc'.toList,c',zn7 hacc,by simpa using hS⟩),rfl,q _ (I.hok.fresh (af _))⟩
theorem P1 (hc:X.calm=true):R3 X (.type "tuple") (λxs H Q=>∃p lo hi,xs=[.ref p]/\H p=some (.rng lo hi)/\yt8 lo hi/\∀l,H l=none->Q (.ref l) (upd H l (.tup (X7 lo (hi-lo).toNat)))):=by
 intro pins s σ H xs us Q I r h
 obtain ⟨p,lo,hi,rfl,hp,⟨s1,s2,s3,s4,s5⟩,q⟩:=h
 obtain ⟨u,rfl,rx⟩:=M5 r
 cases rx
 obtain ⟨t,u,v,hr⟩:=I.hok p _ hp
 have hz:=K6
 refine zd8 (n:=(hi-lo).toNat) (I.ok.hd hc) hr (small_one s1 s2 s3 s4) (by rw [rangeSize_one];split <;> lia) (by lia) (by lia) λh' tk acc kp hacc=>?_
 have I1:Inv X pins σ H { s with heap:=h',toks:=tk }:=I.kept kp
 have I2:Inv X pins σ (upd H h'.objs.size (.tup (X7 lo (hi-lo).toNat))) { s with heap:=h'.push { cls:=.type "tuple",data:=.seq acc },toks:=tk } :=
  I1.laid (t':=tk) (λb o e=>av _ e) (af _) (show n8 X.prog X.w _ _ _ (.tup (X7 lo (hi-lo).toNat)) from ⟨by rw [S0];lia,acc.toList,zn7 hacc,by simpa using zy1.new h' acc⟩)
 exact ⟨.ref h'.objs.size,_,I2,rfl,q _ (I1.hok.fresh (af _))⟩
def Itd (lo:Int)(n:Nat):It:=⟨λi _=>i<n,λi H x H'=>H'=H/\x=.int (lo-i),λi _=>n<=i⟩
theorem yf1 {P:Program}{w:World}{K:W.Frag}{tg:Expr}(it:Addr)(lo:Int)(n:Nat):zy2 P w K tg (Itd lo n) [it] it (λi h=>IsRangeIter h it (lo+(i:Nat)*(-1)) ((n:Int)-(i:Nat)) (-1)) where
 mem:=by simp
 obj:=λi h st b hb=>by
  have e:b=it:=by simpa using hb
  subst e
  exact ⟨_,st,λv z=>by
   have z':Data.fields _=Data.cell v:=z
   cases z'⟩
 keep:=λi h h' st k=>k it (by simp) _ st
 item:=by
  intro X hP hw hK hc i pins s σ H E I hf st hg
  subst hP hw hK
  obtain ⟨f0,f1,f2,f3,f4,f5⟩:=hf it (by simp)
  have W:=Walks.range (prog:=X.prog) (w:=X.w) (I.ok.hd hc) it lo (-1) n
  refine W.item i s _ _ hg st λv h' tk hv st' kk=>?_
  obtain ⟨t,rfl⟩:=hv
  have I1:Inv X pins σ H { s with heap:=h',toks:=tk }:=I.turned (λb o hb e=>kk b o (by simpa using hb) e) f0 f1 f3 f4 f5
  refine ⟨_,rfl,zr0 (s:={ s with heap:=h',toks:=tk }) (n:="range_iterator") st' rfl rfl (by decide) ⟨.int (lo-i),H,I1,⟨t,?_⟩,⟨rfl,rfl⟩,st',λb hb=>(hf b hb).1⟩⟩
  rw [show lo+(i:Int)*(-1)=lo-i by lia]
 done:=by
  intro X hP hw hK hc i pins s σ H E I hf st hg
  subst hP hw hK
  obtain ⟨f0,f1,f2,f3,f4,f5⟩:=hf it (by simp)
  exact wpAny_pyNext_range_end (I.ok.hd hc) st (by have:n<=i:=hg;lia) λh' eb=>⟨rfl,I.turned (t':=s.toks) (λb o hb e=>eb b o hb e) f0 f1 f3 f4 f5⟩
 self:=λ_ _ _ _ _ st h=>wpAny_pyIter_rangeiter st h
theorem zb8 (a b:Int):Builtin.Range.rangeSize a b (-1)=((a-b).toNat:Int):=by
 unfold Builtin.Range.rangeSize
 simp only [show ¬((-1:Int) > 0) by decide,if_false,show (-(-1):Int)=1 from rfl,Int.ediv_one]
 split <;> lia
theorem xa3 {a b:Int}(ha:-(2 ^ 62)<=a)(ha':a<2 ^ 62)(hb:-(2 ^ 62)<=b)(hb':b<2 ^ 62):Builtin.Range.small a b (-1)=true:=by
 unfold Builtin.Range.small
 rw [zb8]
 simp only [Builtin.Range.rangeFitsLong,bN,fJ,decide_eq_true_eq,beq_iff_eq,show ¬((-1:Int) > 0) by decide,if_false]
 lia
def xp0 (ta:TA):TI:=λσ H R=>ta σ H λvs H1=>∃i j:Int,vs=[.int i,.int j,.int (-1)]/\(-(2 ^ 62)<=i/\i<2 ^ 62/\-(2 ^ 62)<=j/\j<2 ^ 62)/\R (Itd i (i-j).toNat) H1
theorem ys3 {tg:Expr}{pins:List (Addr×Obj)}{σ:St}{H:Hp}{s:Shared}{R:It->Hp->Prop}{E:Value->Shared->Prop}{lo hi:Int}{t u v:Tok}{tk:Nat}(I:Inv X pins σ H s)(h1:-(2 ^ 62)<=lo)(h2:lo<2 ^ 62)(h3:-(2 ^ 62)<=hi)(h4:hi<2 ^ 62)
  (q:R (Itd lo (lo-hi).toNat) H):wpAny (model X.prog X.w) X.A (pyIter (.ref s.heap.objs.size)) (PIE X pins σ tg R) E { s with heap:=s.heap.push { cls:=.type "range",data:=.fields #[.int lo t,.int hi u,.int (-1) v] },toks:=tk }:=by
 refine wpAny_pyIter_range (IsRange.new ..) (xa3 h1 h2 h3 h4) ?_
 have I1:Inv X pins σ H { s with heap:=s.heap.push { cls:=.type "range",data:=.fields #[.int lo t,.int hi u,.int (-1) v] },toks:=tk }:=I.kept λb o e=>av _ e
 refine ⟨(s.heap.push { cls:=.type "range",data:=.fields #[.int lo t,.int hi u,.int (-1) v] }).objs.size,[(s.heap.push { cls:=.type "range",data:=.fields #[.int lo t,.int hi u,.int (-1) v] }).objs.size],_,_,H,rfl,
  I1.kept (t':=tk) λb o e=>av _ e,yf1 _ lo (lo-hi).toNat,?_,λb hb=>?_,q⟩
 ·have e1:lo+((0:Nat):Int)*(-1)=lo:=by simp
  have e2:(((lo-hi).toNat:Nat):Int)-((0:Nat):Int)=Builtin.Range.rangeSize lo hi (-1):=by rw [zb8];lia
  show IsRangeIter _ _ (lo+((0:Nat):Int)*(-1)) ((((lo-hi).toNat:Nat):Int)-((0:Nat):Int)) (-1)
  rw [e1,e2]
  exact aG _ rfl
 ·have e:b=(s.heap.push { cls:=.type "range",data:=.fields #[.int lo t,.int hi u,.int (-1) v] }).objs.size:=by simpa using hb
  subst e
  exact I1.fpOk (af _) (I1.hok.fresh (af _))
theorem yr9 {tg a b c:Expr}{ta:TA}{p pos:Pos}(hg:Gl X "range") (hm:X.mg "range"=none) (ha:PA X [a,b,c] ta) (hs:starEach [a,b,c] X.env=[(false,eval a X.env),(false,eval b X.env),(false,eval c X.env)]:=by rfl)
  (hs2:starEach [b,c] X.env=[(false,eval b X.env),(false,eval c X.env)]:=by rfl):PI X tg (.Call (.Name "range" p) [a,b,c] [] pos) (xp0 ta):=by
 intro pins s σ H R I h
 refine Call_ (G3 I hg hm boot_range (PyProof.Rows.callWith_type1 (thn (ha pos pins s σ H _ I h) λus s1 ⟨vs,H1,I1,r1,q1⟩=>?_) (by rw [hs,hs2]) (by rw [hs2];rfl)))
 obtain ⟨i,j,e,⟨q1,q2,q3,q4⟩,q⟩:=q1
 subst e
 cases r1 with
 | cons r rr =>
  cases rr with
  | cons r' rr =>
   cases rr with
   | cons r'' rr =>
    cases rr
    obtain ⟨t,rfl⟩:=r
    obtain ⟨t',rfl⟩:=r'
    obtain ⟨t'',rfl⟩:=r''
    exact call_range_3 (by decide) (ys3 I1 q1 q2 q3 q4 q) (Or.inl (PyProof.noPylong_small (by lia)))
theorem yg9 {lo:Int}{n:Nat}{g:TG}{tb:TS}{D:J3}{σ:St}{H:Hp}(Pv:Nat->St->Hp->Prop)(h0:Pv 0 σ H)
  (hs:∀i σ H,i<n->Pv i σ H->g (.int (lo-i)) σ H λσ2 H2=>tb { D with nx:=Pv (i+1),ct:=Pv (i+1),bk:=D.nx } σ2 H2) (hd:∀σ H,Pv n σ H->D.nx σ H) :
  ∃W:Nat->Nat->St->Hp->Prop,(∃m,W 0 m σ H)/\∀i m σ H,W i m σ H ->
   ((Itd lo n).stop i H/\D.nx σ H)∨((Itd lo n).go i H/\∃N:St->Hp->Prop,(∀σ' H',N σ' H'->∃m',m'<m/\W (i+1) m' σ' H')/\∀x H',(Itd lo n).yld i H x H'->g x σ H' λσ2 H2=>tb { D with nx:=N,ct:=N,bk:=D.nx } σ2 H2):=by
 refine ⟨λi m σ H=>m=n-i/\i<=n/\Pv i σ H,⟨n,by simp,aQ _,h0⟩,?_⟩
 rintro i m σ H ⟨rfl,hi,p⟩
 by_cases hlt:i<n
 ·refine .inr ⟨hlt,Pv (i+1),λσ' H' p'=>⟨n-(i+1),by lia,rfl,hlt,p'⟩,λx H' y=>?_⟩
  obtain ⟨e,y⟩:=y
  subst e y
  exact hs i σ _ hlt p
 ·have e:i=n:=by lia
  subst e
  exact .inl ⟨af _,hd σ H p⟩
theorem Z2:R3 X (.builtin "isinstance") (λxs H Q=>∃x t c b,xs=[x,.ty c]/\M7 X.K H x t/\W.kitOne X.K t (.type c)=some b/\Q (.bl b) H):=by
 intro pins s σ H xs us Q I r h
 obtain ⟨x,t,c,b,rfl,ty,e,q⟩:=h
 obtain ⟨u,w',rfl,rx,rc⟩:=xb9 r
 cases (show w'=Value.type c from rc)
 exact yq6 I rx ty e λtk=>⟨.bl b,H,I.tok tk,rfl,q⟩
theorem E7 {J:It}{fr:List Nat}{te:CT TE}{σ:St}{H1:Hp}{Q:Addr->Hp->Prop}{n:Nat}(ys:List V)(hn:ys.length=n)(hz:n<=sizeLine)
  (hstop:∀H,y4 H1 H->J.stop n H) (hgo:∀i H,i<n->y4 H1 H->J.go i H)
  (turn:∀i H x H2,i<n->y4 H1 H->J.yld i H x H2->H2=H/\∀C₀ s₀ H₀ fp,te C₀ s₀ H₀ fp (some x::fr.map λj=>(σ[j]?).getD none) H λy H4=>y4 H H4/\ys[i]?=some y)
  (fin:∀D H,H1 D=none->y4 H1 H->H D=some (.lst ys)->Q D H) :
  ∀D,H1 D=none->∃W:Nat->Nat->St->Hp->Prop,(∃m,W 0 m (V0 1 fr σ) (upd H1 D (.lst [])))/\∀i m σ' H',W i m σ' H' ->
  (J.stop i H'/\Q D H')∨(J.go i H'/\∀x H2,J.yld i H' x H2->∀C₀ s₀ H₀ fp,p3 0 x σ' H2 λσ3 H3=>∃N:VK,te C₀ s₀ H₀ fp σ3 H3 N/\∀y H4,N y H4 ->
   ∃ys m',H4 D=some (.lst ys)/\ys.length<sizeLine/\m'<m/\W (i+1) m' σ3 (upd H4 D (.lst (ys++[y])))):=by
 intro D hD
 have s0:∀o,y4 H1 (upd H1 D o):=λo b u e=>by rw [z7 (y0 e hD)];exact e
 refine ⟨λi m σ' H'=>m=n-i/\i<=n/\y4 H1 H'/\H' D=some (.lst (ys.take i))/\∃z,σ'=z::fr.map λj=>(σ[j]?).getD none,⟨n,rfl,aQ _,s0 _,by rw [z5];rfl,none,rfl⟩,?_⟩
 rintro i m σ' H' ⟨rfl,hi,sm,hl,z,rfl⟩
 by_cases hlt:i<n
 ·refine .inr ⟨hgo i H' hlt sm,λx H2 y C₀ s₀ H₀ fp=>?_⟩
  obtain ⟨e,q⟩:=turn i H' x H2 hlt sm y
  subst e
  refine ⟨_,q C₀ s₀ H₀ fp,λy H4 ⟨s4,e4⟩=>⟨ys.take i,n-(i+1),s4 _ _ hl,?_,by lia,rfl,hlt,?_,?_,_,rfl⟩⟩
  ·rw [aT];lia
  ·intro b u e
   rw [z7 (y0 e hD)]
   exact s4 _ _ (sm _ _ e)
  ·rw [z5,bO,e4]
   rfl
 ·have e:i=n:=by lia
  subst e
  refine .inl ⟨hstop H' sm,fin D H' hD sm ?_⟩
  rw [hl,bF (by lia)]
theorem y4.seqT {K:W.Frag}{H H':Hp}{a:Addr}{xs:List V}(e:y4 H H')(h:SqT K H a xs):SqT K H' a xs:=by
 rcases h with (h|⟨o,h⟩)|h
 ·exact .inl (.inl (e _ _ h))
 ·exact .inl (.inr ⟨o,e _ _ h⟩)
 ·exact .inr h
theorem A7 {K:W.Frag}{a:Addr}{xs:List V}{fr:List Nat}{te:CT TE}{σ:St}{H1:Hp}{Q:Addr->Hp->Prop}(hS:SqT K H1 a xs)(ys:List V)(hn:ys.length=xs.length)(hz:xs.length<=sizeLine)
  (turn:∀(i:Nat) H x,xs[i]?=some x->y4 H1 H->∀C₀ s₀ H₀ fp,te C₀ s₀ H₀ fp (some x::fr.map λj=>(σ[j]?).getD none) H λy H4=>y4 H H4/\ys[i]?=some y)
  (fin:∀D H,H1 D=none->y4 H1 H->H D=some (.lst ys)->Q D H) :
  ∀D,H1 D=none->∃W:Nat->Nat->St->Hp->Prop,(∃m,W 0 m (V0 1 fr σ) (upd H1 D (.lst [])))/\∀i m σ' H',W i m σ' H' ->
  ((Itt K a).stop i H'/\Q D H')∨((Itt K a).go i H'/\∀x H2,(Itt K a).yld i H' x H2->∀C₀ s₀ H₀ fp,p3 0 x σ' H2 λσ3 H3=>∃N:VK,te C₀ s₀ H₀ fp σ3 H3 N/\∀y H4,N y H4 ->
   ∃ys m',H4 D=some (.lst ys)/\ys.length<sizeLine/\m'<m/\W (i+1) m' σ3 (upd H4 D (.lst (ys++[y])))) :=
 E7 ys hn hz (λH s=>⟨xs,s.seqT hS,af _⟩) (λi H hi s=>⟨xs,xs[i],s.seqT hS,by simp [hi]⟩) (λi H x H2 hi s y=>⟨y.1,turn i H x (y.2 xs (s.seqT hS)) s⟩) fin
theorem yp2 {K:W.Frag}{a:Addr}{xs:List V}{fr:List Nat}{te:CT TE}{σ:St}{H1:Hp}{Q:Addr->Hp->Prop}(hS:SqL K H1 a xs)(ys:List V)(hn:ys.length=xs.length)(hz:xs.length<=sizeLine)
  (turn:∀(i:Nat) H x,xs[i]?=some x->y4 H1 H->∀C₀ s₀ H₀ fp,te C₀ s₀ H₀ fp (some x::fr.map λj=>(σ[j]?).getD none) H λy H4=>y4 H H4/\ys[i]?=some y)
  (fin:∀D H,H1 D=none->y4 H1 H->H D=some (.lst ys)->Q D H) :
  ∀D,H1 D=none->∃W:Nat->Nat->St->Hp->Prop,(∃m,W 0 m (V0 1 fr σ) (upd H1 D (.lst [])))/\∀i m σ' H',W i m σ' H' ->
  ((Itl K a).stop i H'/\Q D H')∨((Itl K a).go i H'/\∀x H2,(Itl K a).yld i H' x H2->∀C₀ s₀ H₀ fp,p3 0 x σ' H2 λσ3 H3=>∃N:VK,te C₀ s₀ H₀ fp σ3 H3 N/\∀y H4,N y H4 ->
   ∃ys m',H4 D=some (.lst ys)/\ys.length<sizeLine/\m'<m/\W (i+1) m' σ3 (upd H4 D (.lst (ys++[y])))) :=
 E7 ys hn hz (λH s=>⟨xs,s.seq hS,af _⟩) (λi H hi s=>⟨xs,xs[i],s.seq hS,by simp [hi]⟩) (λi H x H2 hi s y=>⟨y.1,turn i H x (y.2 xs (s.seq hS)) s⟩) fin
end
end L2
namespace PySem
open Sem (wp)
open AutoSeq1 (wpAny_loadPart')
section
variable {prog:Program}{w:World}{A:Around}{E:Value->Shared->Prop}{s:Shared}
theorem M6 {it t:Addr}{i:Nat}{items}{x:Value}{Q:Value->Shared->Prop}(hit:s.heap.IsTupleIter it t i)(ht:s.heap.IsTuple t items)(hx:items[i]?=some x)
  (hQ:∀h',h'.IsTupleIter it t (i+1)->Heap.SameBut it s.heap h'->Q x { s with heap:=h' }):wpAny (model prog w) A (Builtin.SmallTypes.nextOf (.ref it)) Q E s:=by
 obtain ⟨o,ho,hc,hd⟩:=id hit
 obtain ⟨ol,hol,_,nl,hdl⟩:=ht
 unfold Builtin.SmallTypes.nextOf
 refine wpAny_bind (wpAny_callSpecial?_slot (name:=Str.ofString "__next__") hit.typeIs F.slot_tuple_iterator_next
  (wpAny_call_entry F.slot_tuple_iterator_next hit.typeIs F.entry_tuple_iterator_next ?_ (F.args_tuple_iterator_next_1 _)))
 show wpAny _ _ (field (.ref it) 0 >>= _) _ _ s
 refine wpAny_bind (wpAny_field ho hd (x:=.ref t) rfl ?_)
 show wpAny _ _ (if (Value.ref t==Value.none)=true then _ else _) _ _ s
 rw [if_neg (show ¬((Value.ref t==Value.none)=true) from aI)]
 show wpAny _ _ (field (.ref it) 1 >>= _) _ _ s
 refine wpAny_bind (wpAny_field ho hd (x:=.int i 0) rfl ?_)
 show wpAny _ _ (seqItems? (.ref t) >>= _) _ _ s
 refine wpAny_bind (wpAny_seqItems hol hdl ?_)
 simp only [dB,hx]
 refine wpAny_bind (wpAny_setField ho hd (by simp) (wpAny_pure ⟨x,rfl,wpAny_pure (hQ _ ?_ (Heap.SameBut.update ..))⟩))
 exact ⟨_,Heap.get?_update_self _ ho (Obj.isFreed_of_fields (Obj.data_mapFields hd _)),(Obj.cls_mapFields ..).trans hc,by
  rw [Obj.data_mapFields hd];simp [rawInt]⟩
theorem U4 {it t:Addr}{i:Nat}{items}{Q:Value->Shared->Prop}(hh:A.handled=none)
  (hit:s.heap.IsTupleIter it t i) (ht:s.heap.IsTuple t items) (hx:items[i]?=none)
  (hE:∀h' e,Heap.ExtBut it s.heap h'->(∃o,h'.get? e=some o/\o.cls=.type "StopIteration")->E (.ref e) { s with heap:=h' }) :
  wpAny (model prog w) A (Builtin.SmallTypes.nextOf (.ref it)) Q E s:=by
 obtain ⟨o,ho,hc,hd⟩:=id hit
 obtain ⟨ol,hol,_,nl,hdl⟩:=ht
 unfold Builtin.SmallTypes.nextOf
 refine wpAny_bind (wpAny_callSpecial?_slot (name:=Str.ofString "__next__") hit.typeIs F.slot_tuple_iterator_next
  (wpAny_call_entry F.slot_tuple_iterator_next hit.typeIs F.entry_tuple_iterator_next ?_ (F.args_tuple_iterator_next_1 _)))
 show wpAny _ _ (field (.ref it) 0 >>= _) _ _ s
 refine wpAny_bind (wpAny_field ho hd (x:=.ref t) rfl ?_)
 show wpAny _ _ (if (Value.ref t==Value.none)=true then _ else _) _ _ s
 rw [if_neg (show ¬((Value.ref t==Value.none)=true) from aI)]
 show wpAny _ _ (field (.ref it) 1 >>= _) _ _ s
 refine wpAny_bind (wpAny_field ho hd (x:=.int i 0) rfl ?_)
 show wpAny _ _ (seqItems? (.ref t) >>= _) _ _ s
 refine wpAny_bind (wpAny_seqItems hol hdl ?_)
 simp only [dB,hx]
 refine wpAny_bind (wpAny_rule (wpAny_bind (wpAny_setField ho hd (by simp) ?_)))
 show wpAny _ _ (newExc (.type "StopIteration") [] >>= _) _ _ _
 refine wpAny_bind ?_
 simp only [newExc,newTuple]
 refine wpAny_bind (wpAny_newObj_type ?_ (by size_fits))
 refine wpAny_bind (m:=firstArgMember _ _) (wpAny_of_eq (a:=Value.none) (by first|rfl|(simp only [firstArgMember];rfl)) ?_)
 refine wpAny_newObj_type ?_ (by size_fits)
 simp only [raiseNew]
 refine wpAny_bind (wpAny_handled ?_)
 first|rw [show A.in1.handled=none from hh]|rw [hh]
 refine wpAny_bind (wpAny_pure (wpAny_throw ?_))
 exact hE _ _ (((Heap.SameBut.update ..).extBut.push _).push _) ⟨_,aG _ rfl,rfl⟩
end
theorem Draws.tuple {prog:Program}{w:World}{A:Around}(hh:A.handled=none)(it l:Addr)(hne:l≠it)(items:Array Value) :
  Draws prog w A it [it,l] items.size (λi v=>items[i]?=some v) (λi h=>h.IsTupleIter it l i/\h.IsTuple l items) where
 live:=λ_ _ st=>let ⟨o,ho,_⟩:=st.1;⟨o,ho⟩
 frame:=λ_ _ _ st hk=>⟨st.1.at λo e=>hk it (by simp) o e,let ⟨o,ho,r⟩:=st.2;⟨o,hk l (by simp) o ho,r⟩⟩
 item:=λi s Q E hi st hQ=>by
  refine M6 st.1 st.2 (x:=items[i]) (by simp [hi]) λh' hit' hs'=>?_
  exact hQ _ h' s.toks (by simp [hi]) ⟨hit',st.2.extBut hs'.extBut hne⟩ hs'
 done:=λs Q E st hE=>U4 hh st.1 st.2 (by simp) hE
theorem G5 (l:Addr)(items:Array Value)(n:Nat)(dct:Option Addr)(sl:Array (Option Value)) :
  Meets (Builtin.«enumerate.__new__» ⟨[.type "enumerate",.ref l],[]⟩) (λ_ R s=>s.heap.get? l=some { cls:=.type "tuple",dict:=dct,data:=.seq items n,slots:=sl } /\
   R (.ok (.ret (.ref (s.heap.push { cls:=.type "tuple_iterator",data:=.fields #[.ref l,.int 0 0] }).objs.size)))
    {s with heap:=(s.heap.push { cls:=.type "tuple_iterator",data:=.fields #[.ref l,.int 0 0] }).push { cls:=.type "enumerate",data:=.fields #[.none,.bool false,.ref s.heap.objs.size,rawInt 0,.none,.none] } }) :=
 .of_wp λprog w A R s h=>by
  obtain ⟨hp,g,d,tk,os⟩:=s;obtain ⟨hl,h⟩:=h
  have hsub:=sub_enumerate
  have hL:Heap.IsTuple (Shared.heap ⟨hp,g,d,tk,os⟩) l items:=⟨_,hl,rfl,n,rfl⟩
  wp_walk using wpAny_loadPart' hl
  refine wpAny_stack_any λst=>wpAny_pure ?_
  split
  ·rename_i c _ _ _ _ _
   cases (c==Value.type "enumerate")
   ·wp_walk using wpAny_loadPart' hl,wpAny_pyIter_tuple hL
    exact ⟨_,rfl,h⟩
   ·wp_walk using wpAny_loadPart' hl,wpAny_pyIter_tuple hL
    exact ⟨_,rfl,h⟩
  ·wp_walk using wpAny_loadPart' hl,wpAny_pyIter_tuple hL
   exact ⟨_,rfl,h⟩
section
variable {prog:Program}{w:World}{A:Around}{E:Value->Shared->Prop}{s:Shared}
theorem J9 {l:Addr}{items:Array Value}{Q:Value->Shared->Prop}(hL:s.heap.IsTuple l items)
  (h:∀h',IsEnum h' (s.heap.objs.size+1) s.heap.objs.size 0 .none->h'.IsTupleIter s.heap.objs.size l 0->h'.objs.size=s.heap.objs.size+2 ->
   (∀b o,s.heap.get? b=some o->h'.get? b=some o)->Q (.ref (s.heap.objs.size+1)) { s with heap:=h' }) :
  wpAny (model prog w) A (call (.type "enumerate") [.ref l]) Q E s:=by
 obtain ⟨⟨c,dct,dt,sl⟩,hl,hc,n,hd⟩:=hL
 replace hc:c=.type "tuple":=hc
 replace hd:dt=.seq items n:=hd
 subst hc hd
 refine callType_new F.called_enumerate (by decide) (F.typeCall_enumerate_1 _) (F.newCall_enumerate_1 _) (λobj=>F.args_object_init_2 obj _) F.entry_enumerate_new
  (G5 l items n dct sl) ⟨hl,?_⟩
 have hz:(s.heap.push { cls:=.type "tuple_iterator",data:=.fields #[.ref l,.int 0 0] }).objs.size=s.heap.objs.size+1:=eD ..
 show _/\_
 rw [hz]
 have he:IsEnum ((s.heap.push { cls:=.type "tuple_iterator",data:=.fields #[.ref l,.int 0 0] }).push
   {cls:=.type "enumerate",data:=.fields #[.none,.bool false,.ref s.heap.objs.size,rawInt 0,.none,.none] }) (s.heap.objs.size+1) s.heap.objs.size 0 .none:=by
  have:=aG (s.heap.push { cls:=.type "tuple_iterator",data:=.fields #[.ref l,.int 0 0] })
   (o:={ cls:=.type "enumerate",data:=.fields #[.none,.bool false,.ref s.heap.objs.size,rawInt 0,.none,.none] }) rfl
  rw [hz] at this;exact this
 refine ⟨⟨_,he,rfl⟩,h _ he ⟨_,av _ (aG _ rfl),rfl,rfl⟩ (by rw [eD,hz]) λb o x=>av _ (av _ x)⟩
end
end PySem
namespace L2
open PySem PySem.Spec PyProof.Rows
section
variable {X:Cx}
theorem Inv.pair {pins:List (Addr×Obj)}{σ:St}{H:Hp}{s:Shared}{h':Heap}{t':Nat}{e it:Addr}{xs:List V}{its:List Value}(I:Inv X pins σ H s)(fe:B0 X pins H e)(fi:B0 X pins H it)
  (k:∀b o,b≠e->b≠it->s.heap.get? b=some o->h'.get? b=some o) (hT:zy1 h' s.heap.objs.size its.toArray) (hv:p9 xs its) (hz:xs.length<=sizeLine) :
  Inv X pins σ (upd H s.heap.objs.size (.tup xs)) { s with heap:=h',toks:=t' }:=by
 have fT:B0 X pins H s.heap.objs.size:=I.fpOk (af _) (I.hok.fresh (af _))
 have nT:∀b o,H b=some o->b≠s.heap.objs.size:=λb o q z=>by rw [z,fT.1] at q;cases q
 have ne:∀b o,H b=some o->b≠e:=λb o q z=>by rw [z,fe.1] at q;cases q
 have ni:∀b o,H b=some o->b≠it:=λb o q z=>by rw [z,fi.1] at q;cases q
 have ok:∀b∈[e,it,s.heap.objs.size],B0 X pins H b:=λb hb=>by
  simp only [ay,aP,or_false] at hb
  rcases hb with rfl|rfl|rfl
  ·exact fe
  ·exact fi
  ·exact fT
 have out:∀b,b∉[e,it,s.heap.objs.size]->b≠e/\b≠it/\b≠s.heap.objs.size:=λb hb=>by
  simp only [ay,aP,or_false,not_or] at hb
  exact hb
 refine I.step (g':=s.gens) (d':=s.drawn) (ch:=[e,it,s.heap.objs.size]) (λb hb=>⟨(ok b hb).2.2.2.1,(ok b hb).2.1,(ok b hb).2.2.2.2.1,(ok b hb).2.2.2.2.2⟩)
  (λb o _ _ hc q _=>k b o (out b hc).1 (out b hc).2.1 q) (λb o _ _ hc q _=>⟨o.slots,k b o (out b hc).1 (out b hc).2.1 q⟩) (λb o hc q n=>by rw [z7 (out b hc).2.2];exact n)
  (λb o hc q=>⟨o,k b o (out b hc).1 (out b hc).2.1 q⟩) (λb ys q=>by rw [z7 (nT b _ q)];exact q) (λb o u q=>by rw [z7 (nT b _ q)];exact q) (λb ps q=>⟨#[],by rw [z7 (nT b _ q),q];simp⟩)
  (λm hm=>?_) (λb u q=>?_) I.bare
 ·obtain ⟨o,es,ep,ho,r⟩:=hm
  exact ⟨o,es,ep,k _ o (Ne.symm fe.2.1) (Ne.symm fi.2.1) ho,r⟩
 ·by_cases hb:b=s.heap.objs.size
  ·subst hb
   rw [z5] at q
   cases q
   exact ⟨hz,its,hv,hT⟩
  ·rw [z7 hb] at q
   refine (I.hok b u q).stay (λc v hc z=>k c v ?_ ?_ z) (λc z=>by rw [z7 (nT c _ z)];exact z) λc ys z=>by rw [z7 (nT c _ z)];exact z
   ·rcases hc with z|z
    ·rw [z];exact ne b u q
    ·exact ne c _ z
   ·rcases hc with z|z
    ·rw [z];exact ni b u q
    ·exact ni c _ z
def Ite (Sq:Hp->List V->Prop):It :=
 ⟨λi H=>∃xs x,Sq H xs/\xs[i]?=some x,λi H x H'=>∃T v,H T=none/\x=.ref T/\H'=upd H T (.tup [.int (i:Nat),v])/\∀xs,Sq H xs->xs[i]?=some v,λi H=>∃xs,Sq H xs/\xs.length<=i⟩
theorem yk2 {P:Program}{w:World}{K:W.Frag}{elts:List Expr}{x1:Nat}{tp:Pos}(a e it:Addr)(hei:e≠it):zy2 P w K (.Tuple elts x1 tp) (Ite λH xs=>SqT K H a xs) [e,it] e (λi h=>(∃old,IsEnum h e it i old)/\h.IsTupleIter it a i) where
 mem:=by simp
 obj:=λi h st b hb=>by
  obtain ⟨⟨old,he⟩,o,ho,c,d⟩:=st
  rcases ay.mp hb with z|z
  ·subst z
   exact ⟨_,he,λv q=>by have q':Data.fields _=Data.cell v:=q;cases q'⟩
  ·have z':b=it:=by simpa using z
   subst z'
   exact ⟨o,ho,λv q=>by rw [d] at q;cases q⟩
 keep:=λi h h' st k=>⟨let ⟨old,he⟩:=st.1;⟨old,k e (by simp) _ he⟩,st.2.at λo q=>k it (by simp) o q⟩
 item:=by
  intro X hP hw hK hc i pins s σ H E I hf st hg
  subst hP hw hK
  obtain ⟨xs,x,hq,hx⟩:=hg
  obtain ⟨its,rv,p,hz⟩:=I.tuple hq
  obtain ⟨u,hu,ru⟩:=rv.get hx
  obtain ⟨⟨old,he⟩,hit⟩:=st
  have fe:=hf e (by simp)
  have fi:=hf it (by simp)
  have hlt:i<its.toArray.size:=by
   have:=(ap.mp hu).1
   simpa using this
  obtain ⟨oa,hoa,hca,na,hda⟩:=id p
  have hai:a≠it:=λz=>by
   obtain ⟨o,ho,c,d⟩:=id hit
   rw [z,ho] at hoa
   cases hoa
   rw [c] at hca
   exact absurd hca (by decide)
  have hae:e∉[it,a]:=by
   intro z
   simp only [ay,aP,or_false] at z
   rcases z with z|z
   ·exact hei z
   ·rw [←z,he] at hoa
    cases hoa
    exact absurd (show Value.type "enumerate"=Value.type "tuple" from hca) (by decide)
  refine wpAny_pyNext_enum_itemD (Draws.tuple (A:=X.A.in1) (I.ok.hd hc) it a hai its.toArray) he ⟨hit,p⟩ hlt hei hae λy h' tk hP ho hst hT hsz kk=>?_
  obtain rfl:y=u:=by
   have:its.toArray[i]?=some u:=by simpa using hu
   rw [this] at hP
   exact (Option.some.inj hP).symm
  have I1:Inv X pins σ (upd H s.heap.objs.size (.tup [.int (i:Nat),x])) { s with heap:=h',toks:=tk+1 }:=I.pair (its:=[.int i tk,y]) fe fi kk ⟨_,hT,rfl,_,rfl,rfl⟩ (.cons ⟨tk,rfl⟩ (.cons ru .nil)) (by show 2<=sizeLine;decide)
  have neT:∀b∈[e,it],b≠s.heap.objs.size:=λb hb z=>by
   rcases ay.mp hb with q|q
   ·rw [←q,z] at he
    exact absurd (aF he) (aZ _)
   ·have q':b=it:=by simpa using q
    obtain ⟨o,hi2,_⟩:=hit
    rw [←q',z] at hi2
    exact absurd (aF hi2) (aZ _)
  have fr:∀b∈[e,it],(upd H s.heap.objs.size (.tup [.int (i:Nat),x])) b=none:=λb hb=>by rw [z7 (neT b hb)];exact (hf b hb).1
  refine ⟨_,rfl,wpAny_letOwnedTupleGo_enum (s:={ s with heap:=h',toks:=tk+1 }) ho λh'' he'' hs''=>?_⟩
  have I2:Inv X pins σ (upd H s.heap.objs.size (.tup [.int (i:Nat),x])) { s with heap:=h'',toks:=tk+1 }:=I1.turned (t':=tk+1) (λb o hb q=>(hs''.2 b hb).trans q) (fr e (by simp)) fe.2.1 fe.2.2.2.1 fe.2.2.2.2.1 fe.2.2.2.2.2
  refine ⟨.ref s.heap.objs.size,_,I2,rfl,⟨s.heap.objs.size,x,I.hok.fresh (af _),rfl,rfl,λys hy=>by rw [I.tuple_inj hy hq];exact hx⟩,⟨⟨y,by simpa using he''⟩,hst.1.at λo q=>(hs''.2 it (Ne.symm hei)).trans q⟩,fr⟩
 done:=by
  intro X hP hw hK hc i pins s σ H E I hf st hg
  subst hP hw hK
  obtain ⟨xs,hq,hx⟩:=hg
  obtain ⟨its,rv,p,hz⟩:=I.tuple hq
  obtain ⟨⟨old,he⟩,hit⟩:=st
  have fi:=hf it (by simp)
  have hT:s.TypeIs (.ref e) "enumerate":=⟨_,he,rfl⟩
  unfold pyNext
  refine wpAny_bind (wpAny_attempt (wpAny_callSpecial?_slot (name:=Str.ofString "__next__") hT F.slot_enumerate_next
   (wpAny_call_entry F.slot_enumerate_next hT F.entry_enumerate_next ?_ (F.args_enumerate_next_1 _))))
  show wpAny _ _ (field (.ref e) 2 >>= _) _ _ _
  refine wpAny_bind (wpAny_field he rfl (x:=.ref it) rfl ?_)
  have hl:=rv.length
  refine wpAny_bind (U4 (A:=_) (I.ok.hd hc) hit p (by simp;lia) λh' x he' hx'=>?_)
  obtain ⟨o,ho,hcl⟩:=hx'
  refine wpAny_bind (wpAny_isInstance (T:="StopIteration") (b:=true) ⟨o,ho,hcl⟩ isSubtype_stop ?_)
  exact wpAny_pure ⟨rfl,I.turned (t':=s.toks) (λb o hb q=>he' b o hb q) fi.1 fi.2.1 fi.2.2.2.1 fi.2.2.2.2.1 fi.2.2.2.2.2⟩
 self:=λ_ _ _ _ _ st h=>let ⟨_,he⟩:=st.1;wpAny_pyIter_enum he h
def xj6 (K:W.Frag)(ta:TA):TI:=λσ H R=>ta σ H λvs H1=>∃a,vs=[.ref a]/\(∃xs,SqT K H1 a xs)/\R (Ite λH xs=>SqT K H a xs) H1
theorem yc7 {elts:List Expr}{x1:Nat}{tp:Pos}{a:Expr}{ta:TA}{p pos:Pos}(hg:Gl X "enumerate") (hm:X.mg "enumerate"=none) (ha:PA X [a] ta) (hs:starEach [a] X.env=[(false,eval a X.env)]:=by rfl):PI X (.Tuple elts x1 tp) (.Call (.Name "enumerate" p) [a] [] pos) (xj6 X.K ta):=by
 intro pins s σ H R I h
 refine Call_ (G3 I hg hm boot_enumerate (PyProof.Rows.callWith_type1 (thn (ha pos pins s σ H _ I h) λus s1 ⟨vs,H1,I1,r1,q1⟩=>?_) hs rfl))
 obtain ⟨b,e,⟨xs,hq⟩,q⟩:=q1
 subst e
 cases r1 with
 | cons r rr =>
  cases rr
  cases r
  obtain ⟨its,rv,pl,hz⟩:=I1.tuple hq
  refine J9 pl λh' he hit hsz kk=>?_
  have I2:Inv X pins σ H1 { s1 with heap:=h' }:=I1.kept (t':=s1.toks) kk
  refine wpAny_pyIter_enum he ⟨s1.heap.objs.size+1,[s1.heap.objs.size+1,s1.heap.objs.size],_,_,H1,rfl,I2,yk2 b _ _ (dR (cP _)),⟨⟨.none,by simpa using he⟩,hit⟩,λc hc=>?_,q⟩
  have hle:s1.heap.objs.size<=c:=by
   simp only [ay,aP,or_false] at hc
   rcases hc with rfl|rfl
   ·exact bY _
   ·exact af _
  exact I1.fpOk hle (I1.hok.fresh hle)
theorem zz8 {Sq:Hp->List V->Prop}{xs:List V}{g:TG}{tb:TS}{D:J3}{σ:St}{H:Hp}(Pv:Nat->St->Hp->Prop)(h0:Pv 0 σ H)(hl:∀i σ H,i<=xs.length->Pv i σ H->Sq H xs)
  (hs:∀i x σ H T,xs[i]?=some x->Pv i σ H->H T=none->g (.ref T) σ (upd H T (.tup [.int (i:Nat),x])) λσ2 H2=>tb { D with nx:=Pv (i+1),ct:=Pv (i+1),bk:=D.nx } σ2 H2) (hd:∀σ H,Pv xs.length σ H->D.nx σ H) :
  ∃W:Nat->Nat->St->Hp->Prop,(∃m,W 0 m σ H)/\∀i m σ H,W i m σ H ->
   ((Ite Sq).stop i H/\D.nx σ H)∨((Ite Sq).go i H/\∃N:St->Hp->Prop,(∀σ' H',N σ' H'->∃m',m'<m/\W (i+1) m' σ' H')/\∀x H',(Ite Sq).yld i H x H'->g x σ H' λσ2 H2=>tb { D with nx:=N,ct:=N,bk:=D.nx } σ2 H2):=by
 refine ⟨λi m σ H=>m=xs.length-i/\i<=xs.length/\Pv i σ H,⟨xs.length,by simp,aQ _,h0⟩,?_⟩
 rintro i m σ H ⟨rfl,hi,p⟩
 have q:=hl i σ H hi p
 by_cases hlt:i<xs.length
 ·refine .inr ⟨⟨xs,xs[i],q,by simp [hlt]⟩,Pv (i+1),λσ' H' p'=>⟨xs.length-(i+1),by lia,rfl,hlt,p'⟩,λx H' y=>?_⟩
  obtain ⟨T,v,hT,rfl,rfl,hv⟩:=y
  exact hs i v σ H T (hv xs q) p hT
 ·have e:i=xs.length:=by lia
  subst e
  exact .inl ⟨⟨xs,q,af _⟩,hd σ H p⟩
end
section
variable {X:Cx}
end
section
variable {X:Cx}
theorem zt1:R3 X (.builtin "sorted") (λxs H Q=>∃(p:Addr) (ns:List Int),xs=[.ref p]/\SqL X.K H p (ns.map V.int)/\ns.length<64/\∀(l:Addr) (ms:List Int),H l=none->ms.Perm ns->ms.Pairwise (·<=·)->Q (.ref l) (upd H l (.lst (ms.map V.int)))):=by
 intro pins s σ H xs us Q I r h
 obtain ⟨p,ns,rfl,hq,h64,q⟩:=h
 obtain ⟨u,rfl,rx⟩:=M5 r
 cases rx
 obtain ⟨its,r1,p1,hz⟩:=I.list hq
 have l1:=r1.length
 rw [ae] at l1 hz
 refine sorted_ints p1.isList (W4 r1) (by lia) λout ms a1 a2 a3=>?_
 obtain ⟨e,he⟩:=sortedAll_at s.heap its out
 have hl:=a2.length_eq
 refine ⟨.ref (s.heap.objs.size+1),_,I.laid (t':=s.toks) (λb o z=>sortedAll_old z) (bY _) (show n8 X.prog X.w _ _ _ (.lst (ms.map V.int)) from ⟨by rw [ae];lia,out.toList,e,D7 a1,by simpa using he⟩),rfl,q _ ms (I.hok.fresh (bY _)) a2 a3⟩
theorem yp0 (hc:X.calm=true):R3 X (.builtin "sum") (λxs H Q=>∃(p:Addr) (ns:List Int),xs=[.ref p]/\SqL X.K H p (ns.map V.int)/\Q (.int ns.sum) H):=by
 intro pins s σ H xs us Q I r h
 obtain ⟨p,ns,rfl,hq,q⟩:=h
 obtain ⟨u,rfl,rx⟩:=M5 r
 cases rx
 obtain ⟨its,r1,p1,hz⟩:=I.list hq
 obtain ⟨m,F⟩:=I.fr
 have N:=yx9 (g:=X.base) (h:=s.heap) (L:=X.env.locals)
 have hi:=W4 r1
 obtain ⟨ys,hx⟩:=hi.allInts.items
 have hl':s.heap.IsList p (intItems ys):=hx ▸ p1.isList
 refine sum_intListG (I.ok.hd hc) hl' λh' tk t' hk=>?_
 have e1:ns=ys.toList.map (·.1):=by
  rw [←nums_intItems,←hx]
  exact (show numsOf its.toArray.toList=ns from hi.numsOf).symm
 have e2:preSum (numAt ys) ys.size=ns.sum:=by rw [preSum_eq,bF (by simp),e1]
 exact ⟨.int ns.sum,H,I.kept hk,⟨t',by rw [e2]⟩,q⟩
end
section
variable {X:Cx}
theorem xe5:OpR X (binaryOp .Add) (λx y H Q=>∃(l b:Addr) (xs zs:List V),x=.ref l/\y=.ref b/\SqL X.K H l xs/\SqL X.K H b zs/\xs.length+zs.length<=sizeLine/\∀p,H p=none->Q (.ref p) (upd H p (.lst (xs++zs)))):=by
 intro pins s σ H x y v u Q I rx ry h
 obtain ⟨l,b,xs,zs,rfl,rfl,hH,hB,hz,q⟩:=h
 cases rx
 cases ry
 obtain ⟨its,r,p1,_⟩:=I.list hH
 obtain ⟨its2,r2,p2,_⟩:=I.list hB
 obtain ⟨⟨cls,dd,data,sl⟩,n,ho,hc,_,hd⟩:=p1
 obtain ⟨⟨cls2,dd2,data2,sl2⟩,n2,ho2,hc2,_,hd2⟩:=p2
 simp only at hc hd hc2 hd2
 subst hc hd hc2 hd2
 have l1:=r.length
 have l2:=r2.length
 have e:its.toArray++its2.toArray=(its++its2).toArray:=by simp
 refine concat_meets ⟨_,ho,rfl⟩ ⟨_,ho2,rfl⟩ noFill_list_add seq_list_add PySem.F.slot_list_add PySem.F.entry_list_add (PySem.F.args_list_add_2 _ _) (list_addW l b its.toArray its2.toArray n n2 dd dd2 sl sl2 (by simp only [aC];lia)) ⟨ho,ho2,?_⟩
 rw [e]
 exact ⟨.ref _,_,I.lnew (t':=s.toks) (r.append r2) (by rw [aq];lia),rfl,q _ I.fresh⟩
end
section
variable {X:Cx}
end
end L2
namespace L2
open PySem PySem.Spec PyProof.Rows PyProof.Rows.LSm
mutual
inductive RdD (K:W.Frag) (H:Hp):V->PyData->Prop
 | non:RdD K H .non .none
 | bl (b:Bool):RdD K H (.bl b) (.bool b)
 | int (i:Int):RdD K H (.int i) (.int i)
 | str (x:Str):RdD K H (.str x) (.str x)
 | lst {a:Addr} {xs:List V} {ds:List PyData}:SqL K H a xs->J7 K H xs ds->RdD K H (.ref a) (.list ds)
 | tup {a:Addr} {xs:List V} {ds:List PyData}:SqT K H a xs->J7 K H xs ds->RdD K H (.ref a) (.tuple ds)
inductive J7 (K:W.Frag) (H:Hp):List V->List PyData->Prop
 | nil:J7 K H [] []
 | cons {x:V} {d:PyData} {xs:List V} {ds:List PyData}:RdD K H x d->J7 K H xs ds->J7 K H (x::xs) (d::ds)
end
theorem J7.ints {K:W.Frag}{H:Hp}:∀(ns:List Int),J7 K H (ns.map V.int) (ns.map PyData.int)
 | []=>.nil
 | n::r=>.cons (.int n) (J7.ints r)
section
variable {X:Cx}{pins:List (Addr×Obj)}{σ:St}{H:Hp}{s:Shared}
mutual
theorem RdD.reads (I:Inv X pins σ H s):∀{x:V} {d:PyData},RdD X.K H x d->∀u,o6 x u->∃as,Reads s.heap u d as
 | _,_,.non,u,r=>by cases (show u=Value.none from r);exact ⟨_,.none⟩
 | _,_,.bl b,u,r=>by cases (show u=Value.bool b from r);exact ⟨_,.bool b⟩
 | _,_,.int i,u,r=>by obtain ⟨t,rfl⟩:=(show ∃t,u=Value.int i t from r);exact ⟨_,.int i t⟩
 | _,_,.str x,u,r=>by obtain ⟨t,rfl⟩:=(show ∃t,u=Value.str x t from r);exact ⟨_,.str x t⟩
 | _,_,.lst h hs,u,r=>by
  cases (show u=Value.ref _ from r)
  obtain ⟨its,rv,p,_⟩:=I.list h
  obtain ⟨o,ho,hc,n,hd⟩:=p.isList
  obtain ⟨as,ha⟩:=J7.reads I hs its rv
  exact ⟨_,.list ho hc hd (by simpa using ha)⟩
 | _,_,.tup h hs,u,r=>by
  cases (show u=Value.ref _ from r)
  obtain ⟨its,rv,p,_⟩:=I.tuple h
  obtain ⟨o,ho,hc,n,hd⟩:=p
  obtain ⟨as,ha⟩:=J7.reads I hs its rv
  exact ⟨_,.tuple ho hc hd (by simpa using ha)⟩
theorem J7.reads (I:Inv X pins σ H s):∀{xs:List V} {ds:List PyData},J7 X.K H xs ds->∀us,p9 xs us->∃as,ReadsAll s.heap us ds as
 | _,_,.nil,us,r=>by cases r;exact ⟨_,.nil⟩
 | _,_,.cons h hs,us,r=>by
  cases r with
  | cons r1 r2 =>
   obtain ⟨as,ha⟩:=RdD.reads I h _ r1
   obtain ⟨bs,hb⟩:=J7.reads I hs _ r2
   exact ⟨_,.cons ha hb⟩
end
end
section
variable {X:Cx}
theorem zv4 (hu:X.A.units+64<cLine):OpR X (compareOp .Eq) (λx y H Q=>∃d e,RdD X.K H x d/\RdD X.K H y e/\PySem.SeqAt.shaped d=true/\PySem.SeqAt.shaped e=true/\Q (.bl (PyData.eqv d e)) H):=by
 intro pins s σ H x y v u Q I rx ry h
 obtain ⟨d,e,hd,he,s1,s2,q⟩:=h
 obtain ⟨as,ra⟩:=hd.reads I v rx
 obtain ⟨bs,rb⟩:=he.reads I u ry
 exact eq_dataH ra rb s1 s2 hu ⟨.bl _,H,I,rfl,q⟩
theorem yy5 (hu:X.A.units+64<cLine):OpR X (compareOp .NotEq) (λx y H Q=>∃d e,RdD X.K H x d/\RdD X.K H y e/\PySem.SeqAt.shaped d=true/\PySem.SeqAt.shaped e=true/\Q (.bl (!PyData.eqv d e)) H):=by
 intro pins s σ H x y v u Q I rx ry h
 obtain ⟨d,e,hd,he,s1,s2,q⟩:=h
 obtain ⟨as,ra⟩:=hd.reads I v rx
 obtain ⟨bs,rb⟩:=he.reads I u ry
 exact ne_dataH ra rb s1 s2 hu ⟨.bl _,H,I,rfl,q⟩
theorem zg0:∀{bs:List Bool} {us:List Value},p9 (bs.map V.bl) us->BoolsAre us bs
 | [],_,r=>by cases r;exact .nil
 | b::bs,_,r=>by
  cases r with
  | cons a c =>
   cases (show _=Value.bool b from a)
   exact .cons b (zg0 c)
theorem zd7 (hc:X.calm=true):R3 X (.builtin "all") (λxs H Q=>∃(p:Addr) (bs:List Bool),xs=[.ref p]/\SqL X.K H p (bs.map V.bl)/\Q (.bl (bs.all id)) H):=by
 intro pins s σ H xs us Q I r h
 obtain ⟨p,bs,rfl,hq,q⟩:=h
 obtain ⟨u,rfl,rx⟩:=M5 r
 cases rx
 obtain ⟨its,r1,p1,hz⟩:=I.list hq
 obtain ⟨m,F⟩:=I.fr
 have hb:=zg0 r1
 have hl:=p1.isList
 have hlt:p<s.heap.objs.size:=by obtain ⟨_,e,_⟩:=hl;exact aF e
 refine call_all_walk (wpAny_pyIter_list hl ?_)
 refine ⟨s.heap.objs.size,[s.heap.objs.size,p],[s.heap.objs.size],its.toArray.size,_,_,λi=>(bs[i]?).getD true,rfl,Walks.list (A:=X.A.in1) (I.ok.hd hc) _ p (aS hlt) its.toArray,
  ⟨⟨_,aG _ rfl,rfl,rfl⟩,hl.push _⟩,λi v s' Q' E' hP hQ=>?_,λh' tk hk=>?_⟩
 ·obtain ⟨b,e,rfl⟩:=hb.get i v (by simpa using hP)
  simp only [e,dC] at hQ
  exact wpAny_truthy_bool hQ
 ·have e:((List.range its.toArray.size).all λi=>(bs[i]?).getD true)=bs.all id:=by
   rw [aC,hb.length];exact range_all bs
  rw [e]
  exact ⟨.bl _,H,I.kept (kept_iter hk),rfl,q⟩
end
end L2
namespace L2
open PySem PySem.Spec PyProof.Rows
section
variable {X:Cx}
end
section
variable {X:Cx}{tg:Expr}
end
section
variable {X:Cx}
end
def CX1 (P:Program)(w:World):CXT:=λouter H s E e s'=>∃(ea C:Addr) (a0:Value) (B:Heap) (H':Hp),e=.ref ea/\s'.os=s.os/\AllBare s'.gens/\HOk P w H' B/\Heap.FlyingW B outer ea (.ref C) a0 s'.heap /\
 (∀b o,s.heap.get? b=some o->H b=none->b∉frs outer->B.get? b=some o) /\
 (∀b o,s.heap.get? b=some o->H b=none->b∈frs outer->∃sl,s'.heap.get? b=some { o with slots:=sl }) /\
 (∀b o,s.heap.get? b=some o->H b=none->H' b=none) /\
 (∀b o,s.heap.get? b=some o->b∈frs outer∨∃o',B.get? b=some o') /\
 (∀b xs,H b=some (.tup xs)->H' b=some (.tup xs))/\(∀b o u,H b=some (.frz o u)->H' b=some (.frz o u)) /\
 (∀b ps,H b=some (.tbl ps)->∃more,H' b=some (.tbl (ps++more)))/\E (.ref C) none H'
theorem yw2 {P:Program}{w:World}{H:Hp}{h:Heap}{fs:List Addr}(x:HOk P w H h)(hf:∀b∈fs,H b=none):HOk P w H (W.hideAll h fs):=λa o e =>
 (x a o e).stay (λb u hb q=>W.hideAll_get _ q λhm=>by
  have hn:=hf b hm
  rcases hb with rfl|hb
  ·rw [e] at hn;cases hn
  ·rw [hb] at hn;cases hn) (λ_ q=>q) λ_ _ q=>q
section
variable {P:Program}{w:World}{K:W.Frag}{mg:Str->Option Value}{base:Heap}{N:List Str}{qual:Str}{scope:Scope}{f:Addr}{cd:Value}{A:Around}{outer:List Env}{s s1:Shared}{H H1:Hp}{E:XK}{pins:List (Addr×Obj)}{σ:St}
theorem yh3 {C e:Addr}{h':Heap}{args:List Value}(I:Inv (ze0 (CX1 P w) P w K mg base N qual scope f cd A outer s H E) pins σ H1 s1)(hx:Heap.MadeExcOf s1.heap h' e (.ref C) args)(hE:E (.ref C) none H1) :
  (ze0 (CX1 P w) P w K mg base N qual scope f cd A outer s H E).xe (.ref e) { s1 with heap:=h' }:=by
 have hst:=I.stack
 have hfree:=I.stkFree
 refine wpAny_leaves_madeW (base:=W.hideAll s1.heap (frs (envOfC qual scope s.heap.objs.size f cd::outer))) (h:=s1.heap) I.ok.frames rfl (λb o q=>W.of_hideAll _ q) (W.funFrames_hide hst λenv he a ha=>cw.mpr ⟨env,he,ha⟩) hx λh'' t x1 x2 x3 x4=>?_
 have notL:∀b o,s.heap.get? b=some o->b∉frs outer->b∉frs (envOfC qual scope s.heap.objs.size f cd::outer):=λb o hb hn hm=>by
  obtain ⟨env,he,ha⟩:=cw.mp hm
  rcases ay.mp he with rfl|he
  ·have e1:s.heap.objs.size=b:=Option.some.inj ha
   exact absurd (aF hb) (by rw [e1];exact aZ _)
  ·exact hn (cw.mpr ⟨env,he,ha⟩)
 refine ⟨e,C,.ref t,_,H1,rfl,I.os,I.bare,yw2 I.hok hfree,x1,λb o hb hn hf=>?_,λb o hb hn hf=>?_,λb o hb hn=>?_,λb o hb=>?_,I.base.tups,I.base.frzs,I.base.tbls,hE⟩
 ·exact W.hideAll_get _ (I.base.keep b o hb hn hf (by intro z;cases z)) (notL b o hb hf)
 ·obtain ⟨sl,q⟩:=I.base.slot b o hb hn hf (by intro z;cases z)
  obtain ⟨_,o2,ho2,hd⟩:=I.funs.mem hf
  have e2:o2={ o with slots:=sl }:=Option.some.inj (ho2.symm.trans q)
  subst e2
  obtain ⟨sl',q'⟩:=x4 b _ (hx.keeps _ _ q) hd
  exact ⟨sl',q'⟩
 ·exact I.base.free b o hb hn (by intro z;cases z)
 ·by_cases hf:b∈frs outer
  ·exact .inl hf
  ·obtain ⟨o',q⟩:=I.base.there b o hb (by intro z;cases z)
   exact .inr ⟨o',W.hideAll_get _ q (notL b o hb hf)⟩
end
section
variable {prog:Program}{w:World}{A:Around}{s:Shared}
theorem D9 {elt target iter ce:Expr}{scope:Scope}{pos:Pos}{it acc:Value}{env:Env}{R:Result->Shared->Prop}(I:Nat->Shared->Prop)
  (turn:∀n s,I n s->wpAny (model prog w) A (pyNext it) (λr s₁=>match r with
   | none=>R (.ok .next) s₁
   | some v=>wpAny (model prog w) A (letOwnedTupleGo target it v) (λ_ s₁'=>wpAny (model prog w) A (assign target env v) (λ_ s₂=>wpAny (model prog w) A (isTrue ce env (eval ce env)) (λok s₃ =>
     if ok=true then wpAny (model prog w) A (eval elt env) (λx s₄ =>
      wpAny (model prog w) A (call (.builtin "list.append") [acc,x]) (λ_ s₅=>∃m,m<n/\I m s₅) (notedBy (model prog w) A env λe s'=>R (.error e) s') s₄) (notedBy (model prog w) A env λe s'=>R (.error e) s') s₃
     else ∃m,m<n/\I m s₃)
     (notedBy (model prog w) A env λe s'=>R (.error e) s') s₂) (notedBy (model prog w) A env λe s'=>R (.error e) s') s₁') (notedBy (model prog w) A env λe s'=>R (.error e) s') s₁) (notedBy (model prog w) A env λe s'=>R (.error e) s') s)
  (n:Nat) (h:I n s):codeAny (model prog w) A (.compLoop (.ListComp elt [⟨target,iter,[ce],0⟩] scope pos) 0 it acc env) R s:=by
 refine codeAny_loop rfl I (λn s hI=>?_) n h
 show wpAny _ _ ((compTurn (.ListComp elt [⟨target,iter,[ce],0⟩] scope pos) 0 it acc env).onRaise (λx=>do noteFrame x env;theTreesLotGoes x)) _ _ s
 refine wpAny_noted ?_
 rw [compTurn_list]
 refine wpAny_bind (wpAny_standAt (wpAny_bind (wpAny_mono (turn n s hI) (λr s₁ h₁=>?_) λ_ _ h'=>h')))
 cases r with
 | none=>exact wpAny_pure h₁
 | some v =>
  refine wpAny_bind (wpAny_mono h₁ (λ_ s₁' h₁'=>?_) λ_ _ h'=>h')
  refine wpAny_bind (wpAny_mono h₁' (λ_ s₂ h₂=>wpAny_bind (wpAny_mono (wpAny_tests_one h₂) (λok s₃ h₃=>?_) λ_ _ h'=>h')) λ_ _ h'=>h')
  cases ok with
  | false=>exact wpAny_pure ⟨rfl,h₃⟩
  | true=>exact wpAny_bind (wpAny_bind (wpAny_mono h₃ (λx s₄ h₄=>wpAny_bind (wpAny_mono h₄ (λ_ s₅ h₅=>wpAny_pure (wpAny_pure ⟨rfl,h₅⟩)) λ_ _ h'=>h')) λ_ _ h'=>h'))
end
def ye6 (own:Nat)(fr:List Nat)(wi:TI)(g:CT TG)(tt:CT TT)(te:CT TE)(σ:St)(H:Hp)(Q:Addr->Hp->Prop):Prop:=wi σ H λJ H1=>∀D,H1 D=none ->
 ∃W:Nat->Nat->St->Hp->Prop,(∃m,W 0 m (V0 own fr σ) (upd H1 D (.lst [])))/\∀i m σ' H',W i m σ' H' ->
  (J.stop i H'/\Q D H')∨(J.go i H'/\∀x H2,J.yld i H' x H2->∀C₀ s₀ H₀ fp,g C₀ s₀ H₀ fp x σ' H2 λσ3 H3=>∃T:Bool->Hp->Prop,tt C₀ s₀ H₀ fp σ3 H3 T/\∀b H5,T b H5 ->
   match b with
   | true=>∃N:VK,te C₀ s₀ H₀ fp σ3 H5 N/\∀y H4,N y H4->∃ys m',H4 D=some (.lst ys)/\ys.length<sizeLine/\m'<m/\W (i+1) m' σ3 (upd H4 D (.lst (ys++[y])))
   | false=>∃m',m'<m/\W (i+1) m' σ3 H5)
def zi5 (own:Nat)(fr:List Nat)(wi:TI)(g:CT TG)(tt:CT TT)(te:CT TE):TE:=λσ H Q=>ye6 own fr wi g tt te σ H λD H'=>Q (.ref D) H'
section
variable {X:Cx}{own:Nat}{fr:List Nat}{N':List Str}{tg iter elt ce:Expr}{scope:Scope}{pos:Pos}{wi:TI}{g:CT TG}{te:CT TE}{tt:CT TT}
theorem zj5 {pins:List (Addr×Obj)}{s:Shared}{σ:St}{H:Hp}{Q:Addr->Hp->Prop}{use:Option (Value->Sem Unit)}{Q':Value->Shared->Prop}{pos':Pos}(hc:X.calm=true)(hi:PI X tg iter wi)(hg:∀C s₃ H₃ fp,PG (o5 X N' scope C s₃ H₃ fp) tg (g C s₃ H₃ fp))(ht:∀C s₃ H₃ fp,PT (o5 X N' scope C s₃ H₃ fp) ce (tt C s₃ H₃ fp))(he:∀C s₃ H₃ fp,PE (o5 X N' scope C s₃ H₃ fp) elt (te C s₃ H₃ fp))
  (hok:zs6 scope X.env.scope (N'.drop own)) (hfr:fr.map (λj=>X.N[j]?)=(N'.drop own).map some) (hown:own<=N'.length) (hs:∀x,foldedSetIterable iter X.env x=pure x)
  (I:Inv X pins σ H s) (h:ye6 own fr wi g tt te σ H Q)
  (fin:∀D C m H' s',Inv X pins σ H' s'->s'.heap.Ns C m->xh1 X pins H' C->Q D H'->compPost (model X.prog X.w) X.A X.xe use Q' (.ref D) C (.ok .next) s') :
  wpAny (model X.prog X.w) X.A (comprehension (.ListComp elt [⟨tg,iter,[ce],0⟩] scope pos) scope X.env pos' (newList []) false (eval iter X.env) use) Q' X.xe s:=by
 refine wpAny_comprehension_free rfl hs (I0 λy hy hk=>I.ok.has y.1 (hok.free y hy hk)) hok.kind hok.loc (thn (hi pins s σ H _ I h) λxv s1 h1=>thn h1 λitv s2 h2=>?_)
 obtain ⟨it,fp,tn,J,H2,e,I2,T,st2,f2,body⟩:=h2
 subst e
 refine wpAny_newList (items:=[]) ?_
 have hD:H2 s2.heap.objs.size=none:=I2.hok.fresh (af _)
 have I3:Inv X pins σ (upd H2 s2.heap.objs.size (.lst [])) { s2 with heap:=s2.heap.push { cls:=.type "list",data:=.seq ([]:List Value).toArray } }:=I2.lnew (its:=[]) (t':=s2.toks) .nil (by decide)
 obtain ⟨W,⟨m0,w0⟩,turn⟩:=body _ hD
 generalize hDD:s2.heap.objs.size=D at hD I3 w0 turn ⊢
 have up3:∀b o,s2.heap.get? b=some o->(s2.heap.push { cls:=.type "list",data:=.seq ([]:List Value).toArray }).get? b=some o:=λb o e=>av _ e
 have st3:tn 0 (s2.heap.push { cls:=.type "list",data:=.seq ([]:List Value).toArray }):=T.keep _ _ _ st2 λb _ o e=>up3 b o e
 have fpne:∀b∈fp,b≠D:=λb hb e=>by
  obtain ⟨o,ho,_⟩:=T.obj _ _ st2 b hb
  rw [e,←hDD] at ho
  exact absurd (aF ho) (aZ _)
 have f3:∀b∈fp,B0 X pins (upd H2 D (.lst [])) b:=λb hb=>⟨by rw [z7 (fpne b hb)];exact (f2 b hb).1,(f2 b hb).2⟩
 generalize hs3:({ s2 with heap:=s2.heap.push { cls:=.type "list",data:=.seq ([]:List Value).toArray } }:Shared)=s3 at I3 ⊢
 have st3':tn 0 s3.heap:=by rw [←hs3];exact st3
 generalize upd H2 D (.lst [])=H3 at I3 f3 w0
 have hob:∀b∈fp,∃o,s3.heap.get? b=some o:=λb hb=>let ⟨o,ho,_⟩:=T.obj _ _ st3' b hb;⟨o,ho⟩
 refine wpAny_newFunctionEnv hok.cell (by intro y hy;simp at hy) (λh₁ hns₁ hsb₁=>?_) hok.kind
 have up4:∀b o,s3.heap.get? b=some o->h₁.get? b=some o:=λb o e=>(hsb₁.2 b (aS (aF e))).trans (av _ e)
 have I4:=ya1 (N':=N') (own:=own) (fr:=fr) (scope:=scope) (t:=s3.toks+([]:List (Str×Value)).length) I3 f3 hob hok hfr hown hns₁ hsb₁
 have st4:tn 0 h₁:=T.keep _ _ _ st3' λb _ o e=>up4 b o e
 have stat:∀{H':Hp} ,(∀b∈fp,H' b=none)->∀b∈fp,B0 (o5 X N' scope s3.heap.objs.size s3 H3 fp) [] H' b:=λhn b hb=>by
  refine ⟨hn b hb,(I4.ok.exf b hb).1,I4.ok.exfs b hb,.inl hb,(I4.ok.exf b hb).2,λp hp=>by cases hp⟩
 have loop:codeAny (model X.prog X.w) X.A (.compLoop (.ListComp elt [⟨tg,iter,[ce],0⟩] scope pos) 0 (.ref it) (.ref D) (o5 X N' scope s3.heap.objs.size s3 H3 fp).env)
   (compPost (model X.prog X.w) X.A X.xe use Q' (.ref D) s3.heap.objs.size) { s3 with heap:=h₁,toks:=s3.toks+([]:List (Str×Value)).length }:=by
  refine D9 (λn s'=>∃i σ' H',Inv (o5 X N' scope s3.heap.objs.size s3 H3 fp) [] σ' H' s'/\tn i s'.heap/\(∀b∈fp,H' b=none)/\W i n σ' H') ?_ m0 ⟨0,_,H3,I4,st4,λb hb=>(f3 b hb).1,w0⟩
  rintro n s5 ⟨i,σ5,H5,I5,st5,fr5,w5⟩
  rcases turn i n σ5 H5 w5 with ⟨stop,q⟩|⟨go,step⟩
  ·refine thn (T.done (o5 X N' scope s3.heap.objs.size s3 H3 fp) rfl rfl rfl hc i [] s5 σ5 H5 _ I5 (stat fr5) st5 stop) λr s6 ⟨hr,I6⟩=>?_
   subst hr
   obtain ⟨m6,hn6,_⟩:=I6.loc
   have I7:Inv X pins σ H5 s6:=I3.call' (ch:=fp) (by have:=I6.os;exact this) I6.base I6.hok I6.bare λb hb=>⟨(f3 b hb).2.2.2.1,(f3 b hb).2.1,(f3 b hb).2.2.2.2.1,(f3 b hb).2.2.2.2.2⟩
   refine fin D s3.heap.objs.size m6 H5 s6 I7 hn6 ⟨I6.free,dR I3.lt,I3.sz,λx c e z=>?_,λp hp z=>?_⟩ q
   ·obtain ⟨v,z1⟩:=I3.cell x c e
    exact absurd z1.lt (by rw [z];exact aZ _)
   ·exact absurd (aF (I3.pin p hp).1) (by rw [z];exact aZ _)
  ·refine thn (T.item (o5 X N' scope s3.heap.objs.size s3 H3 fp) rfl rfl rfl hc i [] s5 σ5 H5 _ I5 (stat fr5) st5 go) λr s6 ⟨u,hr,h6⟩=>?_
   subst hr
   refine thn h6 λ_ s7 ⟨x,H7,I7,r7,y7,st7,fr7⟩=>?_
   have I7':=I7.pinned (stat fr7) (T.obj _ _ st7)
   refine wpAny_mono (hg _ _ _ _ _ s7 σ5 H7 x u _ I7' r7 (step x H7 y7 _ _ _ _)) (λ_ s8 ⟨σ8,H8,I8,Tq,q8,hT⟩=>?_) λ_ _ z=>z.elim
   refine wpAny_mono (ht _ _ _ _ _ s8 σ8 H8 Tq I8 q8) (λbv s9 ⟨H9,I9,n9⟩=>?_) λ_ _ z=>z.elim
   have hb:=hT bv H9 n9
   cases bv with
   | false =>
    obtain ⟨m',hm,w9⟩:=hb
    show ∃m,m<n/\_
    have pin:=λb hb o e=>I9.pin (b,o) (aD _ (aD _ (P3 (h:=s7.heap) (fp:=fp) hb e)))
    refine ⟨m',hm,i+1,σ8,_,I9.unpinned,T.keep _ _ _ st7 λb hb o e=>(pin b hb o e).1,λb hb=>?_,w9⟩
    obtain ⟨o,e,d⟩:=T.obj _ _ st7 b hb
    exact (pin b hb o e).2.1
   | true =>
    obtain ⟨N,q9,hN⟩:=hb
    show wpAny _ _ (eval elt _) _ _ _
    refine wpAny_mono (he _ _ _ _ _ s9 σ8 H9 N I9 q9) (λyv s10 ⟨y,H10,I10,r10,n10⟩=>?_) λ_ _ z=>z.elim
    obtain ⟨ys,m',hD9,hlt,hm,w9⟩:=hN y H10 n10
    refine wpAny_mono (b8 (X:=o5 X N' scope s3.heap.objs.size s3 H3 fp) _ s10 σ8 H10 (.ref D) [y] (.ref D) [yv] (λ_ H'=>H'=upd H10 D (.lst (ys++[y]))) I10 rfl (.cons r10 .nil) ⟨D,ys,y,rfl,rfl,hD9,hlt,rfl⟩) (λ_ s11 ⟨_,H11,I11,_,q11⟩=>?_) λ_ _ z=>z.elim
    subst q11
    have pin:=λb hb o e=>I11.pin (b,o) (aD _ (aD _ (P3 (h:=s7.heap) (fp:=fp) hb e)))
    refine ⟨m',hm,i+1,σ8,_,I11.unpinned,T.keep _ _ _ st7 λb hb o e=>(pin b hb o e).1,λb hb=>?_,w9⟩
    obtain ⟨o,e,d⟩:=T.obj _ _ st7 b hb
    exact (pin b hb o e).2.1
 exact codeAny_compStart_list loop (T.self X.A 0 _ _ _ st4 loop)
theorem yr5 (own:Nat)(fr:List Nat)(N':List Str)(hc:X.calm=true)(hi:PI X tg iter wi)(hg:∀C s₃ H₃ fp,PG (o5 X N' scope C s₃ H₃ fp) tg (g C s₃ H₃ fp))(ht:∀C s₃ H₃ fp,PT (o5 X N' scope C s₃ H₃ fp) ce (tt C s₃ H₃ fp))(he:∀C s₃ H₃ fp,PE (o5 X N' scope C s₃ H₃ fp) elt (te C s₃ H₃ fp))
  (hok:O9 scope X.env.scope (N'.drop own)=true:=by rfl) (hfr:fr.map (λj=>X.N[j]?)=(N'.drop own).map some:=by rfl) (hown:own<=N'.length:=by decide) (hs:∀x,foldedSetIterable iter X.env x=pure x:=by intro _;rfl) :
  PE X (.ListComp elt [⟨tg,iter,[ce],0⟩] scope pos) (zi5 own fr wi g tt te):=by
 intro pins s σ H Q I h
 rw [eval_ListComp]
 refine zj5 (use:=none) hc hi hg ht he (E6 hok) hfr hown hs I h λD C m H' s' I' hn sp q=>?_
 refine ⟨m,hn,λh' sb=>⟨.ref D,H',?_,rfl,q⟩⟩
 exact I'.turned (t':=s'.toks) (λb o hb e=>(sb.2 b hb).trans e) sp.1 sp.2.1 (.inr sp.2.2.1) sp.2.2.2.1 sp.2.2.2.2
theorem zw6 {i:Nat}{y:Str}{py spos:Pos}(own:Nat)(fr:List Nat)(N':List Str)(hN:X.N.Nodup)(hy:X.N[i]?=some y)(hl:X.env.scope.names.lookup y=some .local)(hc:X.calm=true)(hi:PI X tg iter wi)(hg:∀C s₃ H₃ fp,PG (o5 X N' scope C s₃ H₃ fp) tg (g C s₃ H₃ fp))(ht:∀C s₃ H₃ fp,PT (o5 X N' scope C s₃ H₃ fp) ce (tt C s₃ H₃ fp))(he:∀C s₃ H₃ fp,PE (o5 X N' scope C s₃ H₃ fp) elt (te C s₃ H₃ fp))
  (hsw:swapsWith (.ListComp elt [⟨tg,iter,[ce],0⟩] scope pos) (some (.Name y py)) spos.line X.env=pure true:=by rfl)
  (hok:O9 scope X.env.scope (N'.drop own)=true:=by rfl) (hfr:fr.map (λj=>X.N[j]?)=(N'.drop own).map some:=by rfl) (hown:own<=N'.length:=by decide) (hs:∀x,foldedSetIterable iter X.env x=pure x:=by intro _;rfl) :
  PS X (.Assign [.Name y py] (.ListComp elt [⟨tg,iter,[ce],0⟩] scope pos) spos) (yk0 (zi5 own fr wi g tt te) (p3 i)):=by
 intro pins s σ H D I h
 rw [exec_Assign_Name_used _ _ _ _ hsw]
 refine wpAny_bind (wpAny_standAt (wpAny_bind ?_))
 show wpAny _ X.A (do let _ ←comprehension (.ListComp elt [⟨tg,iter,[ce],0⟩] scope pos) scope X.env _ (newList []) false (eval iter X.env) (some (assign (.Name y py) X.env))) _ _ s
 refine wpAny_bind (wpAny_mono (zj5 (use:=some (assign (.Name y py) X.env)) (Q':=λ_ s'=>SP X pins D .next s') hc hi hg ht he (E6 hok) hfr hown hs I h λDl C m H' s' I' hn sp q=>?_) (λ_ s' hq=>wpAny_pure (wpAny_pure hq)) λ_ _ e=>e)
 show wpAny _ X.A (assign (.Name y py) X.env (.ref Dl)) _ _ _
 refine wpAny_assign_Name (D5 (v:=.ref Dl) I' hN hy (.inl hl) rfl (λs2 I2 ⟨a,sb,ha⟩=>?_) (.inr hl))
 have hCa:C≠a:=by
  rcases ha with e|e
  ·rw [e];exact sp.2.1
  ·exact λz=>sp.2.2.2.1 y a e z.symm
 refine ⟨m,hn.sameBut sb hCa,λh' sb'=>⟨_,H',?_,q⟩⟩
 exact I2.turned (t':=s2.toks) (λb o hb e=>(sb'.2 b hb).trans e) sp.1 sp.2.1 (.inr sp.2.2.1) sp.2.2.2.1 sp.2.2.2.2
theorem yi2 {x:Str}{px:Pos}(fr:List Nat)(N':List Str)(hc:X.calm=true)(hi:PI X (.Name x px) iter wi)(ht:∀C s₃ H₃ fp,PT (o5 X N' scope C s₃ H₃ fp) ce (tt C s₃ H₃ fp))(he:∀C s₃ H₃ fp,PE (o5 X N' scope C s₃ H₃ fp) elt (te C s₃ H₃ fp))(hN:N'.Nodup:=by decide +kernel)(h0:N'[0]?=some x:=by rfl)(hx:scope.names.lookup x=some .local:=by rfl)
  (hok:O9 scope X.env.scope (N'.drop 1)=true:=by rfl) (hfr:fr.map (λj=>X.N[j]?)=(N'.drop 1).map some:=by rfl) (hown:1<=N'.length:=by decide) (hs:∀x,foldedSetIterable iter X.env x=pure x:=by intro _;rfl) :
  PE X (.ListComp elt [⟨.Name x px,iter,[ce],0⟩] scope pos) (zi5 1 fr wi (λ_ _ _ _=>p3 0) tt te) :=
 yr5 1 fr N' hc hi (λ_ _ _ _=>m7 hN h0 (.inl (lookup_relabel_local hx)) (.inr (lookup_relabel_local hx))) ht he hok hfr hown hs
theorem zp3 {i:Nat}{x y:Str}{px py spos:Pos}(fr:List Nat)(N':List Str)(hNd:X.N.Nodup)(hy:X.N[i]?=some y)(hl:X.env.scope.names.lookup y=some .local)(hc:X.calm=true)(hi:PI X (.Name x px) iter wi)(ht:∀C s₃ H₃ fp,PT (o5 X N' scope C s₃ H₃ fp) ce (tt C s₃ H₃ fp))(he:∀C s₃ H₃ fp,PE (o5 X N' scope C s₃ H₃ fp) elt (te C s₃ H₃ fp))
  (hsw:swapsWith (.ListComp elt [⟨.Name x px,iter,[ce],0⟩] scope pos) (some (.Name y py)) spos.line X.env=pure true:=by rfl) (hN:N'.Nodup:=by decide +kernel) (h0:N'[0]?=some x:=by rfl) (hx:scope.names.lookup x=some .local:=by rfl)
  (hok:O9 scope X.env.scope (N'.drop 1)=true:=by rfl) (hfr:fr.map (λj=>X.N[j]?)=(N'.drop 1).map some:=by rfl) (hown:1<=N'.length:=by decide) (hs:∀x,foldedSetIterable iter X.env x=pure x:=by intro _;rfl) :
  PS X (.Assign [.Name y py] (.ListComp elt [⟨.Name x px,iter,[ce],0⟩] scope pos) spos) (yk0 (zi5 1 fr wi (λ_ _ _ _=>p3 0) tt te) (p3 i)) :=
 zw6 1 fr N' hNd hy hl hc hi (λ_ _ _ _=>m7 hN h0 (.inl (lookup_relabel_local hx)) (.inr (lookup_relabel_local hx))) ht he hsw hok hfr hown hs
end
theorem zg1 {J:It}{fr:List Nat}{tt:CT TT}{te:CT TE}{σ:St}{H1:Hp}{Q:Addr->Hp->Prop}{n:Nat}(p:Nat->Bool)(f:Nat->V)(hz:n<=sizeLine)
  (hstop:∀H,y4 H1 H->J.stop n H) (hgo:∀i H,i<n->y4 H1 H->J.go i H)
  (turn:∀i H x H2,i<n->y4 H1 H->J.yld i H x H2->H2=H/\∀C₀ s₀ H₀ fp,tt C₀ s₀ H₀ fp (some x::fr.map λj=>(σ[j]?).getD none) H λb H4=>b=p i/\y4 H H4/\(p i=true->te C₀ s₀ H₀ fp (some x::fr.map λj=>(σ[j]?).getD none) H4 λy H5=>y4 H4 H5/\y=f i))
  (fin:∀D H,H1 D=none->y4 H1 H->H D=some (.lst (((List.range n).filter p).map f))->Q D H) :
  ∀D,H1 D=none->∃W:Nat->Nat->St->Hp->Prop,(∃m,W 0 m (V0 1 fr σ) (upd H1 D (.lst [])))/\∀i m σ' H',W i m σ' H' ->
  (J.stop i H'/\Q D H')∨(J.go i H'/\∀x H2,J.yld i H' x H2->∀C₀ s₀ H₀ fp,p3 0 x σ' H2 λσ3 H3=>∃T:Bool->Hp->Prop,tt C₀ s₀ H₀ fp σ3 H3 T/\∀b H5,T b H5 ->
   match b with
   | true=>∃N:VK,te C₀ s₀ H₀ fp σ3 H5 N/\∀y H4,N y H4->∃ys m',H4 D=some (.lst ys)/\ys.length<sizeLine/\m'<m/\W (i+1) m' σ3 (upd H4 D (.lst (ys++[y])))
   | false=>∃m',m'<m/\W (i+1) m' σ3 H5):=by
 intro D hD
 have s0:∀o,y4 H1 (upd H1 D o):=λo b u e=>by rw [z7 (y0 e hD)];exact e
 refine ⟨λi m σ' H'=>m=n-i/\i<=n/\y4 H1 H'/\H' D=some (.lst (((List.range i).filter p).map f))/\∃z,σ'=z::fr.map λj=>(σ[j]?).getD none,⟨n,rfl,aQ _,s0 _,by rw [z5];rfl,none,rfl⟩,?_⟩
 rintro i m σ' H' ⟨rfl,hi,sm,hl,z,rfl⟩
 by_cases hlt:i<n
 ·refine .inr ⟨hgo i H' hlt sm,λx H2 y C₀ s₀ H₀ fp=>?_⟩
  obtain ⟨e,q⟩:=turn i H' x H2 hlt sm y
  subst e
  refine ⟨_,q C₀ s₀ H₀ fp,λb H5 ⟨eb,s5,q5⟩=>?_⟩
  subst eb
  have hrange:List.range (i+1)=List.range i++[i]:=List.range_succ
  cases hp:p i with
  | true =>
   refine ⟨_,q5 hp,λy H4 ⟨s4,e4⟩=>⟨((List.range i).filter p).map f,n-(i+1),s4 _ _ (s5 _ _ hl),?_,by lia,rfl,hlt,?_,?_,_,rfl⟩⟩
   ·rw [ae]
    have:=List.length_filter_le p (List.range i)
    rw [aA] at this
    lia
   ·intro b u e
    rw [z7 (y0 e hD)]
    exact s4 _ _ (s5 _ _ (sm _ _ e))
   ·subst e4
    rw [z5,hrange,fx,aV]
    simp [hp]
  | false =>
   refine ⟨n-(i+1),by lia,rfl,hlt,λb u e=>s5 _ _ (sm _ _ e),?_,_,rfl⟩
   rw [s5 _ _ hl,hrange,fx,aV]
   simp [hp]
 ·have e:i=n:=by lia
  subst e
  exact .inl ⟨hstop H' sm,fin D H' hD sm hl⟩
section
variable {X:Cx}
end
abbrev bmV:List Value:=[.type "ValueError",.type "Exception",.type "BaseException",.type "object"]
structure zg9 (K:W.Frag) (C:Addr) (tl:List Value) (newId:String):Prop where
 obj:∃nm qn N bs hdct sn sub ab col dd k0 k1 k2 k3 k5 oN,K.lookup C=some (excClassObj nm qn C N bs tl hdct sn sub ab col dd k0 k1 k2 k3 k5 newId)/\K.lookup N=some oN/\W.nsOkIn K N=true/\W.nsIn K N "__init__"=some none
 tail:W.tailIn K bmV tl=true
theorem zg9.mk' {K:W.Frag}{C:Addr}{tl:List Value}{newId:String}{nm qn:Str}{N:Addr}{bs:List Value}{hdct:Bool}{sn:List Str}{sub:List Value}{ab:Bool}{col:Option Bool}{dd:Option Addr}{k0 k1 k2 k3 k5:Option Value}{oN:Obj}
  (l:K.lookup C=some (excClassObj nm qn C N bs tl hdct sn sub ab col dd k0 k1 k2 k3 k5 newId)) (n:K.lookup N=some oN) (o:W.nsOkIn K N=true) (i:W.nsIn K N "__init__"=some none) (t:W.tailIn K bmV tl=true):zg9 K C tl newId :=
 ⟨⟨nm,qn,N,bs,hdct,sn,sub,ab,col,dd,k0,k1,k2,k3,k5,oN,l,n,o,i⟩,t⟩
theorem xr2 {K:W.Frag}{C:Addr}{tl:List Value}{newId:String}(x:zg9 K C tl newId):∃nm qn N bs hdct sn sub ab col dd k0 k1 k2 k3 k5 oN,
  K.lookup C=some (excClassObj nm qn C N bs tl hdct sn sub ab col dd k0 k1 k2 k3 k5 newId)/\K.lookup N=some oN/\∀h,K.In h->(∃mN,h.Ns N mN/\mN "__init__"=none)/\OwnTail h bmV tl:=by
 obtain ⟨⟨nm,qn,N,bs,hdct,sn,sub,ab,col,dd,k0,k1,k2,k3,k5,oN,l,n,o,i⟩,t⟩:=x
 exact ⟨nm,qn,N,bs,hdct,sn,sub,ab,col,dd,k0,k1,k2,k3,k5,oN,l,n,λh X=>⟨⟨_,.of_isNs (W.isNs_of_in X o),W.nsMap_none_of_in X o i⟩,W.tail_of_in X t⟩⟩
theorem xd9 {h h':Heap}{N:Addr}{o:Obj}{m:Str->Option Value}(e:h.get? N=some o)(e':h'.get? N=some o)(n:h.Ns N m):h'.Ns N m:=by
 obtain ⟨o1,es,ep,ho,r⟩:=n
 rw [e] at ho
 cases ho
 exact ⟨o,es,ep,e',r⟩
theorem OwnTail.base_in {h:Heap}{tl:List Value}(T:OwnTail h bmV tl):tl.contains (.type "BaseException")=true:=T.hasType (by decide)
def yo8 (ea C:Addr):HO:=.ext λh=>∃o,h.get? ea=some o/\o.cls=.ref C
section
variable {P:Program}{w:World}{K:W.Frag}{mg:Str->Option Value}{base:Heap}{N:List Str}{qual:Str}{scope:Scope}{f:Addr}{cd:Value}{A:Around}{outer:List Env}{s0:Shared}{H0:Hp}{E:XK}
theorem yy9 {x:Str}{C:Addr}{tl:List Value}{Bn newId inN:String}{bmN:List Value}{e:Expr}{es:List Expr}{t:TA}{np cpos pos:Pos}(hm:mg x=some (.ref C))(hx:zg9 K C tl newId)(Fn:ExcBaseFacts Bn newId inN bmN)(hBn:bmV.contains (.type Bn)=true)
  (hg:Gl (ze0 (CX1 P w) P w K mg base N qual scope f cd A outer s0 H0 E) x) (ha:PA (ze0 (CX1 P w) P w K mg base N qual scope f cd A outer s0 H0 E) (e::es) t)
  (hd:(x==("__debug__":Str))=false:=by decide) (he:starEach (e::es) (envOfC qual scope s0.heap.objs.size f cd)=(false,eval e (envOfC qual scope s0.heap.objs.size f cd))::starEach es (envOfC qual scope s0.heap.objs.size f cd):=by rfl)
  (hpl:(backTo cpos (starEach es (envOfC qual scope s0.heap.objs.size f cd))).any (·.1)=false:=by rfl) :
  PS (ze0 (CX1 P w) P w K mg base N qual scope f cd A outer s0 H0 E) (.Raise (some (.Call (.Name x np) (e::es) [] cpos)) none pos) (λD σ H1=>t σ H1 λvs H2=>vs.length<=1000/\E (.ref C) none H2):=by
 intro pins s σ H D I h
 obtain ⟨nm,qn,Na,bs,hdct,sn,sub,ab,col,dd,k0,k1,k2,k3,k5,oN,lC,lN,all⟩:=xr2 hx
 obtain ⟨⟨mN,hN,hni⟩,T⟩:=all _ I.kIn
 refine wpAny_Raise_call_subU (C:=C) (nm:=nm) (q:=qn) (N:=Na) (bs:=bs) (bm:=tl) (hdct:=hdct) (sn:=sn) (sub:=sub) (ab:=ab) (col:=col) (dd:=dd) (k0:=k0) (k1:=k1) (k2:=k2) (k3:=k3) (k5:=k5)
  Fn hBn PySem.F.excBase_ValueError (mN:=mN) (OwnTail.base_in T) (I.ok.hd rfl) ?_ hni (za7 I hg hm ⟨rfl,?_⟩ hd)
 ·show (backTo cpos (starEach (e::es) (envOfC qual scope s0.heap.objs.size f cd))).any (·.1)=false
  rw [he]
  show (false || (backTo cpos (starEach es (envOfC qual scope s0.heap.objs.size f cd))).any (·.1))=false
  rw [hpl]
  rfl
 have hA:=ha cpos pins s σ H _ I h
 show wpAny _ _ (evalArgs (.ref C) true (backTo cpos (starEach (e::es) (envOfC qual scope s0.heap.objs.size f cd))) []) _ _ s
 have hA':wpAny (model P w) (ze0 (CX1 P w) P w K mg base N qual scope f cd A outer s0 H0 E).A (spliced (backTo cpos (starEach (e::es) (envOfC qual scope s0.heap.objs.size f cd)))) _ _ s:=hA
 rw [he] at hA' ⊢
 refine Calls.evalArgs_plain (thn hA' λus s2 ⟨vs,H2,I2,r,q1,q2⟩=>?_)
 refine ⟨rfl,?_,I2.kIn _ _ lC,xd9 (I.kIn _ _ lN) (I2.kIn _ _ lN) hN,(all _ I2.kIn).2,λh' ex hx=>yh3 I2 hx q2⟩
 rw [←r.length]
 exact aB q1 (by decide)
theorem Fun.okX {x qual:Str}{st:Stmt}{f:Addr}{fd:FuncData}{N ps:List Str}{k:Nat}{sp:Sp}(F:Fun K x qual st f fd)(S:v1 N ps (y6 st))(len:∀vs H Q E,sp vs H Q E->vs.length=ps.length)
  (hbody:∀(cdv:Value) (A:Around) (outer:List Env) (s:Shared) (H:Hp) (vs:List V) (Q:VK) (E:XK),X8 k (A.deeper (envOfC qual (y6 st) s.heap.objs.size f cdv))->sp vs H Q E ->
   ∃t,PSs (ze0 (CX1 P w) P w K mg base N qual (y6 st) f cdv A outer s H E) (V5 st) t/\t { nx:=λ_ H'=>Q .non H',rt:=Q } (start N vs) H):p6 P w K mg base (CX1 P w) (k+1) f fd ps sp:=by
 obtain ⟨oc,od,kV,doc,pm,an,cdv,ct,osl,rfl,lk,hcd⟩:=F.ex
 refine xh6 lk hcd S len λA outer s H vs Q E hr hsp=>?_
 obtain ⟨t,h,q⟩:=hbody cdv A outer s H vs Q E hr hsp
 exact ⟨t,h,q⟩
end
theorem n8.there {P:Program}{w:World}{H:Hp}{h:Heap}{a:Addr}{o:HO}(x:n8 P w H h a o):∃ob,h.get? a=some ob:=by
 cases o with
 | lst xs=>obtain ⟨_,_,_,_,e⟩:=x;exact ⟨_,e⟩
 | tup xs=>obtain ⟨_,_,_,o,e,_⟩:=x;exact ⟨_,e⟩
 | dK kvs=>obtain ⟨_,_,_,_,o,_,_,e,_⟩:=x;exact ⟨_,e⟩
 | dT kvs=>obtain ⟨_,_,_,_,o,_,_,e,_⟩:=x;exact ⟨_,e⟩
 | set S n=>obtain ⟨o,_,_,_,e,_⟩:=x;exact ⟨_,e⟩
 | ins C dx fs=>obtain ⟨_,_,_,e,_⟩:=x;exact ⟨_,e⟩
 | own y=>obtain ⟨_,e⟩:=x;exact ⟨_,e⟩
 | xd fs=>obtain ⟨_,⟨_,_,_,e,_⟩,_⟩:=x;exact ⟨_,e⟩
 | rng lo hi=>obtain ⟨_,_,_,e⟩:=x;exact ⟨_,e⟩
 | frz ob u=>obtain ⟨e,_⟩:=x;exact ⟨_,e⟩
 | tbl ps=>exact ⟨_,(show h.get? a=some _ from x)⟩
 | met f y=>exact ⟨_,(show h.get? a=some _ from x)⟩
 | ext φ=>obtain ⟨_,⟨_,e⟩,_⟩:=x;exact ⟨_,e⟩
theorem HOk.track {P:Program}{w:World}{H:Hp}{h:Heap}{a:Addr}{o:HO}(x:HOk P w H h)(hn:H a=none)(new:n8 P w (upd H a o) h a o):HOk P w (upd H a o) h:=λb u e=>by
 by_cases hb:b=a
 ·subst hb;rw [z5] at e;cases e;exact new
 ·rw [z7 hb] at e
  exact (x b u e).stay (λc v _ q=>q) (λc q=>by rw [z7 (y0 q hn)];exact q) λc xs q=>by rw [z7 (y0 q hn)];exact q
def Cgt (X:Cx)(pins:List (Addr×Obj))(σ:St)(H:Hp)(ea C:Addr)(s:Shared):Prop :=
 ∃(B:Heap) (a0:Value),Heap.FlyingW B X.stack ea (.ref C) a0 s.heap/\H ea=some (yo8 ea C)/\∀(h:Heap) (tk:Nat),Heap.FlyingW B X.stack ea (.ref C) a0 h->s.heap.UpToSlots h->Inv X pins σ H { s with heap:=h,toks:=tk }
theorem Cgt.inv {X:Cx}{pins:List (Addr×Obj)}{σ:St}{H:Hp}{ea C:Addr}{s:Shared}(x:Cgt X pins σ H ea C s):Inv X pins σ H s:=by
 obtain ⟨B,a0,f,e,all⟩:=x
 exact all s.heap s.toks f (Heap.UpToSlots.refl _)
theorem yu2 {X:Cx}{pins:List (Addr×Obj)}{σ:St}{H:Hp}{s s':Shared}{E:XK}{e:Value}{Q:Flow->Shared->Prop}{E':Value->Shared->Prop}{hs:List ExceptHandler}(I:Inv X pins σ H s)(hst:X.stack=X.env::X.outer)(hfr:X.env.frame=some X.env.locals)
  (hx:CX1 X.prog X.w X.stack H s E e s')
  (h:∀ea C H' s2,e=.ref ea->Cgt X pins σ (upd H' ea (yo8 ea C)) ea C s2->H' ea=none->E (.ref C) none H'->wpAny (model X.prog X.w) X.A (handleBy (.ref ea) X.env hs) Q E' s2) :
  wpAny (model X.prog X.w) X.A (noteFrame e X.env) (λ_ s2=>wpAny (model X.prog X.w) X.A (setFlight e none) (λ_ s3=>wpAny (model X.prog X.w) X.A (handleBy e X.env hs) Q E' s3) E' s2) E' s':=by
 obtain ⟨ea,C,a0,B,H',rfl,hos,hbare,hok,hfl,k1,k2,k3,k4,k5,k6,k7,hE⟩:=hx
 have hen:H' ea=none:=by
  cases q:H' ea with
  | none=>rfl
  | some o =>
   obtain ⟨ob,z⟩:=n8.there (hok ea o q)
   rw [hfl.2.1] at z
   cases z
 have hfl0:=hfl
 rw [hst] at hfl
 refine wpAny_looks_onW (hst ▸ I.ok.frames) hfr hfl λh1 held u1=>?_
 refine wpAny_landsW held λh2 fl2 u2=>?_
 have u12:s'.heap.UpToSlots h2:=u1.trans u2
 rw [←hst] at fl2
 refine h ea C H' _ rfl ⟨B,a0,fl2,z5,λhh tk flh uh=>?_⟩ hen hE
 have u3:s'.heap.UpToSlots hh:=u12.trans uh
 have nea:∀b o,s.heap.get? b=some o->b≠ea:=λb o hb z=>by
  subst z
  rcases k4 b o hb with hm|⟨o',q⟩
  ·obtain ⟨_,o2,ho2,hd⟩:=hfl0.2.2.1.mem hm
   obtain ⟨oe,vs,he,_,hde,_⟩:=hfl0.first
   rw [he] at ho2
   cases ho2
   exact hd vs hde
  ·rw [hfl0.2.1] at q
   cases q
 obtain ⟨oe,vs,he,hc,hde,_⟩:=flh.first
 have k2':∀b o,s.heap.get? b=some o->H b=none->b∈frs X.stack->∃sl,hh.get? b=some { o with slots:=sl }:=λb o q n hf=>by
  obtain ⟨sl,q1⟩:=k2 b o q n hf
  obtain ⟨_,o2,ho2,hd⟩:=hfl0.2.2.1.mem hf
  have e2:o2={ o with slots:=sl }:=Option.some.inj (ho2.symm.trans q1)
  subst e2
  obtain ⟨sl',q'⟩:=u3 b _ q1 hd
  exact ⟨sl',q'⟩
 have Hok:HOk X.prog X.w (upd H' ea (yo8 ea C)) hh:=HOk.track (hok.kept λb u q=>flh.1 _ _ q) hen ⟨⟨oe,he,hc⟩,⟨oe,he⟩,λh1 h2 ⟨o,ho,r⟩ k=>⟨o,k o ho,r⟩⟩
 refine I.call' (s':={ s' with heap:=hh,toks:=tk }) (ch:=[]) hos ⟨λb o q n hf _=>flh.1 _ _ (k1 b o q n hf),λb o q n hf _=>k2' b o q n hf,λb o q n _=>by rw [z7 (nea b o q)];exact k3 b o q n,λb o q _=>?_,λb xs q=>by rw [z7 (y0 (k5 b xs q) hen)];exact k5 b xs q,λb o u q=>by rw [z7 (y0 (k6 b o u q) hen)];exact k6 b o u q,λb ps q=>by
   obtain ⟨more,z⟩:=k7 b ps q
   exact ⟨more,by rw [z7 (y0 z hen)];exact z⟩⟩ Hok hbare (λb z=>absurd z (by simp))
 rcases k4 b o q with hm|⟨o',q'⟩
 ·obtain ⟨_,o2,ho2,_⟩:=I.stack.mem hm
  obtain ⟨sl,q2⟩:=k2' b o2 ho2 (I.stkFree b hm) hm
  exact ⟨_,q2⟩
 ·exact ⟨o',flh.1 _ _ q'⟩
section
variable {M:Model}{A:Around}{E:Value->Shared->Prop}{s:Shared}
theorem yg7 {α β:Type}{cs:List α}{b:β}{f:α->β->Sem (ForInStep β)}{Q:β->Shared->Prop}(hf:∀c∈cs,∀Q':ForInStep β->Shared->Prop,Q' (.yield b) s->wpAny M A (f c b) Q' E s)(h:Q b s):wpAny M A (forIn cs b f) Q E s:=by
 induction cs with
 | nil=>exact wpAny_pure h
 | cons c r ih =>
  rw [dY]
  exact wpAny_bind (hf c au _ (ih λd hd=>hf d (ao _ hd)))
def XAt (h:Heap)(D:Addr)(tl:List Value):Prop:=∃nm qn N bs hdct sn sub ab col dd k0 k1 k2 k3 k5 newId,h.get? D=some (excClassObj nm qn D N bs tl hdct sn sub ab col dd k0 k1 k2 k3 k5 newId)
theorem zg9.at {K:W.Frag}{C:Addr}{tl:List Value}{newId:String}(x:zg9 K C tl newId){h:Heap}(X:K.In h):XAt h C tl/\tl.contains (.type "BaseException")=true:=by
 obtain ⟨nm,qn,N,bs,hdct,sn,sub,ab,col,dd,k0,k1,k2,k3,k5,oN,l,n,all⟩:=xr2 x
 exact ⟨⟨nm,qn,N,bs,hdct,sn,sub,ab,col,dd,k0,k1,k2,k3,k5,newId,X _ _ l⟩,OwnTail.base_in (all _ X).2⟩
theorem xb1 {D:Addr}{tl:List Value}{v:Value}{Q:Bool->Shared->Prop}(x:XAt s.heap D tl)(q:Q ((Value.ref D::tl).contains v) s):wpAny M A (isSubtype (.ref D) v) Q E s:=by
 obtain ⟨nm,qn,N,bs,hdct,sn,sub,ab,col,dd,k0,k1,k2,k3,k5,newId,l⟩:=x
 obtain ⟨h,g,d,t,os⟩:=s
 exact wpAny_isSubtype_exc l q
theorem yw3 {D:Addr}{tl:List Value}{Q:Bool->Shared->Prop}(x:XAt s.heap D tl)(b:tl.contains (.type "BaseException")=true) (q:Q true s):wpAny M A (isExcClass (.ref D)) Q E s:=by
 obtain ⟨nm,qn,N,bs,hdct,sn,sub,ab,col,dd,k0,k1,k2,k3,k5,newId,l⟩:=id x
 unfold isExcClass isType loadHead
 refine wpAny_bind (wpAny_bind (wpAny_loadPart l (wpAny_pure ?_)))
 dsimp only
 rw [if_pos rfl]
 refine xb1 x ?_
 rw [List.contains_cons,b,fQ]
 exact q
theorem yt2 {e:Addr}{oe:Obj}{C:Addr}{Q:Value->Shared->Prop}(he:s.heap.get? e=some oe)(hc:oe.cls=.ref C)(q:Q (.ref C) s):wpAny M A (typeOf (.ref e)) Q E s:=by
 obtain ⟨h,g,d,t,os⟩:=s
 unfold typeOf
 refine wpAny_bind (wpAny_loadPart he (wpAny_pure ?_))
 rw [hc]
 exact q
theorem yb2 {e D C:Addr}{oe:Obj}{tl tlD:List Value}{Q:Bool->Shared->Prop}(he:s.heap.get? e=some oe)(hc:oe.cls=.ref C)(hC:XAt s.heap C tl)(hD:XAt s.heap D tlD)(hb:tlD.contains (.type "BaseException")=true)
  (hm:(Value.ref C::tl).contains (.ref D)=true) (q:Q true s):wpAny M A (excMatches (.ref e) (.ref D)) Q E s:=by
 obtain ⟨nm,qn,N,bs,hdct,sn,sub,ab,col,dd,k0,k1,k2,k3,k5,newId,l⟩:=id hD
 unfold excMatches
 refine wpAny_bind (wpAny_isInstance (T:="type") (b:=false) (show s.TypeIs (.ref D) "type" from ⟨_,l,rfl⟩) (by rw [isSubtype_type];kernel_rfl) ?_)
 dsimp only
 rw [if_neg aI]
 try (refine wpAny_bind (wpAny_pure ?_))
 refine wpAny_bind (yg7 (λc hcm Q' hq=>?_) ?_)
 ·obtain rfl:=ah.mp hcm
  refine wpAny_bind (yw3 hD hb ?_)
  rw [if_neg (by decide)]
  exact wpAny_pure hq
 refine wpAny_bind (yt2 he hc ?_)
 rw [dY]
 refine wpAny_bind (wpAny_bind (wpAny_bind (xb1 hC ?_)))
 rw [hm,if_pos rfl]
 exact wpAny_pure (wpAny_pure (wpAny_pure q))
end
abbrev xb2 (X:Cx) (ea:Addr):Cx:={ X with A:=X.A.mark (some (.ref ea)),calm:=false,xe:=λ_ _=>False }
theorem Inv.sx {X:Cx}{pins:List (Addr×Obj)}{σ:St}{H:Hp}{s:Shared}(I:Inv X pins σ H s)(ea:Addr):Inv (xb2 X ea) pins σ H s :=
 ⟨⟨I.ok.mod,I.ok.kind,I.ok.glob,I.ok.blt,I.ok.above,I.ok.inj,I.ok.has,I.ok.cab,(λz=>by cases z),I.ok.frames,I.ok.stk,I.ok.exf,I.ok.bs,I.ok.bsz,I.ok.noex,I.ok.exfs,I.ok.funs,I.ok.frf⟩,I.os,I.bare,I.base,I.loc,I.cell,I.free,I.freeC,I.pin,I.hok,I.len⟩
theorem Inv.unsx {X:Cx}{pins:List (Addr×Obj)}{σ:St}{H:Hp}{s:Shared}{ea:Addr}(ok:X.Ok)(I:Inv (xb2 X ea) pins σ H s):Inv X pins σ H s :=
 ⟨ok,I.os,I.bare,I.base,I.loc,I.cell,I.free,I.freeC,I.pin,I.hok,I.len⟩
def PH (X:Cx)(hs:List ExceptHandler)(t:Addr->Addr->TS):Prop:=∀(pins:List (Addr×Obj)) (σ:St) (H:Hp) (ea C:Addr) (s:Shared) (D:J3),Cgt X pins σ H ea C s->t ea C D σ H ->
 wpAny (model X.prog X.w) X.A (handleBy (.ref ea) X.env hs) (SP X pins D) X.xe s
section
variable {X:Cx}
end
theorem yt3 {X:Cx}{pins:List (Addr×Obj)}{σ:St}{H:Hp}{s:Shared}{M:Model}{A:Around}{E:Value->Shared->Prop}{i:Nat}{x:Str}{pos:Pos}{Q:Unit->Shared->Prop}(I:Inv X pins σ H s)(hN:X.N.Nodup)(hi:X.N[i]?=some x)(hk:X.env.scope.names.lookup x=some .local)
  (h:∀s',Inv X pins (σ.set i none) H s'->Q () s'):wpAny M A (do bindName X.env x .none;unbindBehindTheSuite X.env x pos) Q E s:=by
 obtain ⟨m,hn,hl⟩:=id I.loc
 have hcls:(X.env.scope.kind == .class || (X.env.scope.kind == .module&&X.env.locals != X.env.globals))=false:=by rw [I.ok.kind];rfl
 obtain ⟨oL,_,_,hoL,_⟩:=id hn
 have hiσ:i<σ.length:=by rw [I.len];exact (ap.mp hi).1
 refine wpAny_nameGoes_keeps hk hn hcls λh' v hn' sb=>h _ ?_
 have old:∀b o,X.s₀.heap.get? b=some o->h'.get? b=s.heap.get? b:=λb o e=>sb.2 b (aS (aO (aF e) I.ok.above))
 refine ⟨I.ok,I.os,I.bare,⟨λb o e n hb hx=>(old b o e).trans (I.base.keep b o e n hb hx),λb o e n hb hx=>?_,I.base.free,λb o e hx=>?_,I.base.tups,I.base.frzs,I.base.tbls⟩,⟨_,hn',λj y v' e1 e2 e3=>?_⟩,λy c e=>?_,I.free,I.freeC,λp hp=>?_,λb ob e=>?_,by rw [bE];exact I.len⟩
 ·obtain ⟨sl,q⟩:=I.base.slot b o e n hb hx
  exact ⟨sl,(old b o e).trans q⟩
 ·obtain ⟨o',q⟩:=I.base.there b o e hx
  exact ⟨o',(old b o e).trans q⟩
 ·have hj:j≠i:=λz=>by
   subst z
   rw [cf hiσ] at e2
   cases e2
  rw [bM (Ne.symm hj)] at e2
  obtain ⟨u',r',q⟩:=hl j y v' e1 e2 e3
  refine ⟨u',r',?_⟩
  rcases q with ⟨k,e⟩|⟨k,c,e,z⟩
  ·have ne:y≠x:=λe=>hj (zl3 hN e1 (e ▸ hi))
   exact .inl ⟨k,by show (if y=x then v else m y)=some u';rw [if_neg ne];exact e⟩
  ·exact .inr ⟨k,c,e,z.sameBut sb (I.cne y c e)⟩
 ·obtain ⟨w',z⟩:=I.cell y c e
  exact ⟨w',z.sameBut sb (I.cne y c e)⟩
 ·obtain ⟨e,n,ne,nf,d⟩:=I.pin p hp
  exact ⟨(sb.2 p.1 ne).trans e,n,ne,nf,d⟩
 ·refine (I.hok b ob e).stay (λc w' hc q=>(sb.2 c ?_).trans q) (λ_ q=>q) λ_ _ q=>q
  rintro rfl
  have fr:=I.free
  rcases hc with rfl|hc
  ·rw [fr] at e;cases e
  ·rw [fr] at hc;cases hc
section
variable {X:Cx}
abbrev zz5 (i:Nat) (D:J3):J3:={ nx:=λσ H=>D.nx (σ.set i none) H,rt:=D.rt,bk:=λσ H=>D.bk (σ.set i none) H,ct:=λσ H=>D.ct (σ.set i none) H }
theorem xp4 {y n:Str}{i:Nat}{np pos:Pos}{b0:Stmt}{suite:List Stmt}{X3:List ExceptHandler}{ts:Addr->TS}{C0 D0:Addr}{tl0 tlD:List Value}{n0 nD:String}(h0:zg9 X.K C0 tl0 n0)(hD:zg9 X.K D0 tlD nD)(hc:(Value.ref C0::tl0).contains (.ref D0)=true)
  (hg:Gl X y) (hm:X.mg y=some (.ref D0)) (hN:X.N.Nodup) (hi:X.N[i]?=some n) (hk:X.env.scope.names.lookup n=some .local) (hs:∀ea,PSs (xb2 X ea) (b0::suite) (ts ea)) (hdb:(y==("__debug__":Str))=false:=by decide) :
  PH X (.ExceptHandler (some (.Name y np)) (some n) (b0::suite) pos::X3) (λea C D σ H=>C=C0/\ts ea (zz5 i D) (σ.set i (some (.ref ea))) H):=by
 rintro pins σ H ea C s D G ⟨rfl,h⟩
 have I:=G.inv
 have Is:=I.sx ea
 obtain ⟨B,a0,fl,hH,all⟩:=id G
 obtain ⟨oe,vs,he,hcl,_,_⟩:=fl.first
 refine wpAny_handleBy_cons (codeAny_handlers_test (za7 Is hg hm ?_ hdb)) (by intro q;cases q)
 refine yb2 he hcl (h0.at I.kIn).1 (hD.at I.kIn).1 (hD.at I.kIn).2 hc ?_
 refine codeAny_handlers_suite_as ?_
 refine lands_againW fl λh2 fl2 u2=>?_
 have I2:Inv X pins σ H { s with heap:=h2,toks:=s.toks }:=all h2 s.toks fl2 u2
 refine D5 (X:=xb2 X ea) (v:=.ref ea) (I2.sx ea) hN hi (.inl hk) rfl (λs3 I3 _=>?_) (.inr hk)
 refine wpAny_mono (hs ea pins s3 _ H (zz5 i D) I3 h) (λf s4 h4=>?_) λ_ _ z=>z.elim
 have fin:∀{σ':St} {H':Hp} {R:St->Hp->Prop} {Q:Unit->Shared->Prop} {E:Value->Shared->Prop},Inv (xb2 X ea) pins σ' H' s4->R (σ'.set i none) H'->(∀s5,(∃σ5 H5,Inv X pins σ5 H5 s5/\R σ5 H5)->Q () s5)->wpAny (model X.prog X.w) X.A (do bindName X.env n .none;unbindBehindTheSuite X.env n pos) Q E s4 :=
  λI4 r q=>yt3 (I4.unsx I.ok) hN hi hk λs5 I5=>q s5 ⟨_,_,I5,r⟩
 cases f with
 | next =>
  obtain ⟨σ',H',I4,q4⟩:=h4
  exact fin (R:=D.nx) I4 q4 λs5 z=>z
 | brk =>
  obtain ⟨σ',H',I4,q4⟩:=h4
  exact fin (R:=D.bk) I4 q4 λs5 z=>z
 | cont =>
  obtain ⟨σ',H',I4,q4⟩:=h4
  exact fin (R:=D.ct) I4 q4 λs5 z=>z
 | ret u =>
  obtain ⟨v,σ',H',I4,r4,q4⟩:=h4
  refine fin (R:=λ_ H=>D.rt v H) I4 q4 λs5 ⟨σ5,H5,I5,q5⟩=>⟨v,σ5,H5,I5,r4,q5⟩
theorem zt0:R3 X (.builtin "isinstance") (λxs H Q=>∃ea C D,xs=[.ref ea,.ref D]/\H ea=some (yo8 ea C)/\W.isIn X.K (.ref C) D=true/\Q (.bl true) H):=by
 intro pins s σ H xs us Q I r h
 obtain ⟨ea,C,D,rfl,hH,hi,q⟩:=h
 obtain ⟨u1,u2,rfl,r1,r2⟩:=xb9 r
 cases r1
 cases r2
 obtain ⟨⟨o,ho,hc⟩,_⟩:=I.hok ea _ hH
 refine W.isi_call I.kIn (λM=>?_) hi (λz=>nomatch z) ⟨.bl true,H,I,rfl,q⟩
 exact hc ▸ (W.Looks.ld ho).andThen .now
end
structure yt5 (K:W.Frag) (mg:Str->Option Value) (TE:Addr):Prop where
 m:mg "TurnError"=some (.ref TE)
 c:zg9 K TE bmV "ValueError.__new__"
 v:mg "ValueError"=none
structure yt4 (K:W.Frag) (mg:Str->Option Value) (TE:Addr) (x:Str) (C:Addr):Prop where
 m:mg x=some (.ref C)
 c:zg9 K C (.ref TE::bmV) "ValueError.__new__"
 i:W.isIn K (.ref C) TE=true
mutual
inductive Dt (H:Hp):V->PyData->Prop
 | non:Dt H .non .none
 | bl (b:Bool):Dt H (.bl b) (.bool b)
 | int (i:Int):Dt H (.int i) (.int i)
 | str (x:Str):Dt H (.str x) (.str x)
 | lst {a:Addr} {xs:List V} {ds:List PyData}:H a=some (.lst xs)->Dts H xs ds->Dt H (.ref a) (.list ds)
 | tup {a:Addr} {xs:List V} {ds:List PyData}:H a=some (.tup xs)->Dts H xs ds->Dt H (.ref a) (.tuple ds)
 | dct {a:Addr}:H a=some (.dK [])->Dt H (.ref a) (.dict [])
inductive Dts (H:Hp):List V->List PyData->Prop
 | nil:Dts H [] []
 | cons {x:V} {d:PyData} {xs:List V} {ds:List PyData}:Dt H x d->Dts H xs ds->Dts H (x::xs) (d::ds)
end
mutual
theorem Dt.same {H H':Hp}(s:y4 H H'):∀{x:V} {d:PyData},Dt H x d->Dt H' x d
 | _,_,.non=>.non
 | _,_,.bl b=>.bl b
 | _,_,.int i=>.int i
 | _,_,.str x=>.str x
 | _,_,.lst h r=>.lst (s _ _ h) (Dts.same s r)
 | _,_,.tup h r=>.tup (s _ _ h) (Dts.same s r)
 | _,_,.dct h=>.dct (s _ _ h)
theorem Dts.same {H H':Hp}(s:y4 H H'):∀{xs:List V} {ds:List PyData},Dts H xs ds->Dts H' xs ds
 | _,_,.nil=>.nil
 | _,_,.cons h r=>.cons (Dt.same s h) (Dts.same s r)
end
theorem Dts.length {H:Hp}:∀{xs:List V} {ds:List PyData},Dts H xs ds->xs.length=ds.length
 | _,_,.nil=>rfl
 | _,_,.cons _ r=>by rw [az,az,Dts.length r]
theorem Dts.get {H:Hp}:∀{xs:List V} {ds:List PyData} {i:Nat} {x:V},Dts H xs ds->xs[i]?=some x->∃d,ds[i]?=some d/\Dt H x d
 | _,_,_,_,.nil,e=>by simp at e
 | _,_,0,_,.cons h _,e=>by simp at e;subst e;exact ⟨_,rfl,h⟩
 | _,_,i+1,x,.cons _ r,e=>by
  obtain ⟨d,h1,h2⟩:=Dts.get (i:=i) (x:=x) r (by simpa using e)
  exact ⟨d,by simpa using h1,h2⟩
def tyD:PyData->String
 | .none=>"NoneType"
 | .bool _=>"bool"
 | .int _=>"int"
 | .str _=>"str"
 | .list _=>"list"
 | .tuple _=>"tuple"
 | .dict _=>"dict"
theorem Dt.ty {K:W.Frag}{H:Hp}{x:V}{d:PyData}(h:Dt H x d):M7 K H x (.type (tyD d)):=by
 cases h with
 | non=>exact .non
 | bl b=>exact .bl b
 | int i=>exact .int i
 | str x=>exact .str x
 | lst h _=>exact .lst h
 | tup h _=>exact .tup h
 | dct h=>exact .dK h
section
variable {X:Cx}{e:Expr}{es:List Expr}{pos:Pos}{C:St->Hp->Prop}{d:PyData}{ds:List PyData}
def tDt (C:St->Hp->Prop)(d:PyData):TE:=λσ H Q=>C σ H/\∀v H',y4 H H'->Dt H' v d->Q v H'
def xg8 (C:St->Hp->Prop)(ds:List PyData):TA:=λσ H Q=>C σ H/\∀vs H',y4 H H'->Dts H' vs ds->Q vs H'
def xh2 (C:St->Hp->Prop):Prop:=∀σ H H',y4 H H'->C σ H->C σ H'
theorem PE.weak {t t':TE}(h:PE X e t)(k:∀σ H Q,t' σ H Q->t σ H Q):PE X e t':=λpins s σ H Q I q=>h pins s σ H Q I (k σ H Q q)
theorem PA.weak {t t':TA}(h:PA X es t)(k:∀σ H Q,t' σ H Q->t σ H Q):PA X es t':=λpos pins s σ H Q I q=>h pos pins s σ H Q I (k σ H Q q)
structure DE (X:Cx) (e:Expr) (t:TE):Prop where
 h:PE X e t
structure DA (X:Cx) (es:List Expr) (t:TA):Prop where
 h:PA X es t
structure DS (X:Cx) (st:Stmt) (t:TS):Prop where
 h:PS X st t
structure DSs (X:Cx) (st:List Stmt) (t:TS):Prop where
 h:PSs X st t
theorem n4 {st:Stmt}{X3:List Stmt}{t u:TS}(h1:DS X st t)(h2:DSs X X3 u):DSs X (st::X3) (xb4 t u):=⟨@z6 _ _ _ _ _ h1.h h2.h⟩
theorem xj3 {i:Nat}{x:Str}{te:TE}{pos':Pos}(hN:X.N.Nodup)(hi:X.N[i]?=some x)(hx:Loc X.env.scope x)(he:DE X e te)(hs:swapsWith e (some (.Name x pos')) pos.line X.env=pure false:=by rfl)(hf:X.fn x=true∨X.env.scope.names.lookup x=some .local:=by first|exact .inl rfl|exact .inr rfl|assumption) :
  DS X (.Assign [.Name x pos'] e pos) (yk0 te (p3 i)):=⟨y9 hN hi hx he.h hs hf⟩
theorem L0 {i j pos}:DE X (.Constant (.int i) j pos) (tDt C (.int i)):=⟨z8.weak λ_ H _ q=>q.2 _ H (y4.refl _) (.int i)⟩
theorem yb7 {H:Hp}{p:Addr}(hp:H p=none)(u:HO):y4 H (upd H p u):=λb o h=>by
 have hne:b≠p:=λz=>by rw [z,hp] at h;cases h
 show (if b=p then _ else _)=_
 rw [if_neg hne];exact h
theorem new_at {H:Hp}{p:Addr}(u:HO):upd H p u p=some u:=by show (if p=p then _ else _)=_;rw [if_pos rfl]
theorem zi0:DA X [] (xg8 C []):=⟨z4.weak λ_ H _ q=>q.2 [] H (y4.refl _) .nil⟩
theorem Z8 (hC:xh2 C)(he:DE X e (tDt C d))(hr:DA X es (xg8 C ds))(hs:starEach (e::es) X.env=(false,eval e X.env)::starEach es X.env:=by rfl):DA X (e::es) (xg8 C (d::ds)) :=
 ⟨(z0 he.h hr.h hs).weak λσ H Q q=>⟨q.1,λv H1 s1 hv=>⟨hC σ H H1 s1 q.1,λvs H2 s2 hvs=>q.2 (v::vs) H2 (s1.trans s2) (.cons (hv.same s2) hvs)⟩⟩⟩
theorem zv7 (h:DA X es (xg8 C ds))(hz:ds.length<=sizeLine):DE X (.List es pos) (tDt C (.list ds)) :=
 ⟨(b9 h.h).weak λ_ _ _ q=>⟨q.1,λvs H1 s1 hvs=>⟨by rw [hvs.length];exact hz,λp hp=>q.2 _ _ (s1.trans (yb7 hp _)) (.lst (new_at _) (hvs.same (yb7 hp _)))⟩⟩⟩
theorem yc2:OpR X (compareOp .Is) (λx y H Q=>∃a b,x=.bl a/\y=.bl b/\Q (.bl (decide (a=b))) H):=by
 intro pins s σ H x y v u Q I rx ry h
 obtain ⟨a,b,rfl,rfl,q⟩:=h
 cases rx
 cases ry
 exact PySem.wpAny_is_plain (by rfl) ⟨.bl (decide (a=b)),H,I,(by cases a <;> cases b <;> rfl),q⟩
theorem yc3:OpR X (compareOp .IsNot) (λx y H Q=>∃a b,x=.bl a/\y=.bl b/\Q (.bl (!decide (a=b))) H):=by
 intro pins s σ H x y v u Q I rx ry h
 obtain ⟨a,b,rfl,rfl,q⟩:=h
 cases rx
 cases ry
 exact PySem.wpAny_isNot_plain (by rfl) ⟨.bl (!decide (a=b)),H,I,(by cases a <;> cases b <;> rfl),q⟩
end
section
variable {prog:Program}{w:World}{A:Around}{E:Value->Shared->Prop}{s:Shared}
def gat (h:Heap)(vs:List Value):Heap:=(h.push (seqObj "list" #[] 0)).update h.objs.size (Obj.mapSeq (·++vs.toArray))
theorem zy7 {a:Addr}{vs:List Value}{R:List Value->Shared->Prop}(ht:IsTup s.heap a vs.toArray)(hz:vs.length<=sizeLine)(q:R vs { s with heap:=gat s.heap vs }):wpAny (model prog w) A (collect (.ref a)) R E s:=by
 obtain ⟨o,ho,hc,n,hd⟩:=ht
 have ho1:(s.heap.push (seqObj "list" #[] 0)).get? a=some o:=av _ ho
 have hn1:(s.heap.push (seqObj "list" #[] 0)).get? s.heap.objs.size=some (seqObj "list" #[] 0):=aG _ rfl
 unfold collect
 refine wpAny_bind (wpAny_runValue (codeAny_builtin entry_proto_collect' (wpAny_bind (m:=newList []) (wpAny_newList (wpAny_pure ⟨Code.quiet_builtin _ (by decide +kernel),codeAny_builtin entry_list_iadd' ?_⟩)))))
 show wpAny _ _ (Builtin.List.listExtendWith (.ref s.heap.objs.size) (.ref a) (.ref s.heap.objs.size)) _ _ { s with heap:=s.heap.push (seqObj "list" #[] 0) }
 (unfold Builtin.List.listExtendWith;refine wpAny_bind (wpAny_typeOf (T:="tuple") ⟨o,ho1,hc⟩ ?_))
 have hty:(Value.type "tuple" == Value.type "tuple")=true:=rfl
 rw [if_pos (show _=true by rw [hty,fQ])]
 refine wpAny_bind (listItems_at ho1 hd (wpAny_bind (listItems_at (xs:=#[]) (n:=0) hn1 rfl ?_)))
 rw [if_neg (show ¬_=true by simp)]
 refine wpAny_bind (listUpdate_at (xs:=#[]) (n:=0) hn1 rfl (wpAny_pure ?_) (aQ _) (by simp only [Array.size_append,aC,cn];show 0+vs.length<=_;lia))
 show wpAny (model prog w) A (load s.heap.objs.size >>= _) R E { s with heap:=gat s.heap vs }
 refine wpAny_bind (wpAny_load (get?_update_seq hn1 _) ?_)
 have e:((#[]:Array Value)++vs.toArray).toList=vs:=by simp
 exact wpAny_pure (e.symm ▸ q)
theorem zk3 (h:Heap)(vs:List Value):(gat h vs).objs.size=h.objs.size+1:=by unfold gat;rw [Heap.size_update,size_push']
theorem zh9 {h:Heap}{vs:List Value}{b:Addr}{o:Obj}(e:h.get? b=some o):(gat h vs).get? b=some o:=by
 have hlt:=aF e
 unfold gat
 rw [Heap.get?_update_ne _ _ _ _ (aS hlt),Heap.get?_push_ne _ _ _ (aS hlt)]
 exact e
theorem yj4 {a:Addr}{vs:List Value}{ns:List Int}{R:Value->Shared->Prop}(ht:IsTup s.heap a vs.toArray)(hI:IntsAre vs ns)(h64:vs.length<64)
  (q:∀(out:Array Value) (ms:List Int),IntsAre out.toList ms->ms.Perm ns->ms.Pairwise (·<=·)->R (.ref (gat s.heap vs).objs.size) { s with heap:=sortedHeap ((gat s.heap vs).push (seqObj "list" vs.toArray 0)) (gat s.heap vs).objs.size vs out }) :
  wpAny (model prog w) A (call (.builtin "sorted") [.ref a]) R E s:=by
 have hn:((gat s.heap vs).push (seqObj "list" vs.toArray 0)).get? (gat s.heap vs).objs.size=some (seqObj "list" vs.toArray 0):=aG _ rfl
 refine Calls.call_function_entry kind_sorted plain_sorted entry_sorted (args_sorted1 (.ref a)) ?_
 unfold Builtin.«sorted»
 refine wpAny_bind (m:=checkCount "sorted" 1 1 _) (wpAny_pure (wpAny_bind (zy7 ht (by rw [sizeLine_eq];lia) (wpAny_bind (wpAny_newList ?_)))))
 show wpAny _ _ _ _ _ { s with heap:=(gat s.heap vs).push (seqObj "list" vs.toArray 0) }
 refine wpAny_bind (wpAny_holding (wpAny_call_entry slot_list_sort ⟨_,hn,rfl⟩ entry_list_sort (list_sort_tree hn hI h64 λout ms a1 a2 a3=>⟨_,rfl,wpAny_pure ⟨_,rfl,q out ms a1 a2 a3⟩⟩) (args_list_sort _)))
end
section
variable {X:Cx}
theorem zt3:R3 X (.builtin "sorted") (λxs H Q=>∃(p:Addr) (ns:List Int),xs=[.ref p]/\SqT X.K H p (ns.map V.int)/\ns.length<64/\∀(l:Addr) (ms:List Int),H l=none->ms.Perm ns->ms.Pairwise (·<=·)->Q (.ref l) (upd H l (.lst (ms.map V.int)))):=by
 intro pins s σ H xs us Q I r h
 obtain ⟨p,ns,rfl,hq,h64,q⟩:=h
 obtain ⟨u,rfl,rx⟩:=M5 r
 cases rx
 obtain ⟨its,r1,p1,hz⟩:=I.tuple hq
 have l1:=r1.length
 rw [ae] at l1 hz
 refine yj4 p1 (W4 r1) (by lia) λout ms a1 a2 a3=>?_
 have hl:=a2.length_eq
 have hsz:=zk3 s.heap its
 obtain ⟨e,he⟩:=sortedHeap_at (vs:=its) (out:=out) (n:=0) (show ((gat s.heap its).push (seqObj "list" its.toArray 0)).get? (gat s.heap its).objs.size=some (seqObj "list" its.toArray 0) from aG _ rfl)
 have hold:∀b o,s.heap.get? b=some o->(sortedHeap ((gat s.heap its).push (seqObj "list" its.toArray 0)) (gat s.heap its).objs.size its out).get? b=some o:=λb o z=>by
  have hlt:=aF z
  have h1:b<(gat s.heap its).objs.size:=hsz.symm ▸ dN hlt
  rw [sortedHeap_old (aS h1) (by rw [size_push'];exact dN h1),Heap.get?_push_ne _ _ _ (aS h1)]
  exact zh9 z
 refine ⟨.ref (gat s.heap its).objs.size,_,I.laid (t':=s.toks) hold (by lia) (show n8 X.prog X.w _ _ _ (.lst (ms.map V.int)) from ⟨by rw [ae];lia,out.toList,e,D7 a1,by simpa using he⟩),rfl,q _ ms (I.hok.fresh (by lia)) a2 a3⟩
end
section
variable {X:Cx}{pins:List (Addr×Obj)}{σ:St}{H:Hp}{s:Shared}
mutual
theorem Dt.reads (I:Inv X pins σ H s):∀{x:V} {d:PyData},Dt H x d->∀u,o6 x u->∃as,Reads s.heap u d as
 | _,_,.non,u,r=>by cases (show u=Value.none from r);exact ⟨_,.none⟩
 | _,_,.bl b,u,r=>by cases (show u=Value.bool b from r);exact ⟨_,.bool b⟩
 | _,_,.int i,u,r=>by obtain ⟨t,rfl⟩:=(show ∃t,u=Value.int i t from r);exact ⟨_,.int i t⟩
 | _,_,.str x,u,r=>by obtain ⟨t,rfl⟩:=(show ∃t,u=Value.str x t from r);exact ⟨_,.str x t⟩
 | _,_,.lst h hs,u,r=>by
  cases (show u=Value.ref _ from r)
  obtain ⟨its,rv,p,_⟩:=I.list (SqL.of h)
  obtain ⟨o,ho,hc,n,hd⟩:=p.isList
  obtain ⟨as,ha⟩:=Dts.reads I hs its rv
  exact ⟨_,.list ho hc hd (by simpa using ha)⟩
 | _,_,.tup h hs,u,r=>by
  cases (show u=Value.ref _ from r)
  obtain ⟨its,rv,p,_⟩:=I.tuple (SqT.of h)
  obtain ⟨o,ho,hc,n,hd⟩:=p
  obtain ⟨as,ha⟩:=Dts.reads I hs its rv
  exact ⟨_,.tuple ho hc hd (by simpa using ha)⟩
 | _,_,.dct h,u,r=>by
  cases (show u=Value.ref _ from r)
  obtain ⟨_,_,vs,kv,o,es,ep,h1,h2,h3,_,h4,_⟩:=(show n8 X.prog X.w H s.heap _ (.dK []) from I.hok _ _ h)
  cases kv
  have h5:es.toList=[]:=eN h4.length
  exact ⟨_,.dict (kvs:=[]) h1 h2.1 h3 (by rw [h5];exact .nil) (by rw [h5];exact .nil)⟩
theorem Dts.reads (I:Inv X pins σ H s):∀{xs:List V} {ds:List PyData},Dts H xs ds->∀us,p9 xs us->∃as,ReadsAll s.heap us ds as
 | _,_,.nil,us,r=>by cases r;exact ⟨_,.nil⟩
 | _,_,.cons h hs,us,r=>by
  cases r with
  | cons r1 r2 =>
   obtain ⟨as,ha⟩:=Dt.reads I h _ r1
   obtain ⟨bs,hb⟩:=Dts.reads I hs _ r2
   exact ⟨_,.cons ha hb⟩
end
def nw (H H':Hp):Hp:=λb=>match H b with
 | none=>H' b
 | some _=>none
section
variable {e:Expr}{es:List Expr}{pos:Pos}{C:St->Hp->Prop}{d:PyData}{ds:List PyData}
end
end
section
end
section
variable {P:Program}{w:World}{K:W.Frag}{mg:Str->Option Value}{base:Heap}{N:List Str}{qual:Str}{scope:Scope}{f:Addr}{cd:Value}{A:Around}{outer:List Env}{s s1:Shared}{H H1:Hp}{E:XK}{pins:List (Addr×Obj)}{σ:St}
end
section
variable {P:Program}{w:World}{K:W.Frag}{mg:Str->Option Value}{base:Heap}{N:List Str}{qual:Str}{scope:Scope}{f:Addr}{cd:Value}{A:Around}{outer:List Env}{s:Shared}{H:Hp}{E:XK}
end
section
variable {M:Model}{A:Around}{E:Value->Shared->Prop}{s:Shared}{env:Env}
end
section
variable {X:Cx}{E:XK}{own:Nat}{fr:List Nat}{N':List Str}{tg iter elt:Expr}{scope:Scope}{pos:Pos}{wi:TI}{g:CT TG}{te:CT TE}
end
def XEp (X:Cx)(pins:List (Addr×Obj))(EX:St->XK):Value->Shared->Prop:=λe s'=>∃(σ:St) (H:Hp) (s:Shared),Inv X pins σ H s/\CX1 X.prog X.w X.stack H s (EX σ) e s'
def QS (X:Cx)(st:Stmt)(t:(St->XK)->TS):Prop:=∀(pins:List (Addr×Obj)) (s:Shared) (σ:St) (H:Hp) (D:J3) (EX:St->XK),Inv X pins σ H s->t EX D σ H->wpAny (model X.prog X.w) X.A (exec st X.env) (SP X pins D) (XEp X pins EX) s
def QSs (X:Cx)(st:List Stmt)(t:(St->XK)->TS):Prop:=∀(pins:List (Addr×Obj)) (s:Shared) (σ:St) (H:Hp) (D:J3) (EX:St->XK),Inv X pins σ H s->t EX D σ H->wpAny (model X.prog X.w) X.A (execs st X.env) (SP X pins D) (XEp X pins EX) s
section
variable {X:Cx}
theorem xf5:QSs X [] (λ_ D σ H=>D.nx σ H):=λ_ _ σ H _ _ I h=>wpAny_execs_nil ⟨σ,H,I,h⟩
theorem yz1 {st:Stmt}{X3:List Stmt}{t u:(St->XK)->TS}(h1:QS X st t)(h2:QSs X X3 u):QSs X (st::X3) (λEX=>xb4 (t EX) (u EX)):=by
 intro pins s σ H D EX I h
 refine wpAny_execs_cons (thn (h1 pins s σ H { D with nx:=u EX D } EX I h) λfl s1 q=>?_)
 cases fl with
 | next =>
  obtain ⟨σ',H',I',q⟩:=q
  exact h2 pins s1 σ' H' D EX I' q
 | ret v=>exact q
 | brk=>exact q
 | cont=>exact q
theorem xf3 {body:List Stmt}{tb:(St->XK)->TS}{h0:ExceptHandler}{hs:List ExceptHandler}{th:Addr->Addr->TS}{pos:Pos}(hb:QSs X body tb)(hh:PH X (h0::hs) th)(hst:X.stack=X.env::X.outer)(hfr:X.env.frame=some X.env.locals) :
  PS X (.Try body (h0::hs) [] [] pos) (λD σ H=>∃EX:St->XK,tb EX D σ H/\∀(σ':St) (ea C:Addr) (H':Hp),EX σ' (.ref C) none H'->H' ea=none->th ea C D σ' (upd H' ea (yo8 ea C))):=by
 rintro pins s σ H D I ⟨EX,h1,h2⟩
 refine wpAny_Try_except (wpAny_mono (hb pins s σ H D EX I h1) (λfl s1 q=>?_) λex s' ⟨σ',H',s2,I',hx⟩=>?_)
 ·cases fl with
  | next=>exact wpAny_execs_nil q
  | ret u=>exact q
  | brk=>exact q
  | cont=>exact q
 ·exact yu2 I' hst hfr hx λea C H2 s3 _ cg hn hE=>hh pins σ' _ ea C s3 D cg (h2 σ' ea C H2 hE hn)
end
section
end
section
variable {X:Cx}
theorem xe6 (hu:X.A.units+65<cLine):OpR X (compareOp .In) (λx y H Q=>∃(a:Addr) (xs:List V) (ds:List PyData) (d:PyData),y=.ref a/\H a=some (.lst xs)/\Dts H xs ds/\Dt H x d/\PySem.SeqAt.shaped (.list ds)=true/\PySem.SeqAt.shaped d=true/\Q (.bl (ds.any λe=>PyData.eqv e d)) H):=by
 intro pins s σ H x y v u Q I rx ry h
 obtain ⟨a,xs,ds,d,rfl,ha,hs,hd,s1,s2,q⟩:=h
 obtain ⟨as,ra⟩:=(Dt.lst ha hs).reads I u ry
 obtain ⟨bs,rb⟩:=hd.reads I v rx
 exact PySem.SeqAt.in_list_reads ra rb (PySem.SeqAt.canLay_of_shaped s1) (PySem.SeqAt.canLay_of_shaped s2) (room_in_shaped s2 hu) ⟨.bl _,H,I,rfl,q⟩
end
section
variable {X:Cx}{tg:Expr}
end
open PySem.W PySem.Builtin PySem.Builtin.ObjectAttr PySem.Builtin.Getset_descriptor
section
variable {X:Cx}
theorem xn8 {a b:Expr}{ta tb:TE}{r:R2}{pos:Pos}(hr:IxR X r)(ha:DE X a ta)(hb:PE X b tb)(hs:yk5 b):DE X (.Subscript a b pos) (tOp r ta tb):=⟨l9 hr ha.h hb hs⟩
end
section
variable {prog:Program}{w:World}{A:Around}{E:Value->Shared->Prop}{s:Shared}{K:W.Frag}{x C:Addr}{o:Obj}
end
section
variable {X:Cx}
end
end L2
namespace Tb.ST
open PySem PySem.SetTable
def adv (mask:Nat)(p:Probe):Probe:=if p.more > 0 then { p with j:=p.j+1,more:=p.more-1 } else
 {p with j:=(leap mask p.i p.perturb).1,more:=runEnd mask (leap mask p.i p.perturb).1-(leap mask p.i p.perturb).1,i:=(leap mask p.i p.perturb).1,perturb:=(leap mask p.i p.perturb).2 }
def start (mask:Nat)(h:Int):Probe:={ j:=bits h % (mask+1),more:=runEnd mask (bits h % (mask+1))-bits h % (mask+1),i:=bits h % (mask+1),perturb:=bits h,dummy:=none }
def go (mask:Nat):Nat->Probe->Probe
 | 0,p=>p
 | q+1,p=>go mask q (adv mask p)
def lc (M x:Nat):Nat:=(x*5+1) % M
def lcs (M:Nat):Nat->Nat->Nat
 | 0,x=>x
 | k+1,x=>lcs M k (lc M x)
def xi0 (M:Nat):Nat->Nat->List Nat
 | 0,_=>[]
 | k+1,x=>lc M x::xi0 M k (lc M x)
def zz9 (M:Nat):Bool:=((List.range M).all λe=>(xi0 M M 0).contains e)&&lcs M M 0==0
end Tb.ST
namespace Tb.ST
open PySem PySem.SetTable
theorem za2 {α:Type}{l:List α}{p i:Nat}{x:α}(hp:p<=l.length):(l.take p++x::l.drop p)[i]?=if i<p then l[i]? else if i=p then some x else l[i-1]?:=by
 have ht:(l.take p).length=p:=by rw [aT];lia
 by_cases h1:i<p
 ·rw [if_pos h1,aN (by lia),bW h1]
 ·rw [if_neg h1,bd (by lia),ht]
  by_cases h2:i=p
  ·rw [if_pos h2,h2,cz];rfl
  ·rw [if_neg h2,show i-p=(i-p-1)+1 by lia,List.getElem?_cons_succ,cY,show p+(i-p-1)=i-1 by lia]
end Tb.ST
namespace Tb.ST
open PySem PySem.SetTable
def Fr (owner:Array (Option Nat))(j:Nat):Prop:=(owner.getD j (some 0)).isNone=true
end Tb.ST
namespace L2
open PySem PySem.Spec PyProof.Rows
section
variable {prog:Program}{w:World}{K:Type}[DecidableEq K]{knd:KeyKind prog w K}{A:Around}{E:Value->Shared->Prop}{s:Shared}
end
section
variable {X:Cx}
theorem zs5:∀{as:List Addr} {us:List Value},p9 (as.map V.ref) us->us=as.map Value.ref
 | [],_,r=>by rw [dQ] at r;cases r;rfl
 | a::as,_,r=>by
  rw [aR] at r
  cases r with
  | cons h t =>
   cases h
   rw [zs5 t]
   rfl
end
section
variable {prog:Program}{w:World}{A:Around}{E:Value->Shared->Prop}{s:Shared}
variable {I Z:Addr}{fp wr:List Addr}{G:Array GenState->Array GenState->Prop}{n:Nat}{P:Nat->Value->Prop}{St:Nat->Shared->Prop}{R:Result->Shared->Prop}
end
section
variable {X:Cx}
end
section
variable {prog:Program}{w:World}{A:Around}{E:Value->Shared->Prop}{s:Shared}
theorem o0 {α β:Type}{F:α->β->Prop}:∀{as:List α} {bs:List β},Paired F as bs->∀(i:Nat) (a:α) (b:β),as[i]?=some a->bs[i]?=some b->F a b
 | _,_,.nil,i,a,b,h,_=>by cases i <;> cases h
 | _,_,.cons f _,0,a,b,h,h'=>by
  cases h
  cases h'
  exact f
 | _,_,.cons _ r,i+1,a,b,h,h'=>o0 r i a b (by simpa using h) (by simpa using h')
end
section
variable {X:Cx}
end
def Z1 (P:Program)(w:World)(K:W.Frag)(mg:Str->Option Value)(base:Heap)(k:Nat)(C:Addr)(m:Str)(ps:List Str)(sp:Sp):Prop :=
 ∃f fd,p6 P w K mg base CX0 k f fd ps sp/\yt7 K C m f/\O2 K fd ps []
def xc2 (P:Program)(w:World)(K:W.Frag)(mg:Str->Option Value)(base:Heap)(k:Nat)(C:Addr)(m:Str)(ps:List Str)(sp:Sp):Prop :=
 ∃f fd,p6 P w K mg base (CX1 P w) k f fd ps sp/\yt7 K C m f/\O2 K fd ps []
section
variable {X:Cx}{C:Addr}{k j:Nat}{m:Str}{ps:List Str}{sp:Sp}{o e:Expr}{es:List Expr}{ta:TE}{t:TA}{apos pos cpos:Pos}{pl:Sem Bool}
theorem c5 (c:Cls X.K C)(kn:Z1 X.prog X.w X.K X.mg X.base k C m ps sp)(hr:X8 j X.A)(ho:PE X o ta)(ha:PA X (e::es) t)(hj:k<=j:=by decide)
  (hst:starEach (e::es) X.env=(false,eval e X.env)::starEach es X.env:=by rfl) (hpl:(backTo pos (starEach es X.env)).any (·.1)=false:=by rfl)
  (ht:eval (.Call (.Attribute o m apos) (e::es) [] pos) X.env=(do
   let v ←eval o X.env
   standAt apos.atName
   let (f,first) ←holding [v] (getMethod v m pl)
   callWith pos f first (backTo pos (starEach (e::es) X.env)) (backToKw pos (keywordEach [] X.env))):=by rfl):PE X (.Call (.Attribute o m apos) (e::es) [] pos) (yo4 C m sp [] E0 ta t):=by
 obtain ⟨f,fd,G,hm,hb⟩:=kn
 exact xf1 ho c hm G (hr.mono hj) hb .nil ym4 ha hst hpl ht
end
section
variable {P:Program}{w:World}{K:W.Frag}{mg:Str->Option Value}{base:Heap}{N:List Str}{qual:Str}{scope:Scope}{f:Addr}{cd:Value}{A:Around}{outer:List Env}{s:Shared}{H:Hp}{E:XK}
end
section
variable {prog:Program}{w:World}{A:Around}{E:Value->Shared->Prop}{s:Shared}
end
section
variable {X:Cx}
end
section
variable {X:Cx}
end
section
variable {X:Cx}
end
section
variable {prog:Program}{w:World}{A:Around}{E:Value->Shared->Prop}{s:Shared}
def two (x y:Int)(i:Nat):Int:=if i=0 then x else y
end
section
variable {X:Cx}
end
section
variable {X:Cx}{pos:Pos}
def xr8 (K:W.Frag)(n:Nat)(t:TGs):TG:=λv σ H Q=>∃a xs,v=.ref a/\SqL K H a xs/\xs.length=n/\t xs σ H Q
theorem xm1 {es:List Expr}{k:Nat}{t:TGs}{n:Nat}(hc:X.calm=true)(h:PGs X es t)
  (hn:(assignEach es X.env).length=n:=by rfl) (hst:(assignEach es X.env).findIdx? (·.1)=none:=by rfl):PG X (.Tuple es k pos) (xr8 X.K n t):=by
 intro pins s σ H v u Q I r hw
 obtain ⟨a,xs,e1,hq,hl,hw⟩:=hw
 subst e1
 cases r
 obtain ⟨its,rv,ht,hz⟩:=I.list hq
 have hsz:(assignEach es X.env).length=its.toArray.size:=by simp [hn,←hl,rv.length]
 rw [assign_Tuple]
 refine wpAny_bind (wpAny_standAt ?_)
 unfold unpack
 rw [hsz,hst]
 refine wpAny_bind (wpAny_holding (W.kun_itemsOf (I.ok.hd hc) ht.isList λh' hx=>?_))
 have I1:Inv X pins σ H { s with heap:=h' }:=I.kept (t':=s.toks) λb o e=>hx b o (aS (aF e)) e
 exact h pins _ σ H xs _ Q I1 (by simpa using rv) hw
end
section
variable {P:Program}{w:World}{K:W.Frag}{mg:Str->Option Value}{base:Heap}{f:Addr}{fd:FuncData}{ps:List Str}{k:Nat}
theorem p6.calm {sp:Sp}(F:p6 P w K mg base (CX1 P w) k f fd ps sp):p6 P w K mg base CX0 k f fd ps (λvs H Q _=>sp vs H Q E0) :=
 ⟨λvs H Q _ h=>F.len vs H Q E0 h,λA outer s H args us vs Q E hr he hb hv hs=>codeAny_mono (F.run A outer s H args us vs Q E0 hr he hb hv hs) λr s' h=>by
  cases r with
  | ok fl=>cases fl <;> exact h
  | error e =>
   obtain ⟨ea,C,a0,B,H',_,_,_,_,_,_,_,_,_,_,_,_,hE⟩:=h
   exact hE.elim⟩
end
theorem xp1 {k:Key}{u:Value}(h:zk7 k u=true):o6 (kV k) u:=by
 rcases g6 h with ⟨i,t,rfl,rfl⟩|⟨x,t,rfl,rfl⟩
 ·exact ⟨t,rfl⟩
 ·exact ⟨t,rfl⟩
section
variable {X:Cx}{pins:List (Addr×Obj)}{σ:St}{H:Hp}{s:Shared}
theorem Inv.freeze {a:Addr}{kvs:List (Key×V)}{ob:Obj}(I:Inv X pins σ H s)(e:H a=some (.dK kvs))(ho:s.heap.get? a=some ob):Inv X pins σ (upd H a (.frz ob (.dK kvs))) s:=by
 have mu:Mut (H a):=by rw [e];exact True.intro
 refine Inv.write (t':=s.toks) (o:=.frz ob (.dK kvs)) I mu (.inl rfl) (λ_ _ _ q=>q) ⟨ob,ho⟩ ⟨ho,?_⟩
 refine (I.hok a _ e).stay (λ_ _ _ q=>q) (λb q=>?_) λb xs q=>?_
 ·rw [z7 (i8 q e (by intro z;cases z))];exact q
 ·rw [z7 (i8 q e (by intro z;cases z))];exact q
theorem Inv.thaw {a:Addr}{kvs:List (Key×V)}{ob:Obj}(I:Inv X pins σ H s)(e:H a=some (.frz ob (.dK kvs)))(hnf:∀o u,X.H₀ a≠some (.frz o u)):Inv X pins σ (upd H a (.dK kvs)) s:=by
 have ne:∀b o,H b=some o->o≠.frz ob (.dK kvs)->b≠a:=λb o q d=>i8 q e d
 have nen:∀b,H b=none->b≠a:=λb q z=>by subst z;rw [q] at e;cases e
 refine ⟨I.ok,I.os,I.bare,⟨I.base.keep,I.base.slot,λb o q n hx=>?_,I.base.there,λb xs q=>?_,λb o u q=>?_,λb ps q=>?_⟩,I.loc,I.cell,?_,λx c q=>?_,λp hp=>?_,λb u q=>?_,I.len⟩
 ·have r:=I.base.free b o q n hx
  rw [z7 (nen b r)];exact r
 ·have r:=I.base.tups b xs q
  rw [z7 (ne b _ r (by intro z;cases z))];exact r
 ·have r:=I.base.frzs b o u q
  have hb:b≠a:=λz=>by subst z;exact hnf o u q
  rw [z7 hb];exact r
 ·obtain ⟨m,r⟩:=I.base.tbls b ps q
  exact ⟨m,by rw [z7 (ne b _ r (by intro z;cases z))];exact r⟩
 ·rw [z7 (nen _ I.free)];exact I.free
 ·rw [z7 (nen _ (I.freeC x c q))];exact I.freeC x c q
 ·obtain ⟨h1,h2,h3,h4,h5⟩:=I.pin p hp
  exact ⟨h1,by rw [z7 (nen _ h2)];exact h2,h3,h4,h5⟩
 ·by_cases hb:b=a
  ·subst hb
   rw [z5] at q
   cases q
   obtain ⟨_,r⟩:=I.hok b _ e
   refine r.stay (λ_ _ _ q=>q) (λc q=>?_) λc xs q=>?_
   ·rw [z7 (ne c _ q (by intro z;cases z))];exact q
   ·rw [z7 (ne c _ q (by intro z;cases z))];exact q
  ·rw [z7 hb] at q
   refine (I.hok b u q).stay (λ_ _ _ q=>q) (λc q=>?_) λc xs q=>?_
   ·rw [z7 (ne c _ q (by intro z;cases z))];exact q
   ·rw [z7 (ne c _ q (by intro z;cases z))];exact q
theorem Inv.nofrz {a:Addr}{kvs:List (Key×V)}(I:Inv X pins σ H s)(e:H a=some (.dK kvs)):∀o u,X.H₀ a≠some (.frz o u):=λo u q=>by
 have r:=I.base.frzs a o u q
 rw [e] at r
 cases r
end
def ItK (ob:Obj)(d:Addr)(kvs:List (Key×V)):It :=
 ⟨λi H=>H d=some (.frz ob (.dK kvs))/\i<kvs.length,λi H x H'=>H'=H/\∃k v,kvs[i]?=some (k,v)/\x=kV k,λi H=>H d=some (.frz ob (.dK kvs))/\kvs.length<=i⟩
theorem yl3 {P:Program}{w:World}{H:Hp}{h:Heap}{d:Addr}{ob:Obj}{kvs:List (Key×V)}{ep:Nat}(ok:HOk P w H h)(hep:∃es,ob.data=.dict es ep)(e:H d=some (.frz ob (.dK kvs))) :
  ∃vs,KV kvs vs/\h.DictAt (c0 P w) d vs ep:=by
 obtain ⟨ho,_,_,vs,rel,o,es,ep',ho',hx,hd,r⟩:=ok d _ e
 rw [ho] at ho'
 cases ho'
 obtain ⟨es',he⟩:=hep
 rw [he] at hd
 cases hd
 exact ⟨vs,rel,ob,_,ho,hx,he,r⟩
theorem xh9 {κ:Type}:∀{kvs:List (κ×V)} {vs:List (κ×Value)},KV kvs vs->∀{i:Nat} {k:κ} {v:V},kvs[i]?=some (k,v)->∃u,vs[i]?=some (k,u)/\o6 v u
 | _,_,.nil,i,k,v,h=>by cases i <;> cases h
 | _,_,.cons (b:=q) f _,0,k,v,h=>by
  obtain ⟨k',u⟩:=q
  cases h
  obtain ⟨e,r⟩:=f
  cases e
  exact ⟨u,rfl,r⟩
 | _,_,.cons _ r,i+1,k,v,h=>by
  obtain ⟨u,hu,f⟩:=xh9 r (i:=i) (by simpa using h)
  exact ⟨u,by simpa using hu,f⟩
theorem yt0 {P:Program}{w:World}{K:W.Frag}{tg:Expr}(ob:Obj)(d it:Addr)(kvs:List (Key×V))(ep:Nat)(hep:∃es,ob.data=.dict es ep):zy2 P w K tg (ItK ob d kvs) [it] it (λi h=>h.IsKeyIter it d i kvs.length ep) where
 mem:=by simp
 obj:=λi h st b hb=>by
  have e:b=it:=by simpa using hb
  subst e
  obtain ⟨o,e,c,d⟩:=st
  exact ⟨o,e,λv z=>by rw [d] at z;cases z⟩
 keep:=λi h h' st k=>by
  obtain ⟨o,e,r⟩:=st
  exact ⟨o,k it (by simp) o e,r⟩
 item:=by
  intro X hP hw hK hc i pins s σ H E I hf st hg
  subst hP hw hK
  obtain ⟨e,hi⟩:=hg
  obtain ⟨vs,rel,da⟩:=yl3 I.hok hep e
  have hx:kvs[i]?=some (kvs[i].1,kvs[i].2):=aa hi
  obtain ⟨u,hu,_⟩:=xh9 rel hx
  obtain ⟨f0,f1,f2,f3,f4,f5⟩:=hf it (by simp)
  have st2:s.heap.IsKeyIter it d i vs.length ep:=by rw [←rel.length];exact st
  refine wpAny_pyNext_dict_item st2 da hu λkey h' hk st' sb=>?_
  rw [←rel.length] at st'
  have I1:Inv X pins σ H { s with heap:=h' }:=I.turned (t':=s.toks) (λb o hb e=>(sb.2 b hb).trans e) f0 f1 f3 f4 f5
  obtain ⟨o,e2,c,dd⟩:=id st'
  exact ⟨key,rfl,zr0 (s:={ s with heap:=h' }) e2 c dd (by decide) ⟨kV kvs[i].1,H,I1,xp1 hk,⟨rfl,_,_,hx,rfl⟩,st',λb hb=>(hf b hb).1⟩⟩
 done:=by
  intro X hP hw hK hc i pins s σ H E I hf st hg
  subst hP hw hK
  obtain ⟨e,hi⟩:=hg
  obtain ⟨vs,rel,da⟩:=yl3 I.hok hep e
  obtain ⟨f0,f1,f2,f3,f4,f5⟩:=hf it (by simp)
  have st2:s.heap.IsKeyIter it d i vs.length ep:=by rw [←rel.length];exact st
  exact wpAny_pyNext_dict_end (I.ok.hd hc) st2 da (aU (by rw [←rel.length];exact hi)) λh' eb=>⟨rfl,I.turned (t':=s.toks) (λb o hb e=>eb b o hb e) f0 f1 f3 f4 f5⟩
 self:=λ_ _ _ _ _ st h=>wpAny_pyIter_keyiter st h
section
variable {X:Cx}{tg:Expr}
def xo5 (td:TE):TI:=λσ H R=>td σ H λx H1=>∃d kvs,x=.ref d/\H1 d=some (.dK kvs)/\∀ob,R (ItK ob d kvs) (upd H1 d (.frz ob (.dK kvs)))
theorem zw0 {l:Expr}{td:TE}(hl:PE X l td):PI X tg l (xo5 td):=by
 intro pins s σ H R I h
 refine thn (hl pins s σ H _ I h) λv s1 ⟨x,H1,I1,r1,q1⟩=>?_
 obtain ⟨d,kvs,e,hd,q⟩:=q1
 subst e
 cases r1
 obtain ⟨hz,hs,vs,rel,dd⟩:=yu9 I1.hok hd
 obtain ⟨ep,da⟩:=dd.dictAt
 obtain ⟨ob,es,ho,hx,hdat,r⟩:=id da
 have I2:=I1.freeze hd ho
 refine wpAny_pyIter_dict hs da ?_
 rw [←rel.length]
 refine ⟨s1.heap.objs.size,[s1.heap.objs.size],_,_,_,rfl,I2.kept (t':=s1.toks) λb o e=>av _ e,yt0 ob d _ kvs ep ⟨es,hdat⟩,⟨_,aG _ rfl,rfl,rfl⟩,λb hb=>?_,q ob⟩
 have e:b=s1.heap.objs.size:=by simpa using hb
 subst e
 exact I2.fpOk (af _) (I2.hok.fresh (af _))
def xr0 (t:TE):TE:=λσ H Q=>∃d kvs,H d=some (.dK kvs)/\t σ H λv H'=>(∃ob,H' d=some (.frz ob (.dK kvs)))/\Q v (upd H' d (.dK kvs))
theorem ym6 {e:Expr}{t:TE}(h:PE X e t):PE X e (xr0 t):=by
 intro pins s σ H Q I hw
 obtain ⟨d,kvs,hd,q⟩:=hw
 have nf:=I.nofrz hd
 refine thn (h pins s σ H _ I q) λv s1 ⟨x,H1,I1,r1,⟨ob,hf⟩,q1⟩=>?_
 exact ⟨x,_,I1.thaw hf nf,r1,q1⟩
theorem yp1 {ob:Obj}{d:Addr}{kvs:List (Key×V)}{fr:List Nat}{te:CT TE}{σ:St}{H1:Hp}{Q:Addr->Hp->Prop}(hS:H1 d=some (.frz ob (.dK kvs)))(ys:List V)(hn:ys.length=kvs.length)(hz:kvs.length<=sizeLine)
  (turn:∀(i:Nat) H k v,kvs[i]?=some (k,v)->y4 H1 H->∀C₀ s₀ H₀ fp,te C₀ s₀ H₀ fp (some (kV k)::fr.map λj=>(σ[j]?).getD none) H λy H4=>y4 H H4/\ys[i]?=some y)
  (fin:∀D H,H1 D=none->y4 H1 H->H D=some (.lst ys)->Q D H) :
  ∀D,H1 D=none->∃W:Nat->Nat->St->Hp->Prop,(∃m,W 0 m (V0 1 fr σ) (upd H1 D (.lst [])))/\∀i m σ' H',W i m σ' H' ->
  ((ItK ob d kvs).stop i H'/\Q D H')∨((ItK ob d kvs).go i H'/\∀x H2,(ItK ob d kvs).yld i H' x H2->∀C₀ s₀ H₀ fp,p3 0 x σ' H2 λσ3 H3=>∃N:VK,te C₀ s₀ H₀ fp σ3 H3 N/\∀y H4,N y H4 ->
   ∃ys m',H4 D=some (.lst ys)/\ys.length<sizeLine/\m'<m/\W (i+1) m' σ3 (upd H4 D (.lst (ys++[y])))) :=
 E7 ys hn hz (λH s=>⟨s _ _ hS,af _⟩) (λi H hi s=>⟨s _ _ hS,hi⟩) (λi H x H2 hi s y=>⟨y.1,by obtain ⟨k,v,hk,rfl⟩:=y.2;exact turn i H k v hk s⟩) fin
end
def yf4 (P:Program)(w:World)(K:W.Frag)(mg:Str->Option Value)(base:Heap)(k:Nat)(C:Addr)(x:Str)(ps:List Str)(sp:Sp):Prop :=
 ∃f fd,p6 P w K mg base CX0 k f fd ps sp/\Mk K C f/\mg x=some (.ref C)/\O2 K fd ps []
section
variable {X:Cx}{C:Addr}{k j:Nat}{x:Str}{ps:List Str}{sp:Sp}{e:Expr}{es:List Expr}{t:TA}{p pos:Pos}
theorem zm2 (kn:yf4 X.prog X.w X.K X.mg X.base k C x ps sp)(hr:X8 j X.A)(hg:Gl X x)(ha:PA X (e::es) t)(hj:k+1<=j:=by decide)(hdb:(x==("__debug__":Str))=false:=by decide)
  (he:starEach (e::es) X.env=(false,eval e X.env)::starEach es X.env:=by rfl) (hpl:(backTo pos (starEach es X.env)).any (·.1)=false:=by rfl):PE X (.Call (.Name x p) (e::es) [] pos) (xi6 C sp [] E0 t):=by
 obtain ⟨f,fd,G,hM,hm,hb⟩:=kn
 exact xf0 hM G (hr.mono hj) hg hm hb .nil ym4 ha hdb he hpl
def ipM:TIp:=λx y H Q=>∃i j,x=.int i/\y=.int j/\xc1 i j/\Q (.int (i*j)) H
theorem xj8:PIp X .Mult ipM:=by
 intro pins s σ H x y v u Q I r1 r2 h
 obtain ⟨i,j,e1,e2,hc,q⟩:=h
 subst e1;subst e2
 obtain ⟨t,rfl⟩:=r1
 obtain ⟨t',rfl⟩:=r2
 exact imul_int ⟨.int _,H,I.tok _,⟨_,rfl⟩,q⟩ hc.ok
end
section
variable {prog:Program}{w:World}{A:Around}{E:Value->Shared->Prop}{s:Shared}
end
section
variable {X:Cx}
end
def xg7 (tk tv:TE):TE:=λσ H Q=>∀p,H p=none->tk σ (upd H p (.dT [])) λx H1=>tv σ H1 λy H2=>H2 p=some (.dT [])/\∃(ks:List Key) (b:Addr),x=.ref b/\H2 b=some (.tup (ks.map kV))/\Q (.ref p) (upd H2 p (.dT [(ks,y)]))
theorem yr6 {X:Cx}{pos:Pos}{k v:Expr}{tk tv:TE}(hu:X.A.units+1<cLine)(hk:PE X k tk)(hv:PE X v tv):PE X (.Dict [some k] [v] pos) (xg7 tk tv):=by
 intro pins s σ H Q I q
 have hn:=I.hok.fresh (af s.heap.objs.size)
 have I1:=I.laid (a:=s.heap.objs.size) (o:=.dT []) (h':=s.heap.push { cls:=.type "dict",data:=.dict #[] }) (t':=s.toks) (λ_ _ q=>av _ q) (af _) (yv1 s.heap I.big)
 have hl:(pairTrees [some k] [v] X.env pos).length=1:=pairTrees_length [some k] [v] X.env pos rfl rfl
 rw [arm_eval_Dict,zip_pairTrees [some k] [v] X.env pos rfl rfl,dictDisplay_pairs _ (λe=>by rw [e] at hl;cases hl) (by rw [hl];decide)]
 refine wpAny_bind (wpAny_standAt (wpAny_bind ?_))
 unfold subDict
 refine wpAny_bind (wpAny_alloc (wpAny_bind (wpAny_holding ?_)))
 rw [if_pos (by rw [hl];decide)]
 refine wpAny_bind (pairTrees_cons_walk (thn (hk pins _ σ _ _ I1 (q _ hn)) λu s1 ⟨x,H1,I2,rx,q1⟩=>thn (hv pins s1 σ H1 _ I2 q1) λr s2 ⟨y,H2,I3,ry,e,ks,b,ex,eb,q3⟩=>pairTrees_nil_walk (wpAny_holding ?_)))
 subst ex
 cases (show u=Value.ref b from rx)
 obtain ⟨z,hd,xs,rel,dd⟩:=xh5 I3.hok e
 cases rel
 rw [dY]
 refine wpAny_bind (wpAny_bind ?_)
 show wpAny (model X.prog X.w) X.A (dictSet s.heap.objs.size (.ref b) r >>= λ_=>pure (ForInStep.yield PUnit.unit)) _ _ _
 refine wpAny_bind (wpAny_dictSet_heap (hsz:=aQ _) (knd:=tupleKind (c0 X.prog X.w)) (Nat.lt_of_succ_lt hu) (zk8 I3.hok eb) dd λh' dd' hs=>wpAny_pure ?_)
 show wpAny (model X.prog X.w) X.A (forIn ([]:List (Value×Value)) PUnit.unit _) _ _ _
 rw [List.forIn_nil]
 refine wpAny_pure (wpAny_pure (wpAny_pure (wpAny_pure ⟨.ref s.heap.objs.size,_,?_,rfl,q3⟩)))
 obtain ⟨o,es,ep,hq,h2,h3,h4,_,h5⟩:=dd'
 refine zh8 I3 (by rw [e];exact True.intro) hs ⟨o,hq⟩ ⟨(by show 1<=sizeLine;decide),hd,_,Paired.cons ⟨rfl,?_,ry⟩ .nil,o,es,ep,hq,h2,h3,h4,h5⟩
 rw [z7 (i8 eb e (λz=>nomatch z))]
 exact eb
section
variable {X:Cx}{C:Addr}{k j:Nat}{x:Str}{ps:List Str}{sp:Sp}{e:Expr}{es:List Expr}{t:TA}{p cpos pos:Pos}
end
end L2
namespace L2
open PySem PySem.Spec PyProof.Rows PySem.Builtin
section
variable {X:Cx}
end
end L2
namespace L2
open PySem PyProof PyProof.Rows
theorem yi7 {β:Type}(n:Nat)(b:β)(f:Nat->β->Sem (ForInStep β)):forIn [:n] b f=forIn (List.range' 0 n 1) b f:=by
 rw [Std.Legacy.Range.forIn_eq_forIn_range']
 have hsz:([:n]:Std.Legacy.Range).size=n:=by simp [Std.Legacy.Range.size]
 show forIn (List.range' 0 ([:n]:Std.Legacy.Range).size 1) b f=_
 rw [hsz]
theorem zk6:∀{its:List Value} {ns:List Int},IntsAre its ns->∀{i:Nat},i<ns.length->∃z t,its[i]?=some (.int z t)/\ns[i]?=some z
 | _,_,.nil,i,h=>absurd h (cW _)
 | _,_,.cons n t r,0,_=>⟨n,t,rfl,rfl⟩
 | _,_,.cons n t r,i+1,h=>by
  obtain ⟨z,t',h1,h2⟩:=zk6 r (i:=i) (by simpa using h)
  exact ⟨z,t',by simpa using h1,by simpa using h2⟩
section
variable {prog:Program}{w:World}{A:Around}{E:Value->Shared->Prop}{s:Shared}
theorem yh0 {t:Addr}{its:List Value}{ns:List Int}{x:Int}{u:Tok}{k:Nat}{P:Fin->Shared->Prop}(ht:IsTup s.heap t its.toArray)(hi:IntsAre its ns)(hk:ns[k]?=some x)(hb:∀i,i<k->ns[i]?≠some x)
  (h:P (.done (.ret (.int k s.toks))) { s with toks:=s.toks+1 }):wpAny (model prog w) A (Builtin.«tuple.index» ⟨[.ref t,.int x u],[]⟩) P E s:=by
 show wpAny _ _ (Builtin.Tuple.tupleItemsOf (.ref t) >>= _) _ _ s
 refine wpAny_bind (tupleItemsOf_ ht ?_)
 refine wpAny_bind (wpAny_pure ?_)
 refine wpAny_bind (wpAny_pure ?_)
 have hkl:k<ns.length:=(ap.mp hk).1
 have hlen:its.length=ns.length:=by clear hk hb h ht hkl;induction hi with|nil=>rfl|cons n t r ih=>simp [ih]
 dsimp only
 rw [show min its.toArray.size its.toArray.size=ns.length by rw [Nat.min_self,aC,hlen],yi7]
 refine wpAny_bind (wpAny_forIn_list _ (λX3 b s'=>b.1=none/\s'=s/\∃i,i<=k/\X3=List.range' i (ns.length-i) 1) _ ?_ ?_ _ _ ⟨rfl,rfl,0,aQ _,by rw [dI]⟩)
 ·rintro y X3 b s' ⟨eb,rfl,i,hik,er⟩
  rw [show ns.length-i=(ns.length-(i+1))+1 by lia,bK] at er
  obtain ⟨rfl,rfl⟩:=List.cons.inj er
  obtain ⟨z,tz,h1,h2⟩:=zk6 hi (i:=y) (by lia)
  have h1':its.toArray[y]?=some (.int z tz):=by simpa using h1
  rw [h1']
  refine wpAny_bind (wpAny_eqBool_int ?_)
  by_cases c:y=k
  ·subst c
   rw [hk] at h2
   obtain rfl:=Option.some.inj h2
   rw [if_pos (by simp)]
   unfold retInt
   exact wpAny_bind (wpAny_bind (wpAny_mkInt (wpAny_pure (wpAny_pure (wpAny_pure h)))))
  ·have hne:z≠x:=λe=>hb y (by lia) (e ▸ h2)
   rw [if_neg (by simpa using hne)]
   exact wpAny_pure ⟨rfl,rfl,y+1,by lia,rfl⟩
 ·rintro ⟨b1,b2⟩ s' ⟨eb,rfl,i,hik,er⟩
  rw [show ns.length-i=(ns.length-(i+1))+1 by lia,bK] at er
  cases er
end
section
variable {X:Cx}
def xm3 (K:W.Frag):V->List V->Hp->VK->Prop:=λx vs H Q=>∃(a:Addr) (ns:List Int) (z:Int) (k:Nat),x=.ref a/\vs=[.int z]/\SqT K H a (ns.map V.int)/\ns[k]?=some z/\(∀i,i<k->ns[i]?≠some z)/\Q (.int k) H
theorem yb6:MtR X "tuple.index" (xm3 X.K):=by
 intro pins s σ H x xs v us Q I rx rv h
 obtain ⟨a,ns,z,k,rfl,rfl,ha,hk,hb,q⟩:=h
 cases rx
 obtain ⟨u,rfl,ru⟩:=M5 rv
 obtain ⟨t,rfl⟩:=ru
 obtain ⟨its,r1,p1,_⟩:=I.tuple ha
 have i1:IntsAre its ns:=by simpa using W4 r1
 exact wpAny_call_entry PySem.F.slot_tuple_index p1.typeIs PySem.F.entry_tuple_index (yh0 p1 i1 hk hb ⟨_,rfl,⟨.int k,H,I.tok _,⟨_,rfl⟩,q⟩⟩) (PySem.F.args_tuple_index_2 _ _)
def xt1 (r:V->List V->Hp->VK->Prop)(to:TE)(t:TA):TE:=λσ H Q=>to σ H λx H1=>(∃a xs,x=.ref a/\H1 a=some (.tup xs))/\t σ H1 λxs H2=>r x xs H2 Q
theorem yy6 {o e:Expr}{es:List Expr}{to:TE}{t:TA}{name:Str}{apos cpos:Pos}{id:String}{r:V->List V->Hp->VK->Prop}(slot:Slot "tuple" name id) (hty:typeOf (.builtin id)=pure (.type "method_descriptor")) (hm:MtR X id r) (ho:PE X o to) (ha:PA X (e::es) t)
  (hbase:attributeBase o name X.env (eval o X.env)=eval o X.env:=by rfl)
  (hfew:((backTo cpos (starEach (e::es) X.env)).all (λx=>!x.1)&&(backToKw cpos (keywordEach [] X.env)).all (λx=>x.1.isSome)
   && decide ((e::es).length+([]:List Keyword).length+(if ([]:List Keyword).isEmpty then 0 else 1)<30))=true:=by rfl)
  (hline:(apos.endLine==cpos.line)=true:=by rfl) (hs:starEach (e::es) X.env=(false,eval e X.env)::starEach es X.env:=by rfl) (hplain:(backTo cpos (starEach es X.env)).any (·.1)=false:=by rfl) :
  PE X (.Call (.Attribute o name apos) (e::es) [] cpos) (xt1 r to t):=by
 intro pins s σ H Q I h
 refine wpAny_Call_method_late hbase hfew hline rfl (thn (ho pins s σ H _ I h) λv s1 ⟨x,H1,I1,r1,⟨a,xs,ex,ea⟩,q1⟩=>?_)
 subst ex
 cases (show v=Value.ref a from r1)
 obtain ⟨_,its,_,o',h1,h2,n,h3,h4⟩:=(show n8 X.prog X.w H1 s1.heap a (.tup xs) from I1.hok a _ ea)
 refine ⟨"tuple",id,PySem.F.plainAttrs_tuple,slot,hty,⟨o',h1,h2⟩,λb hb=>(by cases hb;exact ⟨o',h1,h4⟩),?_⟩
 have hA:=ha cpos pins s1 σ H1 _ I1 q1
 rw [hs] at hA ⊢
 refine Calls.callWith_builtin (by show (false || (backTo cpos (starEach es X.env)).any (·.1))=false;rw [hplain] <;> rfl) (Calls.evalArgs_plain ?_)
 exact thn hA λus s2 ⟨vs,H2,I2,r2,q2⟩=>hm pins s2 σ H2 (.ref a) vs _ us Q I2 rfl r2 q2
def xn2 (t:TS):TS:=λD σ H=>∃d kvs,H d=some (.dK kvs)/\t ⟨λσ' H'=>(∃ob,H' d=some (.frz ob (.dK kvs)))/\D.nx σ' (upd H' d (.dK kvs)),λ_ _=>False,λ_ _=>False,λ_ _=>False⟩ σ H
theorem xf2 {st:Stmt}{t:TS}(h:PS X st t):PS X st (xn2 t):=by
 intro pins s σ H D I hw
 obtain ⟨d,kvs,hd,q⟩:=hw
 have nf:=I.nofrz hd
 refine thn (h pins s σ H _ I q) λf s1 hq=>?_
 cases f with
 | next=>obtain ⟨σ',H',I',⟨ob,hf⟩,q'⟩:=hq;exact ⟨σ',_,I'.thaw hf nf,q'⟩
 | brk=>obtain ⟨_,_,_,z⟩:=hq;exact z.elim
 | cont=>obtain ⟨_,_,_,z⟩:=hq;exact z.elim
 | ret u=>obtain ⟨_,_,_,_,_,z⟩:=hq;exact z.elim
theorem yc1:OpR X (binaryOp .FloorDiv) (rI (λ_ j=>0<j/\j.natAbs.log2<9000) λi j=>.int (i / j)):=opI λi j _ _ _ _ _ hc q=>by
 have h1:(0:Int)<j:=hc.1
 have h2:j.natAbs.log2<9000:=hc.2
 exact floordiv_int (by lia) (by rw [eZ i (by lia)];exact q) (.inl (PyProof.noPylong_of_log2 h2))
end
end L2
namespace HT
open PySem PyProof.Rows
section
open PySem.SeqAt
open PySem.AutoSeq1 (wpAny_loadPart')
open PySem.MeetsSeq PySem.MeetsSeq2 PySem.MeetsSeq3
end
section
variable {prog:Program}{w:World}{A:Around}{E:Value->Shared->Prop}{s:Shared}
end
end HT
namespace L2
open PySem PySem.Spec PyProof.Rows
theorem zu3:∀xs:List Int,HT.lexLt xs xs=false
 | []=>rfl
 | x::xs=>by rw [HT.lexLt_cons,if_pos rfl,zu3 xs]
theorem yh5:∀{xs ys:List Int},HT.lexLt xs ys=true->HT.lexLt ys xs=false
 | [],[],h=>by cases h
 | [],y::ys,_=>rfl
 | x::xs,[],h=>by cases h
 | x::xs,y::ys,h=>by
  rw [HT.lexLt_cons] at h ⊢
  by_cases e:x=y
  ·rw [if_pos e] at h
   rw [if_pos e.symm]
   exact yh5 h
  ·rw [if_neg e] at h
   rw [if_neg (λz=>e z.symm)]
   have:=of_decide_eq_true h
   exact decide_eq_false (by lia)
theorem yh4:∀{xs ys zs:List Int},HT.lexLt ys xs=false->HT.lexLt zs ys=false->HT.lexLt zs xs=false
 | xs,ys,[],h1,h2=>by
  cases ys with
  | nil=>cases xs with
   | nil=>rfl
   | cons x xs=>rw [HT.lexLt_nil_cons] at h1;cases h1
  | cons y ys=>rw [HT.lexLt_nil_cons] at h2;cases h2
 | [],ys,z::zs,h1,h2=>rfl
 | x::xs,[],z::zs,h1,h2=>by rw [HT.lexLt_nil_cons] at h1;cases h1
 | x::xs,y::ys,z::zs,h1,h2=>by
  rw [HT.lexLt_cons] at h1 h2 ⊢
  by_cases e1:y=x
  ·rw [if_pos e1] at h1
   by_cases e2:z=y
   ·rw [if_pos e2] at h2
    rw [if_pos (e2.trans e1)]
    exact yh4 h1 h2
   ·rw [if_neg e2] at h2
    have:=of_decide_eq_false h2
    rw [if_neg (by lia)]
    exact decide_eq_false (by lia)
  ·rw [if_neg e1] at h1
   have h1:=of_decide_eq_false h1
   by_cases e2:z=y
   ·rw [if_neg (by lia)]
    exact decide_eq_false (by lia)
   ·rw [if_neg e2] at h2
    have:=of_decide_eq_false h2
    rw [if_neg (by lia)]
    exact decide_eq_false (by lia)
theorem yb0:∀{xs ys:List Int},HT.lexLt xs ys=false->HT.lexLt ys xs=false->xs=ys
 | [],[],_,_=>rfl
 | [],y::ys,h,_=>by rw [HT.lexLt_nil_cons] at h;cases h
 | x::xs,[],_,h=>by rw [HT.lexLt_nil_cons] at h;cases h
 | x::xs,y::ys,h1,h2=>by
  rw [HT.lexLt_cons] at h1 h2
  by_cases e:x=y
  ·rw [if_pos e] at h1
   rw [if_pos e.symm] at h2
   rw [e,yb0 h1 h2]
  ·rw [if_neg e] at h1
   rw [if_neg (λz=>e z.symm)] at h2
   have:=of_decide_eq_false h1
   have:=of_decide_eq_false h2
   lia
section
variable {X:Cx}
end
section
variable {prog:Program}{w:World}{A:Around}{R:Result->Shared->Prop}{I S:Addr}{fp wr:List Addr}{n:Nat}{P:Nat->Value->Prop}{St:Nat->Heap->Prop}{J:Heap->Prop}{bt:Nat->Nat->Bool}
end
section
variable {X:Cx}
end
section
variable {M:Model}{A:Around}{E:Value->Shared->Prop}{s:Shared}
end
section
variable {X:Cx}{pins:List (Addr×Obj)}{σ:St}{H:Hp}{s:Shared}
end
section
variable {X:Cx}{own:Nat}{fr:List Nat}{N':List Str}{tg iter elt:Expr}{scope:Scope}{pos:Pos}{wi:TI}{g:CT TG}{te:CT TE}
end
section
variable {pr:Program}{wd:World}{κ:Type}[DecidableEq κ]{kh:HeapKind pr wd κ}
end
section
variable {X:Cx}
end
end L2
namespace Tb.SO
end Tb.SO
namespace L2
open PySem PySem.Spec PyProof.Rows
section
variable {prog:Program}{w:World}{A:Around}{E:Value->Shared->Prop}{s:Shared}
end
section
variable {X:Cx}{pins:List (Addr×Obj)}{σ:St}{H H':Hp}{s:Shared}{h':Heap}
end
section
variable {X:Cx}
end
section
variable {X:Cx}{pins:List (Addr×Obj)}{σ:St}{H:Hp}{s:Shared}
end
section
variable {X:Cx}{tg:Expr}
end
section
variable {prog:Program}{w:World}{A:Around}{E:Value->Shared->Prop}{s:Shared}
end
section
variable {X:Cx}{pins:List (Addr×Obj)}{σ:St}{H:Hp}{s:Shared}
end
section
variable {X:Cx}
end
namespace RepN
open PySem.Builtin
end RepN
section
variable {X:Cx}
end
end L2
namespace L2
open PySem PySem.Spec PyProof.Rows
section
variable {prog:Program}{w:World}{A:Around}{E:Value->Shared->Prop}{s:Shared}
end
section
variable {X:Cx}
end
end L2
namespace SortG
open PySem PyProof.Rows
def za1:Bool->Keyed->Array Keyed->Nat->Nat->Nat->StateT SortSt Sem (Option Nat):=sortPriv% PySem.Builtin.gallop
def yx6:Array Keyed->Array Keyed->StateT SortSt Sem (Array Keyed):=sortPriv% PySem.Builtin.mergeLo
def yx5:Array Keyed->Array Keyed->StateT SortSt Sem (Array Keyed):=sortPriv% PySem.Builtin.mergeHi
section
variable {M:Model}{A:Around}{E:Value->Shared->Prop}{s:Shared}{κ:SortKind}{G:Keyed->Prop}{R:Keyed->Int}
structure Cmp (M:Model) (A:Around) (E:Value->Shared->Prop) (s:Shared) (κ:SortKind) (G:Keyed->Prop) (R:Keyed->Int):Prop where
 lt:∀{x y:Keyed} {st:SortSt} {Q:Option Bool->SortSt->Prop},G x->G y->kindOf st=κ->Q (some (decide (R x<R y))) st->wpS M A E s (lt' x y) Q st
abbrev dk:Keyed:=(Value.none,Value.none)
theorem l7 {arr:Array Keyed}{i:Nat}{Q:Keyed->SortSt->Prop}{st:SortSt}(hi:i<arr.size)(h:Q (arr.getD i dk) st):wpS M A E s (elem' arr i) Q st:=by
 rw [elem'_eq,show arr[i]?=some (arr.getD i dk) by simp [Array.getD,hi]]
 exact wpS_pure h
def Pre (B:Nat->Bool)(n k:Nat):Prop:=k<=n/\∀i,i<n->(B i=true↔i<k)
theorem Pre.no {f:Nat->Int}{x:Int}{g:Nat->Bool}{n k:Nat}(h:Pre (λi=>if (false:Bool)=true then g i else !decide (x<f i)) n k):k<=n/\∀i,i<n->(f i<=x↔i<k) :=
 ⟨h.1,λi hi=>by have:=h.2 i hi;simpa using this⟩
theorem Pre.yes {f:Nat->Int}{x:Int}{g:Nat->Bool}{n k:Nat}(h:Pre (λi=>if (true:Bool)=true then decide (f i<x) else g i) n k):k<=n/\∀i,i<n->(f i<x↔i<k) :=
 ⟨h.1,λi hi=>by have:=h.2 i hi;simpa using this⟩
theorem P0 (c:Cmp M A E s κ G R){left:Bool}{key:Keyed}{arr:Array Keyed}{base n hint:Nat}{st:SortSt}{Q:Option Nat->SortSt->Prop}(hk:kindOf st=κ)(hG:∀i,i<n->G (arr.getD (base+i) dk))(hkey:G key)(hsz:base+n<=arr.size)(hh:hint<n)
  (up:∀i j,i<=j->j<n->R (arr.getD (base+i) dk)<=R (arr.getD (base+j) dk))
  (h:∀k,Pre (λi=>if left then decide (R (arr.getD (base+i) dk)<R key) else !decide (R key<R (arr.getD (base+i) dk))) n k->Q (some k) st):wpS M A E s (za1 left key arr base n hint) Q st:=by
 obtain ⟨B,eB⟩:∃B:Nat->Bool,B=λi=>if left then decide (R (arr.getD (base+i) dk)<R key) else !decide (R key<R (arr.getD (base+i) dk)):=⟨_,rfl⟩
 rw [←eB] at h
 have mono:∀i j,i<=j->j<n->B j=true->B i=true:=λi j hij hj hb=>by
  rw [eB] at hb ⊢
  have:=up i j hij hj
  cases left with
  | true =>
   simp only [if_true,decide_eq_true_eq] at hb ⊢
   lia
  | false =>
   simp only [ck,if_false,Bool.not_eq_true',decide_eq_false_iff_not] at hb ⊢
   lia
 have beyond:∀(i:Nat) (Q':Option Bool->SortSt->Prop),i<n->Q' (some (B i)) st->wpS M A E s (elem' arr (base+i) >>= λx=>if left=true then lt' x key else (lt' key x >>= λr=>pure (r.map (λx=>!x)))) Q' st:=λi Q' hi hq=>by
  refine wpS_bind (l7 (by lia) ?_)
  have gi:=hG i hi
  rw [eB] at hq
  cases left with
  | true=>exact c.lt gi hkey hk hq
  | false=>exact wpS_bind (c.lt hkey gi hk (wpS_pure hq))
 have last:∀(lo hi:Nat),lo<=hi->hi<=n->(∀i,i<lo->B i=true)->(∀i,hi<=i->i<n->B i=false)->∀(f:Option (Option Nat)×Nat×Nat->StateT SortSt Sem (Option Nat)) (g:Nat->Option (Option Nat)×Nat×Nat->StateT SortSt Sem (ForInStep (Option (Option Nat)×Nat×Nat))),
   (∀l k,f (none,l,k)=pure (some k))->(∀x l k,l ≥ k->g x (none,l,k)=pure (.done (none,l,k)))->(∀x l k,l<k->k<=n->∀Q',Q' (.yield (if B (l+(k-l) / 2)=true then (none,l+(k-l) / 2+1,k) else (none,l,l+(k-l) / 2))) st->wpS M A E s (g x (none,l,k)) Q' st) ->
   wpS M A E s (forIn [:n] (none,lo,hi) g >>= f) Q st:=λlo hi h1 h2 h3 h4 f g hf hg1 hg2=>by
  refine wpS_bind (wpS_forRange (I:=λj q st'=>∃l k,q=(none,l,k)/\st'=st/\l<=k/\k<=n/\k-l<=n-j/\(∀i,i<l->B i=true)/\(∀i,k<=i->i<n->B i=false)) ?_ ?_ ⟨lo,hi,rfl,rfl,h1,h2,by lia,h3,h4⟩)
  ·rintro j q st' _ hj ⟨l,k,rfl,rfl,b1,b2,b3,b4,b5⟩
   by_cases hlk:l ≥ k
   ·rw [hg1 _ _ _ hlk]
    refine wpS_pure ?_
    dsimp only
    rw [hf]
    exact wpS_pure (h k ⟨b2,λi hi=>⟨λhb=>Nat.lt_of_not_le λz=>(by rw [b5 i z hi] at hb;cases hb),λhk'=>b4 i (by lia)⟩⟩)
   ·refine hg2 _ _ _ (by lia) b2 _ ?_
    cases e:B (l+(k-l) / 2) with
    | true=>exact ⟨_,_,rfl,rfl,by lia,b2,by lia,λi hi=>mono i (l+(k-l) / 2) (by lia) (by lia) e,b5⟩
    | false =>
     refine ⟨_,_,rfl,rfl,by lia,by lia,by lia,b4,λi hi hin=>?_⟩
     cases e':B i with
     | false=>rfl
     | true=>rw [mono (l+(k-l) / 2) i hi hin e'] at e;cases e
  ·rintro q st' ⟨l,k,rfl,rfl,b1,b2,b3,b4,b5⟩
   rw [hf]
   exact wpS_pure (h k ⟨b2,λi hi=>⟨λhb=>Nat.lt_of_not_le λz=>(by rw [b5 i z hi] at hb;cases hb),λhk'=>b4 i (by lia)⟩⟩)
 refine wpS_bind (beyond hint _ hh ?_)
 dsimp only
 cases eh:B hint with
 | true =>
  rw [if_pos rfl]
  refine wpS_bind (wpS_mono (Q:=λq st'=>∃l o,q=(none,l,o)/\st'=st/\l<o/\B (hint+l)=true/\hint+l<n/\(o ≥ n-hint∨B (hint+o)=false)) (wpS_forRange (I:=λj q st'=>∃l o,q=(none,l,o)/\st'=st/\j+1<=o/\l<o/\B (hint+l)=true/\hint+l<n) ?_ ?_ ⟨0,1,rfl,rfl,by lia,by lia,by simpa using eh,by lia⟩) ?_)
  ·rintro j q st' _ hj ⟨l,o,rfl,rfl,b1,b2,b3,b4⟩
   dsimp only
   by_cases ho:o ≥ n-hint
   ·rw [if_pos ho]
    exact wpS_pure ⟨_,_,rfl,rfl,b2,b3,b4,.inl ho⟩
   ·rw [if_neg ho]
    refine wpS_bind (beyond _ _ (by lia) ?_)
    dsimp only
    cases eo:B (hint+o) with
    | true =>
     rw [if_neg (by simp)]
     exact wpS_pure ⟨_,_,rfl,rfl,by lia,by lia,eo,by lia⟩
    | false =>
     rw [if_pos (by rfl)]
     exact wpS_pure ⟨_,_,rfl,rfl,b2,b3,b4,.inr eo⟩
  ·rintro q st' ⟨l,o,rfl,rfl,b1,b2,b3,b4⟩
   exact ⟨_,_,rfl,rfl,b2,b3,b4,.inl (by lia)⟩
  ·rintro q st' ⟨l,o,rfl,rfl,b2,b3,b4,b5⟩
   dsimp only
   refine last _ _ (by lia) (by lia) (λi hi=>mono i (hint+l) (by lia) b4 b3) (λi hi hin=>?_) _ _ (λl k=>rfl) (λx l k hlk=>if_pos hlk) (λx l k hlk hk' Q' hq=>?_)
   ·rcases b5 with b5|b5
    ·lia
    ·cases e:B i with
     | false=>rfl
     | true=>rw [mono (hint+o) i (by lia) hin e] at b5;cases b5
   ·dsimp only
    rw [if_neg (by lia)]
    refine wpS_bind (beyond _ _ (by lia) ?_)
    dsimp only
    cases e:B (l+(k-l) / 2) with
    | true=>rw [e] at hq;rw [if_pos rfl] at hq ⊢;exact wpS_pure hq
    | false=>rw [e] at hq;rw [if_neg aI] at hq ⊢;exact wpS_pure hq
 | false =>
  rw [if_neg aI]
  refine wpS_bind (wpS_mono (Q:=λq st'=>∃l o,q=(none,l,o)/\st'=st/\l<o/\l<=hint/\B (hint-l)=false/\(o ≥ hint+1∨B (hint-o)=true)) (wpS_forRange (I:=λj q st'=>∃l o,q=(none,l,o)/\st'=st/\j+1<=o/\l<o/\l<=hint/\B (hint-l)=false) ?_ ?_ ⟨0,1,rfl,rfl,by lia,by lia,by lia,by simpa using eh⟩) ?_)
  ·rintro j q st' _ hj ⟨l,o,rfl,rfl,b1,b2,b3,b4⟩
   dsimp only
   by_cases ho:o ≥ hint+1
   ·rw [if_pos ho]
    exact wpS_pure ⟨_,_,rfl,rfl,b2,b3,b4,.inl ho⟩
   ·rw [if_neg ho]
    refine wpS_bind (beyond _ _ (by lia) ?_)
    dsimp only
    cases eo:B (hint-o) with
    | true =>
     rw [if_pos rfl]
     exact wpS_pure ⟨_,_,rfl,rfl,b2,b3,b4,.inr eo⟩
    | false =>
     rw [if_neg aI]
     exact wpS_pure ⟨_,_,rfl,rfl,by lia,by lia,by lia,eo⟩
  ·rintro q st' ⟨l,o,rfl,rfl,b1,b2,b3,b4⟩
   exact ⟨_,_,rfl,rfl,b2,b3,b4,.inl (by lia)⟩
  ·rintro q st' ⟨l,o,rfl,rfl,b2,b3,b4,b5⟩
   dsimp only
   refine last _ _ (by lia) (by lia) (λi hi=>?_) (λi hi hin=>?_) _ _ (λl k=>rfl) (λx l k hlk=>if_pos hlk) (λx l k hlk hk' Q' hq=>?_)
   ·rcases b5 with b5|b5
    ·lia
    ·exact mono i (hint-o) (by lia) (by lia) b5
   ·cases e:B i with
    | false=>rfl
    | true=>rw [mono (hint-l) i (by lia) hin e] at b4;cases b4
   ·dsimp only
    rw [if_neg (by lia)]
    refine wpS_bind (beyond _ _ (by lia) ?_)
    dsimp only
    cases e:B (l+(k-l) / 2) with
    | true=>rw [e] at hq;rw [if_pos rfl] at hq ⊢;exact wpS_pure hq
    | false=>rw [e] at hq;rw [if_neg aI] at hq ⊢;exact wpS_pure hq
def SL (R:Keyed->Int)(l:List Keyed):Prop:=l.Pairwise λx y=>R x<=R y
structure Jn (R:Keyed->Int) (tot out ra rb:List Keyed):Prop where
 perm:(out++ra++rb).Perm tot
 so:SL R out
 sa:SL R ra
 sb:SL R rb
 la:∀x∈out,∀y∈ra,R x<=R y
 lb:∀x∈out,∀y∈rb,R x<=R y
theorem Jn.moveA {tot out ch ra rb:List Keyed}(j:Jn R tot out (ch++ra) rb)(h:∀x∈ch,∀y∈rb,R x<=R y):Jn R tot (out++ch) ra rb:=by
 have sa:=List.pairwise_append.mp j.sa
 refine ⟨by have:=j.perm;simpa [bD] using this,List.pairwise_append.mpr ⟨j.so,sa.1,λx hx y hy=>j.la x hx y (aJ _ hy)⟩,sa.2.1,j.sb,λx hx y hy=>?_,λx hx y hy=>?_⟩
 ·rcases aE.mp hx with z|z
  ·exact j.la x z y (aD _ hy)
  ·exact sa.2.2 x z y hy
 ·rcases aE.mp hx with z|z
  ·exact j.lb x z y hy
  ·exact h x z y hy
theorem Jn.swap {tot out ra rb:List Keyed}(j:Jn R tot out ra rb):Jn R tot out rb ra:=⟨by
 refine List.Perm.trans ?_ j.perm
 rw [bD,bD]
 exact List.Perm.append_left _ List.perm_append_comm,j.so,j.sb,j.sa,j.lb,j.la⟩
theorem Jn.fin {tot out ra rb:List Keyed}(j:Jn R tot out ra rb)(h:∀x∈ra,∀y∈rb,R x<=R y):(out++ra++rb).Perm tot/\SL R (out++ra++rb) :=
 ⟨j.perm,List.pairwise_append.mpr ⟨List.pairwise_append.mpr ⟨j.so,j.sa,j.la⟩,j.sb,λx hx y hy=>by
  rcases aE.mp hx with z|z
  ·exact j.lb x z y hy
  ·exact h x z y hy⟩⟩
structure Sg (st st':SortSt):Prop where
 k:kindOf st'=kindOf st
 a:arrOf st'=arrOf st
 p:pendingOf st'=pendingOf st
 f:failedOf st'=failedOf st
theorem yh1 {α:Type}{p:Prop}[Decidable p]{x y:StateT SortSt Sem α}{Q:α->SortSt->Prop}{st:SortSt}(h1:wpS M A E s x Q st)(h2:wpS M A E s y Q st):wpS M A E s (if p then x else y) Q st:=by
 split
 ·exact h1
 ·exact h2
theorem D3 {Q:Unit->SortSt->Prop}{st:SortSt}{x:String}(h:Q () st):wpS M A E s (liftM (rule x):StateT SortSt Sem Unit) Q st:=wpS_lift (wpAny_rule ⟨rfl,h⟩)
section
variable {a:Array Keyed}{i k:Nat}
theorem zj9 (h:i<a.size):a.toList.drop i=a.getD i dk::a.toList.drop (i+1):=by
 rw [bp (by simpa using h)]
 simp [Array.getD,h]
theorem za0:(a.extract i).toList=a.toList.drop i:=by
 rw [Array.toList_extract]
 simp [List.extract]
 rw [bF (by simp)]
theorem zk1:(a.extract i (i+k)).toList=(a.toList.drop i).take k:=by
 rw [Array.toList_extract]
 simp [List.extract]
theorem zd5 {x:Keyed}(hx:x∈(a.toList.drop i).take k):∃j,j<k/\i+j<a.size/\x=a.getD (i+j) dk:=by
 obtain ⟨j,hj,e⟩:=aY.mp hx
 rw [aT,be,aW] at hj
 refine ⟨j,by lia,by lia,?_⟩
 rw [List.getElem_take,List.getElem_drop] at e
 rw [←e]
 simp [Array.getD,show i+j<a.size by lia]
theorem B3 (i k:Nat):a.toList.drop i=(a.toList.drop i).take k++a.toList.drop (i+k):=by
 rw [←eV,bA]
theorem yv6 (h:i+k<=a.size):(a.extract i (i+k)).size=k:=by
 rw [Array.size_extract]
 lia
theorem o8 (h:i<a.size):a.getD i dk∈a.toList:=by
 simp [Array.getD,h]
theorem SL.get {R:Keyed->Int}(u:SL R a.toList){i j:Nat}(hij:i<=j)(hj:j<a.size):R (a.getD i dk)<=R (a.getD j dk):=by
 rcases dA i j with h|h
 ·have:=aX.mp u i j (by simp;lia) (by simpa using hj) h
  simpa [Array.getD,hj,show i<a.size by lia] using this
 ·rw [show i=j by lia]
  exact dG _
theorem yv0 {x:Keyed}(hx:x∈a.toList.drop i):∃j,i<=j/\j<a.size/\x=a.getD j dk:=by
 obtain ⟨j,hj,e⟩:=aY.mp hx
 rw [be,aW] at hj
 refine ⟨i+j,by lia,by lia,?_⟩
 rw [List.getElem_drop] at e
 rw [←e]
 simp [Array.getD,show i+j<a.size by lia]
end
section
variable {α:Type}{x y:StateT SortSt Sem α}{Q:α->SortSt->Prop}{st:SortSt}
theorem N9 {p:Prop}[Decidable p](h1:p->wpS M A E s x Q st)(h2:¬p->wpS M A E s y Q st):wpS M A E s (if p then x else y) Q st:=by
 by_cases h:p
 ·rw [if_pos h];exact h1 h
 ·rw [if_neg h];exact h2 h
theorem V6 {m n:Nat}(h1:m=n->wpS M A E s x Q st)(h2:m≠n->wpS M A E s y Q st):wpS M A E s (if (m==n)=true then x else y) Q st:=N9 (λh=>h1 (beq_iff_eq.mp h)) (λh=>h2 λz=>h (beq_iff_eq.mpr z))
theorem ya2 {p:Prop}[Decidable p](h1:p->wpS M A E s x Q st)(h2:¬p->wpS M A E s y Q st):wpS M A E s (if decide p=true then x else y) Q st:=N9 (λh=>h1 (of_decide_eq_true h)) (λh=>h2 λz=>h (decide_eq_true z))
theorem yw5 {β:Type}{f:β->StateT SortSt Sem α}{p:Prop}[Decidable p]{x y:β}(h:∀z,wpS M A E s (f z) Q st):wpS M A E s (if p then f x else f y) Q st:=yh1 (h _) (h _)
theorem zt8 {β γ:Type}{f:β->γ->StateT SortSt Sem α}(P:β->γ->Prop)(h:∀b c,P b c->wpS M A E s (f b c) Q st)(k:(∀b c,P b c->wpS M A E s (f b c) Q st)->wpS M A E s x Q st):wpS M A E s x Q st:=k h
end
section
variable {a:Array Keyed}{ia:Nat}{key:Keyed}{st:SortSt}{Q:Option Nat->SortSt->Prop}
theorem xs3 (c:Cmp M A E s κ G R)(hk:kindOf st=κ)(ga:∀x∈a.toList,G x)(hkey:G key)(ua:SL R a.toList)(hia:ia<a.size)(h:∀k,ia+k<=a.size->(∀i,i<k->R (a.getD (ia+i) dk)<=R key)->(ia+k<a.size->R key<R (a.getD (ia+k) dk))->Q (some k) st):wpS M A E s (za1 false key a ia (a.size-ia) 0) Q st:=by
 refine P0 c hk (λi hi=>ga _ (o8 (by lia))) hkey (by lia) (by lia) (λi j hij hj=>ua.get (by lia) (by lia)) λk hp=>?_
 obtain ⟨h1,h2⟩:=hp.no
 exact h k (by lia) (λi hi=>(h2 i (by lia)).mpr hi) λz=>Int.not_le.mp λz'=>aZ _ ((h2 k (by lia)).mp z')
theorem xs2 (c:Cmp M A E s κ G R)(hk:kindOf st=κ)(ga:∀x∈a.toList,G x)(hkey:G key)(ua:SL R a.toList)(hia:ia<a.size)(h:∀k,ia+k<=a.size->(∀i,i<k->R (a.getD (ia+i) dk)<R key)->(ia+k<a.size->R key<=R (a.getD (ia+k) dk))->Q (some k) st):wpS M A E s (za1 true key a ia (a.size-ia) 0) Q st:=by
 refine P0 c hk (λi hi=>ga _ (o8 (by lia))) hkey (by lia) (by lia) (λi j hij hj=>ua.get (by lia) (by lia)) λk hp=>?_
 obtain ⟨h1,h2⟩:=hp.yes
 exact h k (by lia) (λi hi=>(h2 i (by lia)).mpr hi) λz=>bU.mp λz'=>aZ _ ((h2 k (by lia)).mp z')
end
structure LoI (R:Keyed->Int) (tot:List Keyed) (a b:Array Keyed) (n:Nat) (out:Array Keyed) (ia ib:Nat):Prop where
 jn:Jn R tot out.toList (a.toList.drop ia) (b.toList.drop ib)
 ua:SL R a.toList
 ub:SL R b.toList
 sz:out.size=ia+ib
 hn:n<=out.size
section
variable {a b out:Array Keyed}{n n' ia ib k:Nat}{tot:List Keyed}
theorem LoI.weak (h:LoI R tot a b n out ia ib)(w:n'<=n):LoI R tot a b n' out ia ib:=⟨h.jn,h.ua,h.ub,h.sz,aB w h.hn⟩
theorem LoI.swap (h:LoI R tot a b n out ia ib):LoI R tot b a n out ib ia:=⟨h.jn.swap,h.ub,h.ua,h.sz.trans (dX _ _),h.hn⟩
theorem low {z:Int}(u:SL R a.toList)(hz:z<=R (a.getD ia dk)):∀x∈a.toList.drop ia,z<=R x:=λx hx=>by
 obtain ⟨j,h1,h2,rfl⟩:=yv0 hx
 exact ci hz (u.get h1 h2)
theorem LoI.pushA (h:LoI R tot a b n out ia ib)(ha:ia<a.size)(hr:R (a.getD ia dk)<=R (b.getD ib dk)):LoI R tot a b (n+1) (out.push (a.getD ia dk)) (ia+1) ib:=by
 have j:=h.jn
 rw [zj9 ha] at j
 refine ⟨?_,h.ua,h.ub,by rw [Array.size_push,h.sz,Nat.add_right_comm],by rw [Array.size_push];exact Nat.succ_le_succ h.hn⟩
 rw [Array.toList_push]
 exact Jn.moveA (ch:=[a.getD ia dk]) j λx hx y hy=>by rw [ah.mp hx];exact low h.ub hr y hy
theorem LoI.extA (h:LoI R tot a b n out ia ib)(hk:ia+k<=a.size)(hr:∀i,i<k->R (a.getD (ia+i) dk)<=R (b.getD ib dk)):LoI R tot a b n (out++a.extract ia (ia+k)) (ia+k) ib:=by
 have j:=h.jn
 rw [B3 ia k] at j
 refine ⟨?_,h.ua,h.ub,by rw [Array.size_append,yv6 hk,h.sz,Nat.add_right_comm],by rw [Array.size_append];exact aB h.hn (cv _ _)⟩
 rw [Array.toList_append,zk1]
 refine j.moveA λz hz=>?_
 obtain ⟨i,h1,h2,rfl⟩:=zd5 hz
 exact low h.ub (hr i h1)
theorem LoI.fin1 (h:LoI R tot a b n out ia ib)(e:ib=b.size):(out++a.extract ia++b.extract ib).toList.Perm tot/\SL R (out++a.extract ia++b.extract ib).toList:=by
 rw [Array.toList_append,Array.toList_append,za0,za0]
 exact h.jn.fin (λx hx y hy=>by rw [e,List.drop_eq_nil_of_le (by simp)] at hy;cases hy)
theorem LoI.fin2 (h:LoI R tot a b n out ia ib)(e:ia+1=a.size)(hl:∀x∈b.toList,R x<R (a.getD (a.size-1) dk)):(out++b.extract ib++a.extract ia).toList.Perm tot/\SL R (out++b.extract ib++a.extract ia).toList:=by
 rw [Array.toList_append,Array.toList_append,za0,za0]
 refine h.jn.swap.fin (λx hx y hy=>?_)
 rw [zj9 (by lia),List.drop_eq_nil_of_le (by simp;lia)] at hy
 rw [ah.mp hy,show ia=a.size-1 by lia]
 exact bx (hl x (dE hx))
end
theorem yi1 (c:Cmp M A E s κ G R){a b:Array Keyed}{st:SortSt}{Q:Array Keyed->SortSt->Prop}(hk:kindOf st=κ)(ga:∀x∈a.toList,G x)(gb:∀x∈b.toList,G x)(ua:SL R a.toList)(ub:SL R b.toList)(na:0<a.size)(nb:0<b.size)
  (hf:∀x∈a.toList,R (b.getD 0 dk)<=R x) (hl:∀x∈b.toList,R x<R (a.getD (a.size-1) dk))
  (h:∀(out:Array Keyed) st',Sg st st'->out.toList.Perm (a.toList++b.toList)->SL R out.toList->Q out st'):wpS M A E s (yx6 a b) Q st:=by
 refine wpS_bind (D3 (wpS_bind (l7 nb ?_)))
 obtain ⟨tot,etot⟩:∃tot,tot=a.toList++b.toList:=⟨_,rfl⟩
 rw [←etot] at h
 have j0:LoI R tot a b 1 #[b.getD 0 dk] 0 1:=by
  refine LoI.swap (LoI.pushA (out:=#[]) (n:=0) (ia:=0) (ib:=0) ⟨⟨?_,.nil,ub,ua,λ_ h=>(by cases h),λ_ h=>(by cases h)⟩,ub,ua,rfl,aQ _⟩ nb (hf _ (o8 na)))
  rw [etot]
  exact List.perm_append_comm
 have fin1:∀{st':SortSt} {out:Array Keyed} {n ia ib:Nat},Sg st st'->LoI R tot a b n out ia ib->ib=b.size->Q (out++a.extract ia++b.extract ib) st':=λsg j e=>h _ _ sg (j.fin1 e).1 (j.fin1 e).2
 have fin2:∀{st':SortSt} {out:Array Keyed} {n ia ib:Nat},Sg st st'->LoI R tot a b n out ia ib->ia+1=a.size->Q (out++b.extract ib++a.extract ia) st':=λsg j e=>h _ _ sg (j.fin2 e hl).1 (j.fin2 e hl).2
 have sg0:Sg st st:=⟨rfl,rfl,rfl,rfl⟩
 refine V6 (λh1=>wpS_pure (fin1 sg0 j0 h1)) λh1=>V6 (λh2=>wpS_pure (fin2 sg0 j0 h2)) λh2=>wpS_bind (wpS_get ?_)
 have lt1:∀{i n:Nat},i+1<n->i<n:=Nat.lt_of_succ_lt
 have lt2:∀{i n:Nat},i<n->i+1≠n->i+1<n:=cZ
 refine wpS_bind (wpS_mono (Q:=λq st'=>∃r,q.1=some r/\Q r st') (wpS_forRange (I:=λj q st'=>∃out ia ib mg,q=(none,out,ia,ib,mg)/\Sg st st'/\LoI R tot a b (j+1) out ia ib/\ia+1<a.size/\ib<b.size) ?_ ?_ ⟨_,0,1,_,rfl,sg0,j0,lt2 na h2,lt2 nb h1⟩) ?_)
 ·rintro j q st' _ hj ⟨out,ia,ib,mg,rfl,sg,jn,hia,hib⟩
  dsimp -zeta only
  have hk':kindOf st'=κ:=sg.k.trans hk
  refine wpS_bind (wpS_mono (Q:=λq st2=>st2=st'/\((∃r,q.1=some r/\Q r st')∨∃out ia ib x y,q=(none,out,ia,ib,x,y)/\LoI R tot a b (j+2) out ia ib/\ia+1<a.size/\ib<b.size))
   (wpS_forRange (I:=λi q st2=>st2=st'/\∃out ia ib x y,q=(none,out,ia,ib,x,y)/\LoI R tot a b (j+1+(if i=0 then 0 else 1)) out ia ib/\ia+1<a.size/\ib<b.size) ?_ ?_ ⟨rfl,out,ia,ib,0,0,rfl,jn,hia,hib⟩) ?_)
  ·rintro i q st2 _ hi ⟨rfl,out,ia,ib,x,y,rfl,jn,hia,hib⟩
   dsimp only
   have w1:j+2<=j+1+(if i=0 then 0 else 1)+1:=Nat.succ_le_succ (cv _ _)
   have w2:j+1+(if i+1=0 then 0 else 1)<=j+1+(if i=0 then 0 else 1)+1:=by rw [if_neg (Nat.succ_ne_zero i)];exact w1
   refine wpS_bind (l7 hib (wpS_bind (l7 (lt1 hia) (wpS_bind (c.lt (gb _ (o8 hib)) (ga _ (o8 (lt1 hia))) hk' ?_)))))
   refine ya2 (λhlt=>wpS_bind (l7 hib ?_)) λhlt=>wpS_bind (l7 (lt1 hia) ?_)
   ·have jn':=(jn.swap.pushA hib (bx hlt)).swap
    exact V6 (λe1=>wpS_pure ⟨rfl,.inl ⟨_,rfl,fin1 sg jn' e1⟩⟩) λe1=>N9 (λe2=>wpS_pure ⟨rfl,.inr ⟨_,_,_,_,_,rfl,jn'.weak w1,hia,lt2 hib e1⟩⟩) λe2=>wpS_pure ⟨rfl,_,_,_,_,_,rfl,jn'.weak w2,hia,lt2 hib e1⟩
   ·have jn':=jn.pushA (lt1 hia) (bU.mp hlt)
    exact V6 (λe1=>wpS_pure ⟨rfl,.inl ⟨_,rfl,fin2 sg jn' e1⟩⟩) λe1=>N9 (λe2=>wpS_pure ⟨rfl,.inr ⟨_,_,_,_,_,rfl,jn'.weak w1,lt2 hia e1,hib⟩⟩) λe2=>wpS_pure ⟨rfl,_,_,_,_,_,rfl,jn'.weak w2,lt2 hia e1,hib⟩
  ·rintro q st2 ⟨rfl,out,ia,ib,x,y,rfl,jn,hia,hib⟩
   rw [if_neg (by lia)] at jn
   exact ⟨rfl,.inr ⟨_,_,_,_,_,rfl,jn,hia,hib⟩⟩
  rintro q st2 ⟨rfl,(⟨r,e,hq⟩|⟨out,ia,ib,x,y,rfl,jn,hia,hib⟩)⟩
  ·obtain ⟨q1,q2⟩:=q
   cases e
   exact wpS_pure ⟨_,rfl,hq⟩
  refine wpS_bind (D3 ?_)
  refine wpS_bind (wpS_mono (Q:=λq st2=>Sg st st2/\((∃r,q.1=some r/\Q r st2)∨∃out ia ib m x y,q=(none,out,ia,ib,m,x,y)/\LoI R tot a b (j+2) out ia ib/\ia+1<a.size/\ib<b.size))
   (wpS_forRange (I:=λi q st2=>Sg st st2/\∃out ia ib m x y,q=(none,out,ia,ib,m,x,y)/\LoI R tot a b (j+2) out ia ib/\ia+1<a.size/\ib<b.size) ?_ ?_ ⟨sg,out,ia,ib,_,_,_,rfl,jn,hia,hib⟩) ?_)
  ·rintro i q st2 _ hi ⟨sg2,out,ia,ib,m,x,y,rfl,jn,hia,hib⟩
   dsimp -zeta only
   extract_lets -underBinder +onlyGivenNames s1 o1 s2 i1 s3 b1 s4 m1 s5 ac bc jp
   refine yw5 (f:=jp ()) (x:=m-1) (y:=m) λm2=>?_
   dsimp -zeta only [jp,s1,o1,s2,i1,s3,b1,s4,m1,s5,ac,bc]
   clear jp ac bc s5 m1 s4 b1 s3 i1 s2 o1 s1
   have sg3:∀g:Nat,Sg st (SortSt.mk' (kindOf st2) (arrOf st2) (pendingOf st2) g (failedOf st2)):=λg=>⟨sg2.k,sg2.a,sg2.p,sg2.f⟩
   have hk2:=sg2.k.trans hk
   refine wpS_bind (wpS_modify (wpS_bind (l7 hib (wpS_bind (xs3 c hk2 ga (gb _ (o8 hib)) ua (lt1 hia) λk hk1 hle hlt=>?_)))))
   dsimp -zeta only
   extract_lets -underBinder +onlyGivenNames ac jp
   refine zt8 (f:=jp ()) (λo1 i1=>LoI R tot a b (j+2) o1 i1 ib/\i1+1<a.size/\R (b.getD ib dk)<R (a.getD i1 dk)) ?_ λJ=>?_
   ·rintro out1 ia1 ⟨jn1,hi1,hlt1⟩
    dsimp -zeta only [jp]
    clear jp
    have jn2:=(jn1.swap.pushA hib (bx hlt1)).swap
    refine wpS_bind (l7 hib ?_)
    refine V6 (λe2=>wpS_pure ⟨sg3 _,.inl ⟨_,rfl,fin1 (sg3 _) jn2 e2⟩⟩) λe2=>?_
    refine wpS_bind (l7 (lt1 hi1) (wpS_bind (xs2 c hk2 gb (ga _ (o8 (lt1 hi1))) ub (lt2 hib e2) λk1 hk3 hle3 hlt3=>?_)))
    dsimp -zeta only
    extract_lets -underBinder +onlyGivenNames bc jp
    refine zt8 (f:=jp ()) (λo3 i3=>LoI R tot a b (j+2) o3 ia1 i3/\i3<b.size/\R (a.getD ia1 dk)<=R (b.getD i3 dk)) ?_ λJ=>?_
    ·rintro out3 ib3 ⟨jn3,hib3,hge⟩
     dsimp -zeta only [jp]
     clear jp
     have jn4:=jn3.pushA (lt1 hi1) hge
     refine wpS_bind (l7 (lt1 hi1) ?_)
     refine V6 (λe5=>wpS_pure ⟨sg3 _,.inl ⟨_,rfl,fin2 (sg3 _) jn4 e5⟩⟩) λe5=>?_
     have jn5:=jn4.weak (bY _)
     exact yh1 (wpS_pure ⟨sg3 _,.inr ⟨_,_,_,_,_,_,rfl,jn5,lt2 hi1 e5,hib3⟩⟩) (wpS_pure ⟨sg3 _,_,_,_,_,_,_,rfl,jn5,lt2 hi1 e5,hib3⟩)
    ·clear_value jp
     have jn2':=jn2.weak (bY _)
     refine N9 (λe=>?_) λe=>?_
     ·have jn3:=(jn2'.swap.extA hk3 λi hi=>bx (hle3 i hi)).swap
      exact V6 (λe4=>wpS_pure ⟨sg3 _,.inl ⟨_,rfl,fin1 (sg3 _) jn3 e4⟩⟩) λe4=>J _ _ ⟨jn3,cZ hk3 e4,hlt3 (cZ hk3 e4)⟩
     ·obtain rfl:k1=0:=Nat.eq_zero_of_not_pos e
      exact J _ _ ⟨jn2',lt2 hib e2,hlt3 (lt2 hib e2)⟩
   ·clear_value jp
    have hkl:ia+k<a.size:=Nat.lt_of_not_le λz=>by
     have h1:=hle (a.size-1-ia) (by lia)
     rw [show ia+(a.size-1-ia)=a.size-1 by lia] at h1
     exact absurd (hl _ (o8 hib)) (bU.mpr h1)
    refine N9 (λe=>?_) λe=>?_
    ·have jn1:=jn.extA hk1 hle
     exact V6 (λe1=>wpS_pure ⟨sg3 _,.inl ⟨_,rfl,fin2 (sg3 _) jn1 e1⟩⟩) λe1=>V6 (λe2=>absurd e2 (aS hkl)) λ_=>J _ _ ⟨jn1,lt2 hkl e1,hlt hkl⟩
    ·obtain rfl:k=0:=Nat.eq_zero_of_not_pos e
     exact J _ _ ⟨jn,hia,hlt hkl⟩
  ·rintro q st2 ⟨sg2,out,ia,ib,m,x,y,rfl,jn,hia,hib⟩
   exact ⟨sg2,.inr ⟨_,_,_,_,_,_,rfl,jn,hia,hib⟩⟩
  ·rintro q st2 ⟨sg2,(⟨r,e,hq⟩|⟨out,ia,ib,m,x,y,rfl,jn,hia,hib⟩)⟩
   ·obtain ⟨q1,q2⟩:=q
    cases e
    exact wpS_pure ⟨_,rfl,hq⟩
   ·exact wpS_bind (wpS_modify (wpS_pure ⟨_,_,_,_,rfl,⟨sg2.k,sg2.a,sg2.p,sg2.f⟩,jn,hia,hib⟩))
 ·rintro q st' ⟨out,ia,ib,mg,rfl,sg,jn,hia,hib⟩
  have:=jn.hn
  have:=jn.sz
  lia
 ·rintro q st' ⟨r,e,hq⟩
  obtain ⟨q1,q2⟩:=q
  cases e
  exact wpS_pure hq
section
variable {a:Array Keyed}{i k:Nat}
def Rv (a:Array Keyed)(i:Nat):List Keyed:=(a.toList.take i).reverse
theorem xf9 (h:i<a.size):Rv a (i+1)=a.getD i dk::Rv a i:=by
 unfold Rv
 rw [bO,List.reverse_append,aa (by simpa using h)]
 simp [Array.getD,h]
theorem xa0 (h0:0<i)(h:i<=a.size):Rv a i=a.getD (i-1) dk::Rv a (i-1):=by
 have:=xf9 (a:=a) (i:=i-1) (by lia)
 rwa [show i-1+1=i by lia] at this
theorem yz9 {x:Keyed}(hx:x∈(a.extract k i).reverse.toList)(hi:i<=a.size):∃j,k<=j/\j<i/\x=a.getD j dk:=by
 rw [Array.toList_reverse,fB,Array.toList_extract] at hx
 simp only [List.extract] at hx
 obtain ⟨j,h1,h2,rfl⟩:=zd5 hx
 exact ⟨k+j,by lia,by lia,rfl⟩
theorem xg0 (h:i<=a.size):(a.extract k i).reverse.size=i-k:=by
 rw [Array.size_reverse,Array.size_extract]
 lia
theorem yj0 {x:Keyed}(hx:x∈Rv a i):∃j,j<i/\j<a.size/\x=a.getD j dk:=by
 unfold Rv at hx
 rw [fB] at hx
 have:=zd5 (a:=a) (i:=0) (k:=i) (by rwa [dv])
 simpa using this
theorem xa1 (h:k<=i)(hi:i<=a.size):Rv a i=(a.extract k i).reverse.toList++Rv a k:=by
 unfold Rv
 rw [Array.toList_reverse,Array.toList_extract,←List.reverse_append]
 simp only [List.extract]
 rw [show i=k+(i-k) by lia,List.take_add,show k+(i-k)-k=i-k by lia]
theorem SL.rv {R:Keyed->Int}(u:SL R a.toList):SL (λx=>-R x) (Rv a i):=by
 unfold Rv SL
 rw [List.pairwise_reverse]
 refine (List.Pairwise.sublist (bB _ _) u).imp λh=>?_
 show -R _<=-R _
 lia
theorem yv5:(a.extract 0 i).toList=(Rv a i).reverse:=by
 unfold Rv
 rw [List.reverse_reverse,Array.toList_extract]
 simp [List.extract]
end
section
variable {a:Array Keyed}{na:Nat}{key:Keyed}{st:SortSt}{Q:Option Nat->SortSt->Prop}
theorem xo2 (c:Cmp M A E s κ G R)(hk:kindOf st=κ)(ga:∀x∈a.toList,G x)(hkey:G key)(ua:SL R a.toList)(h0:0<na)(hna:na<=a.size)(h:∀k,k<=na->(∀i,i<k->R (a.getD i dk)<=R key)->(∀i,k<=i->i<na->R key<R (a.getD i dk))->Q (some k) st):wpS M A E s (za1 false key a 0 na (na-1)) Q st:=by
 refine P0 c hk (λi hi=>ga _ (o8 (by lia))) hkey (by lia) (by lia) (λi j hij hj=>ua.get (by lia) (by lia)) λk hp=>?_
 obtain ⟨h1,h2⟩:=hp.no
 simp only [bo] at h2
 exact h k h1 (λi hi=>(h2 i (by lia)).mpr hi) λi hi hi'=>Int.not_le.mp λz'=>Nat.not_lt_of_le hi ((h2 i hi').mp z')
theorem xo1 (c:Cmp M A E s κ G R)(hk:kindOf st=κ)(ga:∀x∈a.toList,G x)(hkey:G key)(ua:SL R a.toList)(h0:0<na)(hna:na<=a.size)(h:∀k,k<=na->(∀i,i<k->R (a.getD i dk)<R key)->(∀i,k<=i->i<na->R key<=R (a.getD i dk))->Q (some k) st):wpS M A E s (za1 true key a 0 na (na-1)) Q st:=by
 refine P0 c hk (λi hi=>ga _ (o8 (by lia))) hkey (by lia) (by lia) (λi j hij hj=>ua.get (by lia) (by lia)) λk hp=>?_
 obtain ⟨h1,h2⟩:=hp.yes
 simp only [bo] at h2
 exact h k h1 (λi hi=>(h2 i (by lia)).mpr hi) λi hi hi'=>bU.mp λz'=>Nat.not_lt_of_le hi ((h2 i hi').mp z')
end
structure HiI (R:Keyed->Int) (tot:List Keyed) (a b:Array Keyed) (n:Nat) (out:Array Keyed) (na nb:Nat):Prop where
 jn:Jn (λx=>-R x) tot out.toList (Rv a na) (Rv b nb)
 ua:SL R a.toList
 ub:SL R b.toList
 sz:out.size+na+nb=a.size+b.size
 hn:n<=out.size
 ha:na<=a.size
 hb:nb<=b.size
section
variable {a b out:Array Keyed}{n n' na nb k:Nat}{tot:List Keyed}
theorem HiI.weak (h:HiI R tot a b n out na nb)(w:n'<=n):HiI R tot a b n' out na nb:=⟨h.jn,h.ua,h.ub,h.sz,aB w h.hn,h.ha,h.hb⟩
theorem HiI.swap (h:HiI R tot a b n out na nb):HiI R tot b a n out nb na:=⟨h.jn.swap,h.ub,h.ua,by have:=h.sz;lia,h.hn,h.hb,h.ha⟩
theorem xo3 {z:Int}(u:SL R a.toList)(hi:na<=a.size)(hz:R (a.getD (na-1) dk)<=z):∀x∈Rv a na,R x<=z:=λx hx=>by
 obtain ⟨j,h1,h2,rfl⟩:=yj0 hx
 exact ci (u.get (by lia) (by lia)) hz
theorem HiI.pushA (h:HiI R tot a b n out na nb)(h0:0<na)(hr:R (b.getD (nb-1) dk)<=R (a.getD (na-1) dk)):HiI R tot a b (n+1) (out.push (a.getD (na-1) dk)) (na-1) nb:=by
 have j:=h.jn
 have hs:=h.sz
 rw [xa0 h0 h.ha] at j
 refine ⟨?_,h.ua,h.ub,by rw [Array.size_push];lia,by rw [Array.size_push];exact Nat.succ_le_succ h.hn,aB (Nat.sub_le _ _) h.ha,h.hb⟩
 rw [Array.toList_push]
 exact Jn.moveA (ch:=[a.getD (na-1) dk]) j λx hx y hy=>by rw [ah.mp hx];exact Int.neg_le_neg (xo3 h.ub h.hb hr y hy)
theorem HiI.extA (h:HiI R tot a b n out na nb)(hk:k<=na)(hr:∀i,k<=i->i<na->R (b.getD (nb-1) dk)<=R (a.getD i dk)):HiI R tot a b n (out++(a.extract k na).reverse) k nb:=by
 have j:=h.jn
 have hs:=h.sz
 rw [xa1 hk h.ha] at j
 refine ⟨?_,h.ua,h.ub,by rw [Array.size_append,xg0 h.ha];lia,by rw [Array.size_append];exact aB h.hn (cv _ _),aB hk h.ha,h.hb⟩
 rw [Array.toList_append]
 refine j.moveA λz hz y hy=>?_
 obtain ⟨i,h1,h2,rfl⟩:=yz9 hz h.ha
 exact Int.neg_le_neg (xo3 h.ub h.hb (hr i h1 h2) y hy)
theorem HiI.fin (h:HiI R tot a b n out na nb)(hh:∀x∈Rv b nb,∀y∈Rv a na,R y<=R x):(a.extract 0 na++b.extract 0 nb++out.reverse).toList.Perm tot/\SL R (a.extract 0 na++b.extract 0 nb++out.reverse).toList:=by
 have:=h.jn.swap.fin (λx hx y hy=>Int.neg_le_neg (hh x hx y hy))
 rw [show (a.extract 0 na++b.extract 0 nb++out.reverse).toList=(out.toList++Rv b nb++Rv a na).reverse by rw [Array.toList_append,Array.toList_append,yv5,yv5,Array.toList_reverse,List.reverse_append,List.reverse_append,bD]]
 refine ⟨(List.reverse_perm _).trans this.1,?_⟩
 unfold SL
 rw [List.pairwise_reverse]
 exact this.2.imp λh=>Int.le_of_neg_le_neg h
theorem HiI.fin1 (h:HiI R tot a b n out na nb)(e:na=0):(a.extract 0 na++b.extract 0 nb++out.reverse).toList.Perm tot/\SL R (a.extract 0 na++b.extract 0 nb++out.reverse).toList:=h.fin λx _ y hy=>by rw [e] at hy;cases hy
theorem HiI.fin2 (h:HiI R tot a b n out na nb)(e:nb=1)(hf:∀x∈a.toList,R (b.getD 0 dk)<R x):(b.extract 0 nb++a.extract 0 na++out.reverse).toList.Perm tot/\SL R (b.extract 0 nb++a.extract 0 na++out.reverse).toList:=h.swap.fin λx hx y hy=>by
 obtain ⟨i,h1,h2,rfl⟩:=yj0 hx
 obtain ⟨i',h1',h2',rfl⟩:=yj0 hy
 rw [show i'=0 by lia]
 exact bx (hf _ (o8 h2))
end
theorem yi0 (c:Cmp M A E s κ G R){a b:Array Keyed}{st:SortSt}{Q:Array Keyed->SortSt->Prop}(hk:kindOf st=κ)(ga:∀x∈a.toList,G x)(gb:∀x∈b.toList,G x)(ua:SL R a.toList)(ub:SL R b.toList)(na0:0<a.size)(nb0:0<b.size)
  (hf:∀x∈a.toList,R (b.getD 0 dk)<R x) (hl:∀x∈b.toList,R x<R (a.getD (a.size-1) dk))
  (h:∀(out:Array Keyed) st',Sg st st'->out.toList.Perm (a.toList++b.toList)->SL R out.toList->Q out st'):wpS M A E s (yx5 a b) Q st:=by
 have sub1:∀{i n:Nat},0<i->i<=n->i-1<n:=λh1 h2=>aO (Nat.sub_lt h1 Nat.zero_lt_one) h2
 refine wpS_bind (D3 (wpS_bind (l7 (sub1 na0 (af _)) ?_)))
 obtain ⟨tot,etot⟩:∃tot,tot=a.toList++b.toList:=⟨_,rfl⟩
 rw [←etot] at h
 have j0:HiI R tot a b 1 #[a.getD (a.size-1) dk] (a.size-1) b.size:=by
  have zz9:∀x:Array Keyed,Rv x x.size=x.toList.reverse:=λx=>by unfold Rv;rw [bF (by simp)]
  refine HiI.pushA (out:=#[]) (n:=0) ⟨⟨?_,.nil,ua.rv,ub.rv,λ_ h=>(by cases h),λ_ h=>(by cases h)⟩,ua,ub,by rw [Array.size_empty,bo],aQ _,af _,af _⟩ na0 (bx (hl _ (o8 (sub1 nb0 (af _)))))
  rw [etot,zz9,zz9]
  exact List.Perm.append (List.reverse_perm _) (List.reverse_perm _)
 have fin1:∀{st':SortSt} {out:Array Keyed} {n na nb:Nat},Sg st st'->HiI R tot a b n out na nb->na=0->Q (a.extract 0 na++b.extract 0 nb++out.reverse) st':=λsg j e=>h _ _ sg (j.fin1 e).1 (j.fin1 e).2
 have fin2:∀{st':SortSt} {out:Array Keyed} {n na nb:Nat},Sg st st'->HiI R tot a b n out na nb->nb=1->Q (b.extract 0 nb++a.extract 0 na++out.reverse) st':=λsg j e=>h _ _ sg (j.fin2 e hf).1 (j.fin2 e hf).2
 have sg0:Sg st st:=⟨rfl,rfl,rfl,rfl⟩
 have gt1:∀{i:Nat},0<i->i≠1->1<i:=λh e=>cZ h (Ne.symm e)
 have gt0:∀{i:Nat},1<i->0<i:=λh=>Nat.lt_of_succ_lt h
 have sub0:∀{i:Nat},1<i->0<i-1:=λh=>Nat.sub_pos_of_lt h
 refine V6 (λh1=>wpS_pure (fin1 sg0 j0 h1)) λh1=>V6 (λh2=>wpS_pure (fin2 sg0 j0 h2)) λh2=>wpS_bind (wpS_get ?_)
 refine wpS_bind (wpS_mono (Q:=λq st'=>∃r,q.1=some r/\Q r st') (wpS_forRange (I:=λj q st'=>∃na nb out mg,q=(none,na,nb,out,mg)/\Sg st st'/\HiI R tot a b (j+1) out na nb/\0<na/\1<nb) ?_ ?_ ⟨_,_,#[a.getD (a.size-1) dk],_,rfl,sg0,j0,Nat.pos_of_ne_zero h1,gt1 nb0 h2⟩) ?_)
 ·rintro j q st' _ hj ⟨na,nb,out,mg,rfl,sg,jn,hna,hnb⟩
  dsimp -zeta only
  have hk':kindOf st'=κ:=sg.k.trans hk
  refine wpS_bind (wpS_mono (Q:=λq st2=>st2=st'/\((∃r,q.1=some r/\Q r st')∨∃na nb out x y,q=(none,na,nb,out,x,y)/\HiI R tot a b (j+2) out na nb/\0<na/\1<nb))
   (wpS_forRange (I:=λi q st2=>st2=st'/\∃na nb out x y,q=(none,na,nb,out,x,y)/\HiI R tot a b (j+1+(if i=0 then 0 else 1)) out na nb/\0<na/\1<nb) ?_ ?_ ⟨rfl,na,nb,out,0,0,rfl,jn,hna,hnb⟩) ?_)
  ·rintro i q st2 _ hi ⟨rfl,na,nb,out,x,y,rfl,jn,hna,hnb⟩
   dsimp only
   have w1:j+2<=j+1+(if i=0 then 0 else 1)+1:=Nat.succ_le_succ (cv _ _)
   have w2:j+1+(if i+1=0 then 0 else 1)<=j+1+(if i=0 then 0 else 1)+1:=by rw [if_neg (Nat.succ_ne_zero i)];exact w1
   have la:=sub1 hna jn.ha
   have lb:=sub1 (gt0 hnb) jn.hb
   refine wpS_bind (l7 lb (wpS_bind (l7 la (wpS_bind (c.lt (gb _ (o8 lb)) (ga _ (o8 la)) hk' ?_)))))
   refine ya2 (λhlt=>wpS_bind (l7 la ?_)) λhlt=>wpS_bind (l7 lb ?_)
   ·have jn':=jn.pushA hna (bx hlt)
    exact V6 (λe1=>wpS_pure ⟨rfl,.inl ⟨_,rfl,fin1 sg jn' e1⟩⟩) λe1=>N9 (λe2=>wpS_pure ⟨rfl,.inr ⟨_,_,_,_,_,rfl,jn'.weak w1,Nat.pos_of_ne_zero e1,hnb⟩⟩) λe2=>wpS_pure ⟨rfl,_,_,_,_,_,rfl,jn'.weak w2,Nat.pos_of_ne_zero e1,hnb⟩
   ·have jn':=(jn.swap.pushA (gt0 hnb) (bU.mp hlt)).swap
    exact V6 (λe1=>wpS_pure ⟨rfl,.inl ⟨_,rfl,fin2 sg jn' e1⟩⟩) λe1=>N9 (λe2=>wpS_pure ⟨rfl,.inr ⟨_,_,_,_,_,rfl,jn'.weak w1,hna,gt1 (sub0 hnb) e1⟩⟩) λe2=>wpS_pure ⟨rfl,_,_,_,_,_,rfl,jn'.weak w2,hna,gt1 (sub0 hnb) e1⟩
  ·rintro q st2 ⟨rfl,na,nb,out,x,y,rfl,jn,hna,hnb⟩
   rw [if_neg (by lia)] at jn
   exact ⟨rfl,.inr ⟨_,_,_,_,_,rfl,jn,hna,hnb⟩⟩
  rintro q st2 ⟨rfl,(⟨r,e,hq⟩|⟨na,nb,out,x,y,rfl,jn,hna,hnb⟩)⟩
  ·obtain ⟨q1,q2⟩:=q
   cases e
   exact wpS_pure ⟨_,rfl,hq⟩
  refine wpS_bind (D3 ?_)
  refine wpS_bind (wpS_mono (Q:=λq st2=>Sg st st2/\((∃r,q.1=some r/\Q r st2)∨∃na nb out m x y,q=(none,na,nb,out,m,x,y)/\HiI R tot a b (j+2) out na nb/\0<na/\1<nb))
   (wpS_forRange (I:=λi q st2=>Sg st st2/\∃na nb out m x y,q=(none,na,nb,out,m,x,y)/\HiI R tot a b (j+2) out na nb/\0<na/\1<nb) ?_ ?_ ⟨sg,na,nb,out,_,_,_,rfl,jn,hna,hnb⟩) ?_)
  ·rintro i q st2 _ hi ⟨sg2,na,nb,out,m,x,y,rfl,jn,hna,hnb⟩
   dsimp -zeta only
   extract_lets -underBinder +onlyGivenNames s1 o1 s2 i1 s3 b1 s4 m1 s5 ac bc jp
   refine yw5 (f:=jp ()) (x:=m-1) (y:=m) λm2=>?_
   dsimp -zeta only [jp,s1,o1,s2,i1,s3,b1,s4,m1,s5,ac,bc]
   clear jp ac bc s5 m1 s4 b1 s3 i1 s2 o1 s1
   have sg3:∀g:Nat,Sg st (SortSt.mk' (kindOf st2) (arrOf st2) (pendingOf st2) g (failedOf st2)):=λg=>⟨sg2.k,sg2.a,sg2.p,sg2.f⟩
   have hk2:=sg2.k.trans hk
   have lb:=sub1 (gt0 hnb) jn.hb
   refine wpS_bind (wpS_modify (wpS_bind (l7 lb (wpS_bind (xo2 c hk2 ga (gb _ (o8 lb)) ua hna jn.ha λk hk1 hle hlt=>?_)))))
   dsimp -zeta only
   extract_lets -underBinder +onlyGivenNames k0 ac jp
   refine zt8 (f:=jp ()) (λi1 o1=>HiI R tot a b (j+2) o1 i1 nb/\0<i1/\R (a.getD (i1-1) dk)<=R (b.getD (nb-1) dk)) ?_ λJ=>?_
   ·rintro na1 out1 ⟨jn1,hi1,hle1⟩
    dsimp -zeta only [jp]
    clear jp
    have la:=sub1 hi1 jn1.ha
    have jn2:=(jn1.swap.pushA (gt0 hnb) hle1).swap
    refine wpS_bind (l7 lb ?_)
    refine V6 (λe2=>wpS_pure ⟨sg3 _,.inl ⟨_,rfl,fin2 (sg3 _) jn2 e2⟩⟩) λe2=>?_
    refine wpS_bind (l7 la (wpS_bind (xo1 c hk2 gb (ga _ (o8 la)) ub (sub0 hnb) jn2.hb λk1 hk3 hle3 hlt3=>?_)))
    dsimp -zeta only
    extract_lets -underBinder +onlyGivenNames k0 bc jp
    refine zt8 (f:=jp ()) (λi3 o3=>HiI R tot a b (j+2) o3 na1 i3/\1<i3/\R (b.getD (i3-1) dk)<=R (a.getD (na1-1) dk)) ?_ λJ=>?_
    ·rintro nb3 out3 ⟨jn3,hnb3,hge⟩
     dsimp -zeta only [jp]
     clear jp
     have jn4:=jn3.pushA hi1 hge
     refine wpS_bind (l7 la ?_)
     refine V6 (λe5=>wpS_pure ⟨sg3 _,.inl ⟨_,rfl,fin1 (sg3 _) jn4 e5⟩⟩) λe5=>?_
     have jn5:=jn4.weak (bY _)
     exact yh1 (wpS_pure ⟨sg3 _,.inr ⟨_,_,_,_,_,_,rfl,jn5,Nat.pos_of_ne_zero e5,hnb3⟩⟩) (wpS_pure ⟨sg3 _,_,_,_,_,_,_,rfl,jn5,Nat.pos_of_ne_zero e5,hnb3⟩)
    ·clear_value jp
     have jn2':=jn2.weak (bY _)
     have hk10:0<k1:=Nat.pos_of_ne_zero λe=>absurd (hf _ (o8 la)) (bU.mpr (hlt3 0 (fj e) (sub0 hnb)))
     have hr:R (b.getD (k1-1) dk)<=R (a.getD (na1-1) dk):=bx (hle3 _ (Nat.sub_lt hk10 Nat.zero_lt_one))
     refine N9 (λe=>?_) λe=>?_
     ·have jn3:=(jn2'.swap.extA hk3 hlt3).swap
      exact V6 (λe4=>wpS_pure ⟨sg3 _,.inl ⟨_,rfl,fin2 (sg3 _) jn3 e4⟩⟩) λe4=>V6 (λe5=>absurd e5 (dR hk10)) λ_=>J _ _ ⟨jn3,gt1 hk10 e4,hr⟩
     ·obtain rfl:nb-1=k1:=cp (Nat.sub_eq_zero_iff_le.mp (Nat.eq_zero_of_not_pos e)) hk3
      exact J _ _ ⟨jn2',gt1 hk10 e2,hr⟩
   ·clear_value jp
    refine N9 (λe=>?_) λe=>?_
    ·have jn1:=jn.extA hk1 λi h1 h2=>bx (hlt i h1 h2)
     exact V6 (λe1=>wpS_pure ⟨sg3 _,.inl ⟨_,rfl,fin1 (sg3 _) jn1 e1⟩⟩) λe1=>J _ _ ⟨jn1,Nat.pos_of_ne_zero e1,hle _ (Nat.sub_lt (Nat.pos_of_ne_zero e1) Nat.zero_lt_one)⟩
    ·obtain rfl:na=k:=cp (Nat.sub_eq_zero_iff_le.mp (Nat.eq_zero_of_not_pos e)) hk1
     exact J _ _ ⟨jn,hna,hle _ (Nat.sub_lt hna Nat.zero_lt_one)⟩
  ·rintro q st2 ⟨sg2,na,nb,out,m,x,y,rfl,jn,hna,hnb⟩
   exact ⟨sg2,.inr ⟨_,_,_,_,_,_,rfl,jn,hna,hnb⟩⟩
  ·rintro q st2 ⟨sg2,(⟨r,e,hq⟩|⟨na,nb,out,m,x,y,rfl,jn,hna,hnb⟩)⟩
   ·obtain ⟨q1,q2⟩:=q
    cases e
    exact wpS_pure ⟨_,rfl,hq⟩
   ·exact wpS_bind (wpS_modify (wpS_pure ⟨_,_,_,_,rfl,⟨sg2.k,sg2.a,sg2.p,sg2.f⟩,jn,hna,hnb⟩))
 ·rintro q st' ⟨na,nb,out,mg,rfl,sg,jn,hna,hnb⟩
  have:=jn.hn
  have:=jn.sz
  lia
 ·rintro q st' ⟨r,e,hq⟩
  obtain ⟨q1,q2⟩:=q
  cases e
  exact wpS_pure hq
end
end SortG
namespace SortG
open PySem PyProof.Rows
section
variable {M:Model}{A:Around}{E:Value->Shared->Prop}{s:Shared}{κ:SortKind}{G:Keyed->Prop}{R:Keyed->Int}
structure Seg (xs ys:Array Keyed) (lo hi:Nat):Prop where
 size:ys.size=xs.size
 perm:ys.toList.Perm xs.toList
 out:∀p,p<lo∨hi<=p->ys[p]?=xs[p]?
theorem Seg.refl (xs:Array Keyed)(lo hi:Nat):Seg xs xs lo hi:=⟨rfl,.refl _,λ_ _=>rfl⟩
theorem Seg.trans {xs ys zs:Array Keyed}{lo hi:Nat}(h:Seg xs ys lo hi)(h':Seg ys zs lo hi):Seg xs zs lo hi:=⟨h'.size.trans h.size,h'.perm.trans h.perm,λp hp=>(h'.out p hp).trans (h.out p hp)⟩
theorem Seg.mono {xs ys:Array Keyed}{lo hi lo' hi':Nat}(h:Seg xs ys lo hi)(h1:lo'<=lo)(h2:hi<=hi'):Seg xs ys lo' hi':=⟨h.size,h.perm,λp hp=>h.out p (by lia)⟩
abbrev Ky (R:Keyed->Int) (xs:Array Keyed) (i:Nat):Int:=R (xs.getD i dk)
theorem za6 {xs ys:Array Keyed}{i j:Nat}(h:ys[i]?=xs[j]?):Ky R ys i=Ky R xs j:=by
 have e:∀(zs:Array Keyed) (k:Nat),zs.getD k dk=zs[k]?.getD dk:=λzs k=>by simp
 unfold Ky
 rw [e,e,h]
theorem Seg.ky {xs ys:Array Keyed}{lo hi p:Nat}(h:Seg xs ys lo hi)(hp:p<lo∨hi<=p):Ky R ys p=Ky R xs p:=za6 (h.out p hp)
theorem yj2 {xs:Array Keyed}{i j:Nat}(hj:j<=xs.size)(hij:i<=j):Seg xs (mirror xs i j ((j-i) / 2)) i j:=by
 refine ⟨mirror_size _ _ _ _,(mirror_perm _ _ _ _).toList,λp hp=>?_⟩
 rw [getElem?_mirror hj _ (by lia),if_neg (by lia)]
theorem ze3 {xs:Array Keyed}{i j:Nat}(hj:j<=xs.size){p:Nat}(h1:i<=p)(h2:p<j):Ky R (mirror xs i j ((j-i) / 2)) p=Ky R xs (i+j-1-p):=by
 refine za6 ?_
 rw [getElem?_mirror hj _ (by lia)]
 split
 ·rfl
 ·congr 1
  lia
def UpS (R:Keyed->Int)(xs:Array Keyed)(lo n:Nat):Prop:=∀i j,lo<=i->i<=j->j<lo+n->Ky R xs i<=Ky R xs j
def DnS (R:Keyed->Int)(xs:Array Keyed)(lo n:Nat):Prop:=∀i j,lo<=i->i<=j->j<lo+n->Ky R xs j<=Ky R xs i
theorem UpS.succ {xs:Array Keyed}{lo n:Nat}(h:UpS R xs lo n)(h1:n=0∨Ky R xs (lo+n-1)<=Ky R xs (lo+n)):UpS R xs lo (n+1):=λi j hi hij hj=>by
 by_cases e:j=lo+n
 ·by_cases e2:i=j
  ·rw [e2];exact dG _
  ·rw [e]
   rcases h1 with h1|h1
   ·lia
   ·exact ci (h i (lo+n-1) hi (by lia) (by lia)) h1
 ·exact h i j hi hij (by lia)
theorem DnS.succ {xs:Array Keyed}{lo n:Nat}(h:DnS R xs lo n)(h1:n=0∨Ky R xs (lo+n)<=Ky R xs (lo+n-1)):DnS R xs lo (n+1):=λi j hi hij hj=>by
 by_cases e:j=lo+n
 ·by_cases e2:i=j
  ·rw [e2];exact dG _
  ·rw [e]
   rcases h1 with h1|h1
   ·lia
   ·exact ci h1 (h i (lo+n-1) hi (by lia) (by lia))
 ·exact h i j hi hij (by lia)
abbrev Sx (κ:SortKind) (xs:Array Keyed) (pd:Array (Nat×Nat×Nat)) (g:Nat):SortSt:=SortSt.mk' κ xs pd g none
variable {xs:Array Keyed}{pd:Array (Nat×Nat×Nat)}{g:Nat}
theorem za9 (c:Cmp M A E s κ G R){i j:Nat}{Q:Option Bool->SortSt->Prop}(hG:∀x∈xs.toList,G x)(hi:i<xs.size)(hj:j<xs.size)(h:Q (some (decide (Ky R xs i<Ky R xs j))) (Sx κ xs pd g)):wpS M A E s (ltAt' i j) Q (Sx κ xs pd g):=by
 rw [ltAt'_eq]
 refine wpS_bind (wpS_get (wpS_bind (l7 hi (wpS_bind (l7 hj ?_)))))
 exact c.lt (hG _ (o8 hi)) (hG _ (o8 hj)) rfl h
theorem zw7 {i j:Nat}{Q:Unit->SortSt->Prop}(h:Q () (Sx κ (mirror xs i j ((j-i) / 2)) pd g)):wpS M A E s (reverseSlice' i j) Q (Sx κ xs pd g):=by
 rw [reverseSlice'_eq]
 exact wpS_modify h
theorem xd8 {k l:Nat}{Q:Unit->SortSt->Prop}(h:Q () (Sx κ (bubble xs k (k-l)) pd g)):wpS M A E s (moveDown' k l) Q (Sx κ xs pd g):=by
 rw [moveDown'_eq]
 exact wpS_modify h
theorem xh8 {α β:Type}{f:β->StateT SortSt Sem α}{x:StateT SortSt Sem α}{Q:α->SortSt->Prop}{st0:SortSt}(P:SortSt->Prop)(h:∀b st,P st->wpS M A E s (f b) Q st)(k:(∀b st,P st->wpS M A E s (f b) Q st)->wpS M A E s x Q st0):wpS M A E s x Q st0:=k h
theorem Seg.mir {zs:Array Keyed}{lo hi i j:Nat}(hs:Seg xs zs lo hi)(hz:hi<=xs.size)(h1:lo<=i)(h2:i<=j)(h3:j<=hi):Seg xs (mirror zs i j ((j-i) / 2)) lo hi:=hs.trans ((yj2 (by rw [hs.size];exact aB h3 hz) h2).mono h1 h3)
theorem zt9 {ys:Array Keyed}{i j:Nat}(hj:j<=ys.size)(he:∀p,i<=p->p<j->Ky R ys p=Ky R ys (j-1))(p:Nat):Ky R (mirror ys i j ((j-i) / 2)) p=Ky R ys p:=by
 by_cases hp:i<=p/\p<j
 ·rw [ze3 hj hp.1 hp.2,he _ (by lia) (by lia),he p hp.1 hp.2]
 ·refine za6 ?_
  rw [getElem?_mirror_all hj,if_neg hp]
theorem yt9 (c:Cmp M A E s κ G R){lo nrem n0:Nat}{ys:Array Keyed}(gy:∀x∈ys.toList,G x)(hz:lo+nrem<=ys.size)(h0:1<=n0)(h0':n0<=nrem)(hu:UpS R ys lo n0){Q:Option (Option Nat)×Nat->SortSt->Prop}{f:Nat->Option (Option Nat)×Nat->StateT SortSt Sem (ForInStep (Option (Option Nat)×Nat))}
  (hf:∀x n,∃k,f x (none,n)=ltAt' (lo+n) (lo+n-1) >>= k/\k (some true)=pure (.done (none,n))/\k (some false)=pure (.yield (none,n+1)))
  (hq:∀n,n0<=n->n<=nrem->UpS R ys lo n->(n<nrem->Ky R ys (lo+n)<Ky R ys (lo+n-1))->Q (none,n) (Sx κ ys pd g)):wpS M A E s (forIn [n0:nrem] (none,n0) f) Q (Sx κ ys pd g):=by
 refine wpS_forRange (I:=λi q st=>q=(none,i)/\st=Sx κ ys pd g/\UpS R ys lo i) ?_ ?_ ⟨rfl,rfl,hu⟩
 ·rintro i q st hi1 hi2 ⟨rfl,rfl,hu⟩
  obtain ⟨k,e,e1,e2⟩:=hf i i
  rw [e]
  refine wpS_bind (za9 c gy (by lia) (by lia) ?_)
  by_cases hlt:Ky R ys (lo+i)<Ky R ys (lo+i-1)
  ·rw [decide_eq_true hlt,e1]
   exact wpS_pure (hq i hi1 (bu hi2) hu λ_=>hlt)
  ·rw [decide_eq_false hlt,e2]
   exact wpS_pure ⟨rfl,rfl,hu.succ (.inr (bU.mp hlt))⟩
 ·rintro q st ⟨rfl,rfl,hu⟩
  rw [fE h0'] at hu ⊢
  exact hq nrem h0' (af _) hu λz=>absurd z (aZ _)
theorem yu4 (c:Cmp M A E s κ G R){lo nrem:Nat}{Q:Option Nat->SortSt->Prop}(hG:∀x∈xs.toList,G x)(h1:1<=nrem)(hz:lo+nrem<=xs.size)
  (h:∀m ys,1<=m->m<=nrem->Seg xs ys lo (lo+nrem)->UpS R ys lo m->Q (some m) (Sx κ ys pd g)):wpS M A E s (countRun' lo nrem) Q (Sx κ xs pd g):=by
 have gs:∀{ys:Array Keyed},Seg xs ys lo (lo+nrem)->∀x∈ys.toList,G x:=λhs x hx=>hG x (hs.perm.mem_iff.mp hx)
 have hzs:∀{ys:Array Keyed},Seg xs ys lo (lo+nrem)->lo+nrem<=ys.size:=λhs=>by rw [hs.size];exact hz
 have b1:∀{n:Nat} {ys:Array Keyed},Seg xs ys lo (lo+nrem)->n<nrem->lo+n<ys.size:=λhs hn=>aO (Nat.add_lt_add_left hn _) (hzs hs)
 have b2:∀{n:Nat} {ys:Array Keyed},Seg xs ys lo (lo+nrem)->n<nrem->lo+n-1<ys.size:=λhs hn=>bT (Nat.sub_le _ _) (b1 hs hn)
 have b3:∀{n:Nat} {ys:Array Keyed},Seg xs ys lo (lo+nrem)->n<=nrem->lo+n<=ys.size:=λhs hn=>aB (Nat.add_le_add_left hn _) (hzs hs)
 have lon:∀{n:Nat},n<=nrem->lo+n<=lo+nrem:=λhn=>Nat.add_le_add_left hn _
 refine wpS_bind (yt9 c hG hz (af _) h1 (λi j hi hij hj=>by rw [show i=j by lia];exact dG _) (λx n=>⟨_,rfl,rfl,rfl⟩) λn hn1 hn2 hu hlt=>?_)
 refine V6 (λe1=>wpS_pure (h n xs hn1 hn2 (Seg.refl _ _ _) hu)) λe1=>?_
 have hn3:=cZ hn2 e1
 have hlt:=hlt hn3
 have s0:=Seg.refl xs lo (lo+nrem)
 extract_lets -underBinder +onlyGivenNames jp
 refine xh8 (f:=jp) (λst=>∃ys,st=Sx κ ys pd g/\Seg xs ys lo (lo+nrem)/\DnS R ys lo (n+1)) ?_ λJ=>?_
 ·rintro _ _ ⟨ys,rfl,hs,hd⟩
  dsimp -zeta only [jp]
  clear jp
  refine wpS_bind (D3 ?_)
  refine wpS_bind (wpS_mono (Q:=λq st=>∃n neq zs,q=(none,n,neq)/\st=Sx κ zs pd g/\Seg xs zs lo (lo+nrem)/\1<=n/\n<=nrem/\neq<n/\DnS R zs lo n/\∀p,lo+n-(neq+1)<=p->p<lo+n->Ky R zs p=Ky R zs (lo+n-1)) (wpS_forRange (I:=λi q st=>∃neq zs,q=(none,i,neq)/\st=Sx κ zs pd g/\Seg xs zs lo (lo+nrem)/\neq<i/\DnS R zs lo i/\∀p,lo+i-(neq+1)<=p->p<lo+i->Ky R zs p=Ky R zs (lo+i-1)) ?_ ?_ ⟨0,ys,rfl,rfl,hs,eK _,hd,λp h1 h2=>by rw [cp (Nat.le_sub_one_of_lt h2) h1]⟩) ?_)
  ·rintro i q st hi1 hi2 ⟨neq,zs,rfl,rfl,hs,hne,hd,ht⟩
   dsimp only
   have z1:∀{zs:Array Keyed} (p:Nat),lo+(i+1)-(0+1)<=p->p<lo+(i+1)->Ky R zs p=Ky R zs (lo+(i+1)-1):=λp h1 h2=>by rw [cp (Nat.le_sub_one_of_lt h2) h1]
   refine wpS_bind (za9 c (gs hs) (b1 hs hi2) (b2 hs hi2) (ya2 (λhlt=>N9 (λe=>?_) λe=>wpS_pure ⟨0,zs,rfl,rfl,hs,eK _,hd.succ (.inr (bx hlt)),z1⟩) λhlt=>wpS_bind (za9 c (gs hs) (b2 hs hi2) (b1 hs hi2) (ya2 (λhgt=>wpS_pure ⟨i,neq,zs,rfl,rfl,hs,aB (eK n) hi1,bu hi2,hne,hd,ht⟩) λhgt=>?_))))
   ·have ks:=zt9 (b3 hs (bu hi2)) ht
    exact wpS_bind (zw7 (wpS_pure ⟨0,_,rfl,rfl,hs.mir hz (by lia) (Nat.sub_le _ _) (lon (bu hi2)),eK _,DnS.succ (λi' j' h1 h2 h3=>by rw [ks,ks];exact hd i' j' h1 h2 h3) (.inr (by rw [ks,ks];exact bx hlt)),z1⟩))
   ·refine wpS_pure ⟨neq+1,zs,rfl,rfl,hs,Nat.succ_lt_succ hne,hd.succ (.inr (bU.mp hgt)),λp h1 h2=>?_⟩
    have ee:Ky R zs (lo+i-1)=Ky R zs (lo+i):=eT (bU.mp hlt) (bU.mp hgt)
    show _=Ky R zs (lo+i)
    by_cases e:p=lo+i
    ·rw [e]
    ·rw [ht p (by lia) (by lia),ee]
  ·rintro q st ⟨neq,zs,rfl,rfl,hs,hne,hd,ht⟩
   rw [fE hn3] at hne hd ht ⊢
   exact ⟨nrem,neq,zs,rfl,rfl,hs,h1,af _,hne,hd,ht⟩
  ·rintro q st ⟨n,neq,zs,rfl,rfl,hs,hn1,hn2,hne,hd,ht⟩
   extract_lets -underBinder +onlyGivenNames r1 s1 n1 q1
   dsimp -zeta only [r1,s1,n1,q1]
   extract_lets -underBinder +onlyGivenNames jp
   refine xh8 (f:=jp) (λst=>∃vs,st=Sx κ vs pd g/\Seg xs vs lo (lo+nrem)/\DnS R vs lo n) ?_ λJ=>?_
   ·rintro _ _ ⟨vs,rfl,hs,hd⟩
    dsimp -zeta only [jp]
    clear jp
    have hv:=b3 hs hn2
    have hs2:=hs.mir hz (af _) (cv _ _) (lon hn2)
    exact wpS_bind (zw7 (wpS_bind (yt9 c (gs hs2) (hzs hs2) hn1 hn2 (λi j hi hij hj=>by rw [ze3 hv hi (bT hij hj),ze3 hv (aB hi hij) hj];exact hd _ _ (by lia) (by lia) (by lia)) (λx n=>⟨_,rfl,rfl,rfl⟩) λm hm1 hm2 hum _=>wpS_pure (h m _ (aB hn1 hm1) hm2 hs2 hum))))
   ·clear_value jp
    refine N9 (λe=>?_) λe=>J _ _ ⟨zs,rfl,hs,hd⟩
    have ks:=zt9 (b3 hs hn2) ht
    exact wpS_bind (zw7 (J _ _ ⟨_,rfl,hs.mir hz (by lia) (Nat.sub_le _ _) (lon hn2),λi' j' h1 h2 h3=>by rw [ks,ks];exact hd i' j' h1 h2 h3⟩))
 ·clear_value jp
  refine N9 (λe2=>?_) λe2=>J _ _ ⟨xs,rfl,s0,DnS.succ (λi j hi hij hj=>by rw [show i=j by lia];exact dG _) (.inr (bx hlt))⟩
  refine wpS_bind (za9 c hG (b1 s0 h1) (b2 s0 hn3) (ya2 (λe3=>wpS_pure (h n xs hn1 hn2 s0 hu)) λe3=>wpS_bind (zw7 ?_)))
  have all:∀p,lo<=p->p<lo+n->Ky R xs p=Ky R xs (lo+n-1):=λp hp1 hp2=>eT (hu p (lo+n-1) hp1 (by lia) (by lia)) (ci (bU.mp e3) (hu lo p (af _) hp1 hp2))
  have ks:=zt9 (b3 s0 hn2) all
  exact J _ _ ⟨_,rfl,s0.mir hz (af _) (cv _ _) (lon hn2),DnS.succ (λi j hi hij hj=>by rw [ks,ks,all i hi (bT hij hj),all j (aB hi hij) hj];exact dG _) (.inr (by rw [ks,ks];exact bx hlt))⟩
theorem xj1 (c:Cmp M A E s κ G R){lo n ok:Nat}{Q:Bool->SortSt->Prop}(hG:∀x∈xs.toList,G x)(h1:1<=ok)(h2:ok<=n)(hz:lo+n<=xs.size)(hu:UpS R xs lo ok)
  (h:∀ys,Seg xs ys lo (lo+n)->UpS R ys lo n->Q true (Sx κ ys pd g)):wpS M A E s (binarySort' lo n ok) Q (Sx κ xs pd g):=by
 refine wpS_bind (wpS_mono (Q:=λq st=>q=(none,())/\∃ys,st=Sx κ ys pd g/\Seg xs ys lo (lo+n)/\UpS R ys lo n) (wpS_forRange (I:=λk q st=>q=(none,())/\∃ys,st=Sx κ ys pd g/\Seg xs ys lo (lo+n)/\UpS R ys lo k) ?_ ?_ ⟨rfl,xs,rfl,Seg.refl _ _ _,by rw [show max ok 1=ok by lia];exact hu⟩) ?_)
 ·rintro k q st hk1 hk2 ⟨rfl,ys,rfl,hs,hu⟩
  have hz':lo+n<=ys.size:=by rw [hs.size];exact hz
  have gy:∀x∈ys.toList,G x:=λx hx=>hG x (hs.perm.mem_iff.mp hx)
  dsimp only
  refine wpS_bind (wpS_mono (Q:=λq st=>∃l r,q=(none,l,r)/\st=Sx κ ys pd g/\l<=k/\(∀i,i<l->Ky R ys (lo+i)<=Ky R ys (lo+k))/\∀i,l<=i->i<k->Ky R ys (lo+k)<Ky R ys (lo+i)) (wpS_forRange (I:=λj q st=>∃l r,q=(none,l,r)/\st=Sx κ ys pd g/\l<=r/\r<=k/\r-l<=k-j/\(∀i,i<l->Ky R ys (lo+i)<=Ky R ys (lo+k))/\∀i,r<=i->i<k->Ky R ys (lo+k)<Ky R ys (lo+i)) ?_ ?_ ⟨0,k,rfl,rfl,by lia,by lia,by lia,λi hi=>absurd hi (cW _),λi hi hi'=>absurd hi' (by lia)⟩) ?_)
  ·rintro j q st _ hj ⟨l,r,rfl,rfl,b1,b2,b3,b4,b5⟩
   dsimp only
   by_cases e:l ≥ r
   ·rw [if_pos e]
    exact wpS_pure ⟨l,r,rfl,rfl,by lia,b4,λi hi hi'=>b5 i (by lia) hi'⟩
   ·rw [if_neg e]
    refine wpS_bind (za9 c gy (by lia) (by lia) ?_)
    dsimp only
    by_cases hlt:Ky R ys (lo+k)<Ky R ys (lo+(l+r) / 2)
    ·rw [decide_eq_true hlt,if_pos rfl]
     exact wpS_pure ⟨l,_,rfl,rfl,by lia,by lia,by lia,b4,λi hi hi'=>by
      have:=hu (lo+(l+r) / 2) (lo+i) (by lia) (by lia) (by lia)
      lia⟩
    ·rw [decide_eq_false hlt,if_neg aI]
     exact wpS_pure ⟨_,r,rfl,rfl,by lia,by lia,by lia,λi hi=>by
      have:=hu (lo+i) (lo+(l+r) / 2) (by lia) (by lia) (by lia)
      lia,b5⟩
  ·rintro q st ⟨l,r,rfl,rfl,b1,b2,b3,b4,b5⟩
   exact ⟨l,r,rfl,rfl,by lia,b4,λi hi hi'=>b5 i (by lia) hi'⟩
  ·rintro q st ⟨l,r,rfl,rfl,b1,b2,b3⟩
   dsimp only
   refine wpS_bind (xd8 (wpS_pure ⟨rfl,_,rfl,hs.trans ⟨bubble_size _ _ _,(bubble_perm _ _ _).toList,λp hp=>?_⟩,?_⟩))
   ·rw [getElem?_bubble (by lia) _ (by lia),if_neg (by lia),if_neg (by lia)]
   ·have kb:∀p,Ky R (bubble ys (lo+k) (lo+k-(lo+l))) p=if p=lo+l then Ky R ys (lo+k) else if lo+l<p/\p<=lo+k then Ky R ys (p-1) else Ky R ys p:=λp=>by
     have e:=getElem?_bubble (xs:=ys) (src:=lo+k) (by lia) (lo+k-(lo+l)) (by lia) p
     rw [show lo+k-(lo+k-(lo+l))=lo+l by lia] at e
     split
     ·rename_i hp
      rw [if_pos hp] at e
      exact za6 e
     ·rename_i hp
      rw [if_neg hp] at e
      split
      ·rename_i hp'
       rw [if_pos hp'] at e
       exact za6 e
      ·rename_i hp'
       rw [if_neg hp'] at e
       exact za6 e
    intro i j hi hij hj
    rw [kb,kb]
    have c1:∀q,lo<=q->q<lo+l->Ky R ys q<=Ky R ys (lo+k):=λq h1 h2=>by
     have:=b2 (q-lo) (by lia)
     rwa [show lo+(q-lo)=q by lia] at this
    have c2:∀q,lo+l<=q->q<lo+k->Ky R ys (lo+k)<Ky R ys q:=λq h1 h2=>by
     have:=b3 (q-lo) (by lia) (by lia)
     rwa [show lo+(q-lo)=q by lia] at this
    by_cases i1:i=lo+l
    ·rw [if_pos i1]
     by_cases j1:j=lo+l
     ·rw [if_pos j1];exact dG _
     ·rw [if_neg j1,if_pos (by lia)]
      exact bx (c2 _ (by lia) (by lia))
    ·rw [if_neg i1]
     by_cases i2:lo+l<i/\i<=lo+k
     ·rw [if_pos i2,if_neg (by lia),if_pos (by lia)]
      exact hu _ _ (by lia) (by lia) (by lia)
     ·rw [if_neg i2]
      by_cases j1:j=lo+l
      ·rw [if_pos j1]
       exact c1 _ hi (by lia)
      ·rw [if_neg j1]
       by_cases j2:lo+l<j/\j<=lo+k
       ·rw [if_pos j2]
        exact hu _ _ (by lia) (by lia) (by lia)
       ·rw [if_neg j2]
        exact hu _ _ (by lia) (by lia) (by lia)
 ·rintro q st ⟨rfl,ys,rfl,hs,hu⟩
  rw [show max (max ok 1) n=n by lia] at hu
  exact ⟨rfl,ys,rfl,hs,hu⟩
 ·rintro q st ⟨rfl,ys,rfl,hs,hu⟩
  exact wpS_pure (h ys hs hu)
end
end SortG
namespace SortG
open PySem PyProof.Rows
section
variable {M:Model}{A:Around}{E:Value->Shared->Prop}{s:Shared}{κ:SortKind}{G:Keyed->Prop}{R:Keyed->Int}{xs:Array Keyed}{pd:Array (Nat×Nat×Nat)}{g:Nat}
theorem xm7 {st st':SortSt}{Q:PUnit->SortSt->Prop}(h:Q ⟨⟩ st'):wpS M A E s (set st':StateT SortSt Sem PUnit) Q st:=by
 unfold wpS
 rw [StateT.run_set]
 exact wpAny_pure ⟨rfl,h⟩
theorem yd0 {o:Nat}:∀(m:List Keyed) (n:Nat) (xs:Array Keyed),o+n+m.length<=xs.size->((m.zipIdx n).foldl (λa (q:Keyed×Nat)=>a.setIfInBounds (o+q.2) q.1) xs).toList=xs.toList.take (o+n)++m++xs.toList.drop (o+n+m.length)
 | [],n,xs,h=>by simp
 | p::m,n,xs,h=>by
  rw [List.zipIdx_cons,fF,yd0 m (n+1) _ (by simp at h ⊢;lia)]
  rw [az] at h
  have e:(xs.setIfInBounds (o+n) p).toList=xs.toList.take (o+n)++p::xs.toList.drop (o+n+1):=by
   rw [Array.toList_setIfInBounds,List.set_eq_take_append_cons_drop,if_pos (by simp;lia)]
  have hl:(xs.toList.take (o+n)).length=o+n:=by simp;lia
  have hd:xs.toList.drop (o+n+(m.length+1))=(xs.toList.drop (o+n+1)).drop m.length:=by rw [eV];congr 1;lia
  rw [az,hd]
  dsimp only
  rw [e]
  generalize xs.toList.take (o+n)=T at hl ⊢
  generalize xs.toList.drop (o+n+1)=D
  rw [show o+(n+1)+m.length=T.length+(m.length+1) by lia,show o+(n+1)=T.length+1 by lia,List.take_length_add_append,List.drop_length_add_append,List.drop_succ_cons]
  simp
theorem xb8 {lo hi:Nat}(hz:hi<=xs.size)(u:∀i j,lo<=i->i<=j->j<hi->Ky R xs i<=Ky R xs j):SL R (xs.extract lo hi).toList:=by
 unfold SL
 rw [aX]
 intro i j hi' hj' hij
 have hj:j<hi-lo:=by rw [aW,Array.size_extract] at hj';lia
 have:=u (lo+i) (lo+j) (by lia) (by lia) (by lia)
 unfold Ky at this
 have e:∀k (h:k<(xs.extract lo hi).toList.length),(xs.extract lo hi).toList[k]=xs.getD (lo+k) dk:=λk h=>by
  have hk:k<hi-lo:=by rw [aW,Array.size_extract] at h;lia
  rw [Array.getElem_toList,Array.getElem_extract]
  simp [Array.getD,show lo+k<xs.size by lia]
 rw [e,e]
 exact this
theorem E8 {lo hi:Nat}(hz:hi<=xs.size){x:Keyed}(h:x∈(xs.extract lo hi).toList):∃j,lo<=j/\j<hi/\x=xs.getD j dk:=by
 rw [Array.toList_extract] at h
 simp only [List.extract] at h
 obtain ⟨j,h1,h2,rfl⟩:=zd5 h
 exact ⟨lo+j,by lia,by lia,rfl⟩
theorem yl5 {lo hi k:Nat}(hz:hi<=xs.size)(hk:lo+k<hi):(xs.extract lo hi).getD k dk=xs.getD (lo+k) dk:=by
 have h:k<(xs.extract lo hi).size:=by rw [Array.size_extract];lia
 rw [Array.getD,dif_pos h,Array.getD,dif_pos (by lia)]
 exact Array.getElem_extract ..
theorem yh9 (c:Cmp M A E s κ G R){i sa na sb nb pw pw':Nat}{Q:Bool->SortSt->Prop}(hG:∀x∈xs.toList,G x)(hi:pd[i]?=some (sa,na,pw))(hi':pd[i+1]?=some (sb,nb,pw'))(e:sb=sa+na)(n0:0<na)(m0:0<nb)(hz:sb+nb<=xs.size)(u1:UpS R xs sa na)(u2:UpS R xs sb nb)
  (h:∀ys g',Seg xs ys sa (sb+nb)->UpS R ys sa (na+nb)->Q true (Sx κ ys ((pd.setIfInBounds i (sa,na+nb,pw)).eraseIdxIfInBounds (i+1)) g')):wpS M A E s (mergeAt' i) Q (Sx κ xs pd g):=by
 subst e
 refine wpS_bind (wpS_get ?_)
 dsimp only
 rw [show (pendingOf (Sx κ xs pd g))[i]?=some (sa,na,pw) from hi,show (pendingOf (Sx κ xs pd g))[i+1]?=some (sa+na,nb,pw') from hi']
 dsimp only
 refine wpS_bind (xm7 (wpS_bind (l7 (by lia) (wpS_bind (P0 c rfl (λi hi=>hG _ (o8 (by lia))) (hG _ (o8 (by lia))) (by lia) (by lia) (λi j hij hj=>u1 _ _ (by lia) (by lia) (by lia)) λk hpre=>?_)))))
 obtain ⟨hk1,hk2⟩:=hpre.no
 dsimp only
 generalize (pd.setIfInBounds i (sa,na+nb,pw)).eraseIdxIfInBounds (i+1)=pd' at h ⊢
 by_cases e1:na-k=0
 ·rw [if_pos (by simpa using e1)]
  refine wpS_pure (h xs g (Seg.refl _ _ _) λi j hi hij hj=>?_)
  by_cases h1:j<sa+na
  ·exact u1 i j hi hij h1
  ·by_cases h2:sa+na<=i
   ·exact u2 i j h2 hij (by lia)
   ·have a1:=(hk2 (i-sa) (by lia)).mpr (by lia)
    rw [show sa+(i-sa)=i by lia] at a1
    exact ci a1 (u2 _ j (af _) (by lia) (by lia))
 rw [if_neg (by simpa using e1)]
 refine wpS_bind (l7 (by lia) (wpS_bind (P0 c rfl (λi hi=>hG _ (o8 (by lia))) (hG _ (o8 (by lia))) (by lia) (by lia) (λi j hij hj=>u2 _ _ (by lia) (by lia) (by lia)) λk1 hpre1=>?_)))
 obtain ⟨hm1,hm2⟩:=hpre1.yes
 rw [show sa+k+(na-k)-1=sa+na-1 by lia] at hm2
 dsimp only
 by_cases e2:k1=0
 ·rw [if_pos (by simpa using e2)]
  refine wpS_pure (h xs g (Seg.refl _ _ _) λi j hi hij hj=>?_)
  by_cases h1:j<sa+na
  ·exact u1 i j hi hij h1
  ·by_cases h2:sa+na<=i
   ·exact u2 i j h2 hij (by lia)
   ·have a1:¬_:=λz=>absurd ((hm2 0 m0).mp z) (by lia)
    have a2:=u1 i (sa+na-1) hi (by lia) (by lia)
    exact ci a2 (ci (bU.mp a1) (u2 _ j (by lia) (by lia) (by lia)))
 rw [if_neg (by simpa using e2)]
 have hzx:sa+na<=xs.size:=by lia
 have hzy:sa+na+k1<=xs.size:=by lia
 have gx:∀x∈(xs.extract (sa+k) (sa+na)).toList,G x:=λx hx=>by
  obtain ⟨j,h1,h2,rfl⟩:=E8 hzx hx
  exact hG _ (o8 (by lia))
 have gy:∀x∈(xs.extract (sa+na) (sa+na+k1)).toList,G x:=λx hx=>by
  obtain ⟨j,h1,h2,rfl⟩:=E8 hzy hx
  exact hG _ (o8 (by lia))
 have ux:SL R (xs.extract (sa+k) (sa+na)).toList:=xb8 hzx λi j h1 h2 h3=>u1 i j (by lia) h2 h3
 have uy:SL R (xs.extract (sa+na) (sa+na+k1)).toList:=xb8 hzy λi j h1 h2 h3=>u2 i j h1 h2 (by lia)
 have sx:(xs.extract (sa+k) (sa+na)).size=na-k:=by rw [Array.size_extract];lia
 have sy:(xs.extract (sa+na) (sa+na+k1)).size=k1:=by rw [Array.size_extract];lia
 have hf:∀x∈(xs.extract (sa+k) (sa+na)).toList,R ((xs.extract (sa+na) (sa+na+k1)).getD 0 dk)<R x:=λx hx=>by
  obtain ⟨j,h1,h2,rfl⟩:=E8 hzx hx
  rw [yl5 hzy (by lia)]
  have a1:¬_:=λz=>absurd ((hk2 (j-sa) (by lia)).mp z) (by lia)
  rw [show sa+(j-sa)=j by lia] at a1
  exact Int.not_le.mp a1
 have hl:∀x∈(xs.extract (sa+na) (sa+na+k1)).toList,R x<R ((xs.extract (sa+k) (sa+na)).getD ((xs.extract (sa+k) (sa+na)).size-1) dk):=λx hx=>by
  obtain ⟨j,h1,h2,rfl⟩:=E8 hzy hx
  rw [sx,yl5 hzx (by lia),show sa+k+(na-k-1)=sa+na-1 by lia]
  have:=(hm2 (j-(sa+na)) (by lia)).mpr (by lia)
  rwa [show sa+na+(j-(sa+na))=j by lia] at this
 have fin:∀(out:Array Keyed) (st':SortSt),Sg (Sx κ xs pd' g) st'->out.toList.Perm ((xs.extract (sa+k) (sa+na)).toList++(xs.extract (sa+na) (sa+na+k1)).toList)->SL R out.toList->∃g',st'=Sx κ xs pd' g'/\Q true (Sx κ (out.toList.zipIdx.foldl (λa (q:Keyed×Nat)=>a.setIfInBounds (sa+k+q.2) q.1) xs) pd' g'):=λout st' sg hp hs=>by
  have hlen:out.toList.length=na-k+k1:=by rw [hp.length_eq,aq,aW,aW,sx,sy]
  have hosz:out.size=na-k+k1:=by rw [←aW];exact hlen
  refine ⟨gallopOf st',?_,?_⟩
  ·obtain ⟨a1,a2,a3,a4⟩:=sg
   cases st'
   cases a1;cases a2;cases a3;cases a4
   rfl
  have epl:=yd0 (o:=sa+k) out.toList 0 xs (by rw [hlen];lia)
  rw [Nat.add_zero,hlen,show sa+k+(na-k+k1)=sa+na+k1 by lia] at epl
  generalize out.toList.zipIdx.foldl (λa (q:Keyed×Nat)=>a.setIfInBounds (sa+k+q.2) q.1) xs=ys at epl ⊢
  have hys:ys.size=xs.size:=by
   have:=congrArg List.length epl
   simp only [aq,aT,be,aW,hosz] at this
   lia
  have at_:∀p,ys[p]?=if p<sa+k then xs[p]? else if p<sa+na+k1 then out[p-(sa+k)]? else xs[p]?:=λp=>by
   rw [←bP,epl]
   have hl1:(xs.toList.take (sa+k)).length=sa+k:=by simp;lia
   by_cases p1:p<sa+k
   ·rw [if_pos p1,bD,aN (by lia),bW p1,bP]
   ·rw [if_neg p1]
    by_cases p2:p<sa+na+k1
    ·rw [if_pos p2,aN (by rw [aq,hl1,hlen];lia),bd (by lia),hl1,bP]
    ·rw [if_neg p2,bd (by rw [aq,hl1,hlen];lia),cY,aq,hl1,hlen,bP]
     congr 1
     lia
  have mem:∀z∈out.toList,∃j,sa+k<=j/\j<sa+na+k1/\z=xs.getD j dk:=λz hz=>by
   rcases aE.mp (hp.mem_iff.mp hz) with q|q
   ·obtain ⟨j,h1,h2,rfl⟩:=E8 hzx q
    exact ⟨j,h1,by lia,rfl⟩
   ·obtain ⟨j,h1,h2,rfl⟩:=E8 hzy q
    exact ⟨j,by lia,h2,rfl⟩
  refine h ys _ ⟨hys,?_,λp hp'=>?_⟩ ?_
  ·rw [epl]
   have ex:xs.toList=xs.toList.take (sa+k)++((xs.extract (sa+k) (sa+na)).toList++(xs.extract (sa+na) (sa+na+k1)).toList)++xs.toList.drop (sa+na+k1):=by
    have q1:=B3 (a:=xs) (sa+k) (na-k)
    have q2:=B3 (a:=xs) (sa+na) k1
    rw [←zk1,show sa+k+(na-k)=sa+na by lia] at q1
    rw [←zk1] at q2
    rw [bD,bD,←q2,←q1,bA]
   conv=>rhs;rw [ex]
   exact List.Perm.append_right _ (List.Perm.append_left _ hp)
  ·rw [at_]
   split
   ·rfl
   ·rw [if_neg (by lia)]
  ·
   have lowk:∀i,sa<=i->i<sa+k->∀j,i<=j->j<sa+na+nb->Ky R xs i<=Ky R xs j:=λi h1 h2 j h3 h4=>by
    by_cases q:j<sa+na
    ·exact u1 i j h1 h3 q
    ·have a1:=(hk2 (i-sa) (by lia)).mpr (by lia)
     rw [show sa+(i-sa)=i by lia] at a1
     exact ci a1 (u2 _ j (af _) (by lia) (by lia))
   have highk:∀j,sa+na+k1<=j->j<sa+na+nb->∀i,sa<=i->i<=j->Ky R xs i<=Ky R xs j:=λj h1 h2 i h3 h4=>by
    by_cases q:sa+na<=i
    ·exact u2 i j q h4 (by lia)
    ·have a1:¬_:=λz=>absurd ((hm2 (j-(sa+na)) (by lia)).mp z) (by lia)
     rw [show sa+na+(j-(sa+na))=j by lia] at a1
     exact ci (u1 i (sa+na-1) h3 (by lia) (by lia)) (bU.mp a1)
   have kl:∀p,p<sa+k->Ky R ys p=Ky R xs p:=λp hp'=>za6 (by rw [at_,if_pos hp'])
   have kh:∀p,sa+na+k1<=p->Ky R ys p=Ky R xs p:=λp hp'=>za6 (by rw [at_,if_neg (by lia),if_neg (by lia)])
   have km:∀p,sa+k<=p->p<sa+na+k1->Ky R ys p=R (out.getD (p-(sa+k)) dk)/\out.getD (p-(sa+k)) dk∈out.toList:=λp h1 h2=>⟨za6 (R:=R) (xs:=out) (j:=p-(sa+k)) (by rw [at_,if_neg (by lia),if_pos h2]),o8 (by lia)⟩
   intro i j hi hij hj
   by_cases i1:i<sa+k
   ·rw [kl i i1]
    by_cases j1:j<sa+k
    ·rw [kl j j1]
     exact lowk i hi i1 j hij (by lia)
    ·by_cases j2:j<sa+na+k1
     ·obtain ⟨q1,q2⟩:=km j (by lia) j2
      obtain ⟨z,z1,z2,z3⟩:=mem _ q2
      rw [q1,z3]
      exact lowk i hi i1 z (by lia) (by lia)
     ·rw [kh j (by lia)]
      exact lowk i hi i1 j hij (by lia)
   ·by_cases i2:i<sa+na+k1
    ·obtain ⟨q1,q2⟩:=km i (by lia) i2
     by_cases j2:j<sa+na+k1
     ·obtain ⟨q3,q4⟩:=km j (by lia) j2
      rw [q1,q3]
      exact hs.get (by lia) (by lia)
     ·obtain ⟨z,z1,z2,z3⟩:=mem _ q2
      rw [q1,z3,kh j (by lia)]
      exact highk j (by lia) (by lia) z (by lia) (by lia)
    ·rw [kh i (by lia),kh j (by lia)]
     exact highk j (by lia) (by lia) i hi hij
 by_cases e3:na-k<=k1
 ·rw [if_pos e3]
  refine wpS_bind (yi1 c rfl gx gy ux uy (by lia) (by lia) (λx hx=>bx (hf x hx)) hl λout st' sg hp hs=>?_)
  obtain ⟨g',rfl,hq⟩:=fin out st' sg hp hs
  exact wpS_bind (wpS_modify (wpS_bind (wpS_get (wpS_pure hq))))
 ·rw [if_neg e3]
  refine wpS_bind (yi0 c rfl gx gy ux uy (by lia) (by lia) hf hl λout st' sg hp hs=>?_)
  obtain ⟨g',rfl,hq⟩:=fin out st' sg hp hs
  exact wpS_bind (wpS_modify (wpS_bind (wpS_get (wpS_pure hq))))
end
end SortG
namespace SortG
open PySem PyProof.Rows
section
variable {M:Model}{A:Around}{E:Value->Shared->Prop}{s:Shared}{κ:SortKind}{G:Keyed->Prop}{R:Keyed->Int}{xs ys:Array Keyed}{pd:Array (Nat×Nat×Nat)}{g:Nat}
def U7 (R:Keyed->Int)(xs:Array Keyed):List (Nat×Nat×Nat)->Nat->Nat->Prop
 | [],a,b=>a=b
 | (st,n,_)::r,a,b=>st=a/\0<n/\UpS R xs a n/\U7 R xs r (a+n) b
theorem U7.le:∀{l:List (Nat×Nat×Nat)} {a b:Nat},U7 R xs l a b->a+l.length<=b
 | [],a,b,h=>by cases h;exact af _
 | (st,n,_)::r,a,b,h=>by
  have:=U7.le h.2.2.2
  have:=h.2.1
  rw [az]
  lia
theorem F0:∀{l l':List (Nat×Nat×Nat)} {a b:Nat},U7 R xs (l++l') a b↔∃m,U7 R xs l a m/\U7 R xs l' m b
 | [],l',a,b=>⟨λh=>⟨a,rfl,h⟩,λ⟨m,h1,h2⟩=>by cases h1;exact h2⟩
 | (st,n,p)::r,l',a,b=>by
  constructor
  ·rintro ⟨h1,h2,h3,h4⟩
   obtain ⟨m,h5,h6⟩:=F0.mp h4
   exact ⟨m,⟨h1,h2,h3,h5⟩,h6⟩
  ·rintro ⟨m,⟨h1,h2,h3,h5⟩,h6⟩
   exact ⟨h1,h2,h3,F0.mpr ⟨m,h5,h6⟩⟩
theorem UpS.seg {lo n l h:Nat}(u:UpS R xs lo n)(hs:Seg xs ys l h)(ho:lo+n<=l∨h<=lo):UpS R ys lo n:=λi j h1 h2 h3=>by
 rw [hs.ky (by lia),hs.ky (by lia)]
 exact u i j h1 h2 h3
theorem U7.seg {l0 h0:Nat}(hs:Seg xs ys l0 h0):∀{l:List (Nat×Nat×Nat)} {a b:Nat},U7 R xs l a b->(b<=l0∨h0<=a)->U7 R ys l a b
 | [],a,b,h,_=>h
 | (st,n,_)::r,a,b,⟨h1,h2,h3,h4⟩,ho=>by
  have:=h4.le
  exact ⟨h1,h2,h3.seg hs (by lia),U7.seg hs h4 (by lia)⟩
theorem zb1 (c:Cmp M A E s κ G R){i lo:Nat}{Q:Bool->SortSt->Prop}(hG:∀x∈xs.toList,G x)(hr:U7 R xs pd.toList 0 lo)(hlo:lo<=xs.size)(hi:i+1<pd.size)
  (h:∀ys pd' g',Seg xs ys 0 lo->U7 R ys pd'.toList 0 lo->pd'.size+1=pd.size->Q true (Sx κ ys pd' g')):wpS M A E s (mergeAt' i) Q (Sx κ xs pd g):=by
 obtain ⟨l1,X,Y,l2,e,e1⟩:∃l1 X Y l2,pd.toList=l1++X::Y::l2/\l1.length=i:=by
  refine ⟨pd.toList.take i,pd[i],pd[i+1],pd.toList.drop (i+1+1),?_,by simp;lia⟩
  rw [←Array.getElem_toList,←Array.getElem_toList,←bp (by simp;lia),←bp (by simp;lia),bA]
 obtain ⟨sa,na,pw⟩:=X
 obtain ⟨sb,nb,pw'⟩:=Y
 rw [e] at hr
 obtain ⟨m,r1,a1,a2,a3,b1,b2,b3,r2⟩:=F0.mp hr
 subst a1 b1
 have hle:=r2.le
 have hl1:=r1.le
 have p1:pd[i]?=some (sa,na,pw):=by rw [←bP,e,←e1];simp
 have p2:pd[i+1]?=some (sa+na,nb,pw'):=by rw [←bP,e,←e1];simp
 refine yh9 c hG p1 p2 rfl a2 b2 (by lia) a3 b3 λys g' hs hu=>?_
 have e2:((pd.setIfInBounds i (sa,na+nb,pw)).eraseIdxIfInBounds (i+1)).toList=l1++(sa,na+nb,pw)::l2:=by
  rw [Array.toList_eraseIdxIfInBounds,Array.toList_setIfInBounds,e,←e1,List.set_append_right _ _ (af _),cz,List.set_cons_zero,List.eraseIdx_append_of_length_le (by lia),show l1.length+1-l1.length=1 by lia]
  rfl
 refine h ys _ g' (hs.mono (by lia) (by lia)) ?_ ?_
 ·rw [e2]
  exact F0.mpr ⟨sa,r1.seg hs (by lia),rfl,by lia,hu,by rw [show sa+(na+nb)=sa+na+nb by lia];exact r2.seg hs (by lia)⟩
 ·have:=congrArg List.length e2
  have h3:=congrArg List.length e
  simp only [aq,az,aW] at this h3
  lia
theorem yz8 {n:Nat}(hr:U7 R xs pd.toList 0 n)(h:pd.size<=1):UpS R xs 0 n:=by
 cases e:pd.toList with
 | nil =>
  rw [e] at hr
  cases hr
  exact λi j h1 h2 h3=>absurd h3 (by lia)
 | cons x l =>
  have hl:l=[]:=eN (by have:=congrArg List.length e;rw [az,aW] at this;lia)
  rw [e,hl] at hr
  obtain ⟨st,m,p⟩:=x
  obtain ⟨h1,h2,h3,h4⟩:=hr
  cases h4
  rwa [bo]
theorem yd5 {f:Nat×Nat×Nat->Nat×Nat×Nat}(hf:∀x,(f x).1=x.1/\(f x).2.1=x.2.1):∀{l:List (Nat×Nat×Nat)} {j a b:Nat},U7 R xs l a b->U7 R xs (l.modify j f) a b
 | [],j,a,b,h=>by simpa using h
 | x::l,0,a,b,h=>by
  obtain ⟨st,m,p⟩:=x
  rw [List.modify_zero_cons]
  obtain ⟨e1,e2⟩:=hf (st,m,p)
  generalize f (st,m,p)=y at e1 e2
  obtain ⟨st',m',p'⟩:=y
  cases e1
  cases e2
  exact h
 | x::l,j+1,a,b,h=>by
  obtain ⟨st,m,p⟩:=x
  rw [List.modify_succ_cons]
  exact ⟨h.1,h.2.1,h.2.2.1,yd5 hf h.2.2.2⟩
theorem sortRuns_ok (c:Cmp M A E s κ G R){Q:Unit->SortSt->Prop}(hG:∀x∈xs.toList,G x)
  (h:∀ys pd' g',ys.toList.Perm xs.toList->ys.size=xs.size->UpS R ys 0 xs.size->Q () (Sx κ ys pd' g')):wpS M A E s sortRuns' Q (Sx κ xs #[] g):=by
 rw [sortRuns'_eq]
 refine wpS_bind (wpS_get ?_)
 dsimp only
 rw [show (arrOf (Sx κ xs #[] g)).size=xs.size from rfl]
 generalize minRun' xs.size xs.size 0=mr
 refine wpS_bind (wpS_mono (Q:=λq st=>∃ys pd' g',q=(none,xs.size)/\st=Sx κ ys pd' g'/\Seg xs ys 0 xs.size/\U7 R ys pd'.toList 0 xs.size) (wpS_forRange (I:=λj q st=>∃lo ys pd' g',q=(none,lo)/\st=Sx κ ys pd' g'/\Seg xs ys 0 xs.size/\U7 R ys pd'.toList 0 lo/\lo<=xs.size/\j<=lo) ?_ ?_ ⟨0,xs,#[],g,rfl,rfl,Seg.refl _ _ _,rfl,aQ _,af _⟩) ?_)
 ·rintro j q st _ hj ⟨lo,ys,pd',g',rfl,rfl,hs,hr,hlo,hjl⟩
  dsimp only
  by_cases e1:lo ≥ xs.size
  ·rw [if_pos e1]
   obtain rfl:lo=xs.size:=by lia
   exact wpS_pure ⟨ys,pd',g',rfl,rfl,hs,hr⟩
  rw [if_neg e1]
  have gy:∀{zs:Array Keyed},Seg xs zs 0 xs.size->∀x∈zs.toList,G x:=λhs x hx=>hG x (hs.perm.mem_iff.mp hx)
  refine wpS_bind (yu4 c (gy hs) (by lia) (by rw [hs.size];lia) λm zs hm1 hm2 hsz hum=>?_)
  have hs1:Seg xs zs 0 xs.size:=hs.trans (hsz.mono (by lia) (by lia))
  have hr1:U7 R zs pd'.toList 0 lo:=hr.seg hsz (by lia)
  dsimp only
  rcases dA m mr with e2|e2
  all_goals first|rw [if_pos e2]|rw [if_neg (by lia)]
  all_goals first
   | (
     have e3:m<mr:=e2
     refine wpS_bind (D3 (wpS_bind (xj1 c (gy hs1) hm1 (by lia) (by rw [hs1.size];lia) hum λvs hv huv=>?_)))
     rw [if_neg (by simp)]
     have hs2:Seg xs vs 0 xs.size:=hs1.trans (hv.mono (by lia) (by lia))
     have hr2:U7 R vs pd'.toList 0 lo:=hr1.seg hv (by lia)
     have hN:0<min (xs.size-lo) mr/\lo+min (xs.size-lo) mr<=xs.size:=by lia
     generalize min (xs.size-lo) mr=N at huv hN ⊢)
   | (
     obtain ⟨vs,evs⟩:∃vs,vs=zs:=⟨_,rfl⟩
     rw [←evs] at hs1 hr1 hum ⊢
     have hs2:=hs1
     have hr2:=hr1
     have hN:0<m/\lo+m<=xs.size:=by lia
     have huv:=hum
     generalize m=N at huv hN ⊢)
  all_goals
   refine wpS_bind (wpS_get ?_)
   have last:∀{us:Array Keyed} {pd2:Array (Nat×Nat×Nat)},U7 R us pd2.toList 0 lo->UpS R us lo N->U7 R us (pd2.push (lo,N,0)).toList 0 (lo+N):=λhr hu=>by
    rw [Array.toList_push]
    exact F0.mpr ⟨lo,hr,rfl,hN.1,hu,rfl⟩
   have eb:(pendingOf (Sx κ vs pd' g')).back?=pd'.back?:=rfl
   rw [eb]
   cases pd'.back? with
   | none=>exact wpS_bind (wpS_modify (wpS_pure ⟨_,_,_,_,rfl,rfl,hs2,last hr2 huv,hN.2,by lia⟩))
   | some x =>
    obtain ⟨s1,n1,x⟩:=x
    dsimp only
    generalize power' xs.size (2*s1+n1) (2*s1+n1+n1+N) xs.size=pw
    refine wpS_bind (wpS_mono (Q:=λq st=>q=(none,())/\∃us pd2 g2,st=Sx κ us pd2 g2/\Seg xs us 0 xs.size/\U7 R us pd2.toList 0 lo/\UpS R us lo N) (wpS_forRange (I:=λ_ q st=>q=(none,())/\∃us pd2 g2,st=Sx κ us pd2 g2/\Seg xs us 0 xs.size/\U7 R us pd2.toList 0 lo/\UpS R us lo N) ?_ ?_ ⟨rfl,vs,pd',g',rfl,hs2,hr2,huv⟩) ?_)
    ·rintro j2 q st _ _ ⟨rfl,us,pd2,g2,rfl,hsu,hru,huu⟩
     refine wpS_bind (wpS_get ?_)
     have ep:pendingOf (Sx κ us pd2 g2)=pd2:=rfl
     rw [ep]
     cases eo:(if pd2.size > 1 then pd2[pd2.size-2]? else none) with
     | none=>exact wpS_pure ⟨rfl,us,pd2,g2,rfl,hsu,hru,huu⟩
     | some y =>
      obtain ⟨y1,y2,y3⟩:=y
      have hp2:pd2.size > 1:=Classical.byContradiction λz=>by rw [if_neg z] at eo;cases eo
      dsimp only
      by_cases e5:y3<=pw
      ·rw [if_pos e5]
       exact wpS_pure ⟨rfl,us,pd2,g2,rfl,hsu,hru,huu⟩
      ·rw [if_neg e5]
       refine wpS_bind (zb1 c (gy hsu) hru (by rw [hsu.size];lia) (by lia) λws pd3 g3 hsw hrw _=>?_)
       rw [if_neg (by simp)]
       exact wpS_pure ⟨rfl,ws,pd3,g3,rfl,hsu.trans (hsw.mono (by lia) (by lia)),hrw,huu.seg hsw (by lia)⟩
    ·rintro q st hq
     exact hq
    ·rintro q st ⟨rfl,us,pd2,g2,rfl,hsu,hru,huu⟩
     refine wpS_bind (wpS_modify (wpS_bind (wpS_modify (wpS_pure ⟨_,us,_,g2,rfl,rfl,hsu,last ?_ huu,hN.2,by lia⟩))))
     show U7 R us (pd2.modify (pd2.size-1) _).toList 0 lo
     rw [Array.toList_modify]
     exact yd5 (f:=λx=>(x.1,x.2.1,pw)) (λx=>⟨rfl,rfl⟩) hru
 ·rintro q st ⟨lo,ys,pd',g',rfl,rfl,hs,hr,hlo,hjl⟩
  obtain rfl:lo=xs.size:=by lia
  exact ⟨ys,pd',g',rfl,rfl,hs,hr⟩
 ·rintro q st ⟨ys,pd',g',rfl,rfl,hs,hr⟩
  dsimp only
  have gy:∀{zs:Array Keyed},Seg xs zs 0 xs.size->∀x∈zs.toList,G x:=λhs x hx=>hG x (hs.perm.mem_iff.mp hx)
  have hlen:=hr.le
  rw [aW,bo] at hlen
  refine wpS_bind (wpS_mono (Q:=λq st=>q=(none,())/\∃us pd2 g2,st=Sx κ us pd2 g2/\Seg xs us 0 xs.size/\U7 R us pd2.toList 0 xs.size/\pd2.size<=1) (wpS_forRange (I:=λj q st=>q=(none,())/\∃us pd2 g2,st=Sx κ us pd2 g2/\Seg xs us 0 xs.size/\U7 R us pd2.toList 0 xs.size/\pd2.size+j<=xs.size) ?_ ?_ ⟨rfl,ys,pd',g',rfl,hs,hr,by lia⟩) ?_)
  ·rintro j q st _ hj ⟨rfl,us,pd2,g2,rfl,hsu,hru,hle⟩
   refine wpS_bind (wpS_get ?_)
   have ep:pendingOf (Sx κ us pd2 g2)=pd2:=rfl
   rw [ep]
   by_cases e1:pd2.size<=1
   ·rw [if_pos e1]
    exact wpS_pure ⟨rfl,us,pd2,g2,rfl,hsu,hru,e1⟩
   rw [if_neg e1]
   obtain ⟨i,ei,hi⟩:∃i,(if Option.any (λx=>decide (x<(pd2[pd2.size-2+1]?.elim 0 λx=>x.snd.fst))) (if pd2.size-2 > 0 then Option.map (λx=>x.snd.fst) pd2[pd2.size-2-1]? else none)=true then pd2.size-2-1 else pd2.size-2)=i/\i+1<pd2.size:=by
    have ite:∀{p:Prop} [Decidable p] {a b n:Nat},a<n->b<n->(if p then a else b)<n:=λh1 h2=>by
     split
     ·exact h1
     ·exact h2
    exact ⟨_,rfl,Nat.add_lt_of_lt_sub (ite (by lia) (by lia))⟩
   rw [ei]
   refine wpS_bind (zb1 c (gy hsu) hru (by rw [hsu.size];exact af _) hi λws pd3 g3 hsw hrw hsz=>?_)
   rw [if_neg (by simp)]
   exact wpS_pure ⟨rfl,ws,pd3,g3,rfl,hsu.trans hsw,hrw,by lia⟩
  ·rintro q st ⟨rfl,us,pd2,g2,rfl,hsu,hru,hle⟩
   exact ⟨rfl,us,pd2,g2,rfl,hsu,hru,by lia⟩
  ·rintro q st ⟨rfl,us,pd2,g2,rfl,hsu,hru,hle⟩
   exact wpS_pure (h us pd2 g2 hsu.perm hsu.size (yz8 hru hle))
end
end SortG
namespace L2
open PySem PySem.Spec PyProof.Rows
section
variable {prog:Program}{w:World}{A:Around}{E:Value->Shared->Prop}{s:Shared}
theorem yx1:∀{vs ws:List Value} {xs ys:List Int} {i:Nat} {Q:Bool->Shared->Prop} {fin:Bool},IntsAre vs xs->IntsAre ws ys->fin=decide (xs.length<ys.length)->Q (HT.lexLt xs ys) s->W.KatLex prog w A true fin Q (vs.zip ws) i s
 | _,_,_,_,i,Q,fin,.nil,.nil,hf,h=>by
  rw [hf]
  exact W.kat_nil h
 | _,_,_,_,i,Q,fin,.nil,.cons _ _ _,hf,h=>by
  rw [hf]
  exact W.kat_nil h
 | _,_,_,_,i,Q,fin,.cons _ _ _,.nil,hf,h=>by
  rw [hf]
  exact W.kat_nil h
 | _,_,_,_,i,Q,fin,.cons (ns:=xs) a t r,.cons (ns:=ys) b u r',hf,h=>by
  rw [HT.lexLt_cons] at h
  refine W.kat_cons (wpAny_eqBool_int (W.kat_go (λe1=>W.kat_yes ?_) (λe1=>W.kat_no ?_)))
  ·rw [beq_iff_eq] at e1
   rw [if_pos e1] at h
   exact yx1 r r' (by rw [hf];simp) h
  ·have e1':¬a=b:=by simpa using e1
   rw [if_neg e1'] at h
   cases i with
   | zero =>
    show wpAny (model prog w) A (oneLt' true _ _) Q _ s
    exact oneLt_int h
   | succ i =>
    show wpAny (model prog w) A (oneLt' false _ _) Q _ s
    exact W.kat_one _ _ (PyProof.Rows.lt_int h)
def O7 (h:Heap)(b:Addr)(x:List Int):Prop:=∃us:List Value,IsTup h b us.toArray/\IntsAre us x
theorem O7.at {h h':Heap}{b:Addr}{x:List Int}(p:O7 h b x)(k:∀o,h.get? b=some o->h'.get? b=some o):O7 h' b x:=by
 obtain ⟨us,⟨o,ho,r⟩,i⟩:=p
 exact ⟨us,⟨o,k o ho,r⟩,i⟩
theorem xp2 {b c:Addr}{x y:List Int}(hb:O7 s.heap b x)(hc:O7 s.heap c y){Q:Bool->Shared->Prop}(h:Q (HT.lexLt x y) s):wpAny (model prog w) A (keyLt' (tuples' true) (.ref b) (.ref c)) Q E s:=by
 obtain ⟨us,⟨o,ho,_,n,hd⟩,i⟩:=hb
 obtain ⟨us',⟨o',ho',_,n',hd'⟩,i'⟩:=hc
 refine W.kat_lt ho hd ho' hd' ?_
 rw [cR,cR]
 refine yx1 i i' ?_ h
 rw [aC,aC,i.length,i'.length]
def rkL (rs:List (List Int))(x:List Int):Int:=((rs.filter λy=>HT.lexLt y x).length:Nat)
theorem yr1 {x y z:List Int}(h1:HT.lexLt x y=true)(h2:HT.lexLt y z=true):HT.lexLt x z=true:=by
 cases h:HT.lexLt x z with
 | true=>rfl
 | false=>rw [yh4 (yh5 h2) h] at h1;cases h1
theorem xm5 (rs:List (List Int)){x y:List Int}(h:HT.lexLt y x=false):rkL rs x<=rkL rs y:=by
 unfold rkL
 refine Int.ofNat_le.mpr ?_
 induction rs with
 | nil=>exact af _
 | cons z rs ih =>
  rw [bw,bw]
  cases e:HT.lexLt z x with
  | false =>
   rw [if_neg aI]
   split
   ·exact Nat.le_succ_of_le ih
   ·exact ih
  | true =>
   have:HT.lexLt z y=true:=by
    cases e':HT.lexLt z y with
    | true=>rfl
    | false=>rw [yh4 h e'] at e;cases e
   rw [if_pos rfl,if_pos this,az,az]
   lia
theorem yz3 (rs:List (List Int)){x y:List Int}(hx:x∈rs)(h:HT.lexLt x y=true):rkL rs x<rkL rs y:=by
 have key:∀l:List (List Int),(l.filter λz=>HT.lexLt z x).length<=(l.filter λz=>HT.lexLt z y).length/\(x∈l->(l.filter λz=>HT.lexLt z x).length<(l.filter λz=>HT.lexLt z y).length):=λl=>by
  induction l with
  | nil=>exact ⟨af _,λz=>by cases z⟩
  | cons z l ih =>
   rw [bw,bw]
   cases e:HT.lexLt z x with
   | true =>
    rw [if_pos rfl,if_pos (yr1 e h),az,az]
    refine ⟨by lia,λhz=>?_⟩
    rcases ay.mp hz with q|q
    ·rw [q,zu3] at e
     cases e
    ·have:=ih.2 q
     lia
   | false =>
    rw [if_neg aI]
    by_cases e':HT.lexLt z y=true
    ·rw [if_pos e',az]
     exact ⟨by lia,λ_=>by lia⟩
    ·rw [if_neg e']
     refine ⟨ih.1,λhz=>?_⟩
     rcases ay.mp hz with q|q
     ·rw [←q] at e'
      exact absurd h e'
     ·exact ih.2 q
 unfold rkL
 exact Int.ofNat_lt.mpr ((key rs).2 hx)
theorem xf8 (rs:List (List Int)){x y:List Int}(hx:x∈rs):decide (rkL rs x<rkL rs y)=HT.lexLt x y:=by
 cases h:HT.lexLt x y with
 | true=>exact decide_eq_true (yz3 rs hx h)
 | false=>exact decide_eq_false (bU.mpr (xm5 rs h))
theorem ys5 {h:Heap}{as:List Addr}{rs:List (List Int)}(hp:Paired (O7 h) as rs)(hne:∀r∈rs,r≠[]):∃fs,W.KatTups h (as.map Value.ref) fs/\fs.length=as.length/\∀v∈fs,∃i t,v=Value.int i t:=by
 induction hp with
 | nil=>exact ⟨[],trivial,rfl,λv h=>(by cases h)⟩
 | cons a _ ih =>
  obtain ⟨fs,h1,h2,h3⟩:=ih λr hr=>hne r (ao _ hr)
  obtain ⟨us,⟨o,ho,hc,n,hd⟩,i⟩:=a
  cases i with
  | nil=>exact absurd rfl (hne _ au)
  | cons x t r =>
   refine ⟨Value.int x t::fs,W.KatTups.cons ho hc hd rfl h1,by rw [az,az,h2],λv hv=>?_⟩
   rcases ay.mp hv with z|z
   ·exact ⟨_,_,z⟩
   ·exact h3 v z
theorem zw8 {h h':Heap}{as:List Addr}{rs:List (List Int)}(hp:Paired (O7 h) as rs)(k:∀b∈as,∀o,h.get? b=some o->h'.get? b=some o):Paired (O7 h') as rs:=by
 induction hp with
 | nil=>exact .nil
 | cons f _ ih=>exact .cons (f.at λo eo=>k _ au o eo) (ih λb hb'=>k b (ao _ hb'))
theorem za3:∀{us:List Value} {x y:List Int},IntsAre us x->IntsAre us y->x=y
 | _,_,_,.nil,.nil=>rfl
 | _,_,_,.cons a t r,.cons _ _ r'=>by rw [za3 r r']
theorem zr2 {h:Heap}{b:Addr}{x y:List Int}(hx:O7 h b x)(hy:O7 h b y):x=y:=by
 obtain ⟨us,⟨o,ho,_,n,hd⟩,i⟩:=hx
 obtain ⟨us',⟨o',ho',_,n',hd'⟩,i'⟩:=hy
 rw [ho] at ho'
 cases ho'
 rw [hd] at hd'
 cases hd'
 exact za3 i i'
def adr:Value->Addr
 | .ref a=>a
 | _=>0
theorem zo0 {a:Addr}{as:List Addr}{rs:List (List Int)}{n:Nat}{P:PySem.Fin->Shared->Prop}(ho:s.heap.get? a=some (seqObj "list" (as.map Value.ref).toArray n)) (hp:Paired (O7 s.heap) as rs) (hne:∀b∈as,b≠a) (hb:∀x∈rs,x≠[]) (h64:as.length<=400000)
  (q:∀(bs:List Addr) (qs:List (List Int)),bs.length=as.length->(∀b∈bs,b∈as)->Paired (O7 s.heap) bs qs->qs.Perm rs->qs.Pairwise (λx y=>HT.lexLt y x=false)->P (.done (.ret .none)) { s with heap:=sortedHeap s.heap a (as.map Value.ref) (bs.map Value.ref).toArray }) :
  wpAny (model prog w) A (Builtin.«list.sort» ⟨[.ref a],[]⟩) P E s:=by
 have hlen:as.length=rs.length:=Paired.length hp
 have h16:=sizeLine_eq
 have hvl:(as.map Value.ref).length=as.length:=ae _
 rw [list_sort_plain]
 have ha:a<s.heap.objs.size:=aF ho
 refine wpAny_bind (listItems_at ho rfl (wpAny_bind (listUpdate_at ho rfl ?_ (by rw [aC];lia) (aQ _))))
 obtain ⟨e1,ho1⟩:∃e1,(s.heap.update a (Obj.mapSeq λ_=>#[])).get? a=some (seqObj "list" #[] e1):=⟨_,get?_update_seq ho (λ_=>#[])⟩
 refine wpAny_bind (seqEpoch_at ho1 rfl (wpAny_bind (wpAny_newTuple (wpAny_bind (wpAny_newList (wpAny_holding ?_) (aQ _))) (by show (as.map Value.ref).length<=_;lia))))
 have keep:∀b o,b≠a->s.heap.get? b=some o->(((s.heap.update a (Obj.mapSeq λ_=>#[])).push (seqObj "tuple" (as.map Value.ref).toArray 0)).push (seqObj "list" #[] 0)).get? b=some o:=λb o nb eb =>
  av _ (av _ ((Heap.get?_update_other _ _ (Ne.symm nb)).trans eb))
 have ho6:(((s.heap.update a (Obj.mapSeq λ_=>#[])).push (seqObj "tuple" (as.map Value.ref).toArray 0)).push (seqObj "list" #[] 0)).get? a=some (seqObj "list" #[] e1):=av _ (av _ ho1)
 have hp6:Paired (O7 (((s.heap.update a (Obj.mapSeq λ_=>#[])).push (seqObj "tuple" (as.map Value.ref).toArray 0)).push (seqObj "list" #[] 0))) as rs:=zw8 hp λb hb' o eo=>keep b o (hne b hb') eo
 show wpAny (model prog w) A _ P E { s with heap:=((s.heap.update a (Obj.mapSeq λ_=>(#[]:Array Value))).push (seqObj "tuple" (as.map Value.ref).toArray 0)).push (seqObj "list" #[] 0) }
 dsimp only
 by_cases h2:(as.map Value.ref).toArray.size<2
 ·rw [if_pos h2,if_pos h2]
  refine wpAny_bind (wpAny_pure ?_)
  rw [StateT.run_pure]
  refine wpAny_bind (wpAny_pure ?_)
  dsimp only
  have hz:((as.map Value.ref).toArray.zip (as.map Value.ref).toArray).map (·.2)=(as.map Value.ref).toArray:=by
   apply fz.mp
   rw [fy,Array.toList_zip,cR]
   exact List.map_snd_zip (af _)
  refine wpAny_bind (seqEpoch_at ho6 rfl (wpAny_bind (listUpdate_at ho6 rfl ?_ (aQ _) ?_)))
  ·simp only [bne_self_eq_false,ck,if_false]
   have hone:rs.Pairwise (λx y=>HT.lexLt y x=false):=by
    match rs,hlen with
    | [],_=>exact List.Pairwise.nil
    | [x],_=>exact List.pairwise_singleton _ _
    | _::_::r,hl =>
     rw [aC,hvl,hl,az,az] at h2
     lia
   have key:=q as rs rfl (λb hb=>hb) hp (List.Perm.refl _) hone
   have key2:∀o,o=(as.map Value.ref).toArray->P (.done (.ret .none)) { s with heap:=sortedHeap s.heap a (as.map Value.ref) o }:=λo e=>by rw [e];exact key
   exact wpAny_pure (key2 _ hz)
  ·show (((as.map Value.ref).toArray.zip (as.map Value.ref).toArray).map (·.2)).size<=_
   rw [hz,aC]
   lia
 ·rw [if_neg h2,if_neg h2]
  rw [aC,hvl] at h2
  obtain ⟨fs,t1,t2,t3⟩:=ys5 hp6 hb
  refine wpAny_bind (W.kat_kind (T:=.type "int") t1 (by lia) (λv hv=>?_) rfl ?_)
  ·obtain ⟨i,t,rfl⟩:=t3 v hv
   exact W.Looks.of_pure rfl
  show wpAny _ _ ((sortRuns').run (SortSt.mk' (tuples' true) _ _ _ _) >>= _) _ _ _
  obtain ⟨rowOf,hrow⟩:∃rowOf:Addr->List Int,∀i b,as[i]?=some b->rs[i]?=some (rowOf b):=by
   refine ⟨λb=>rs.getD (as.idxOf b) [],λi b hi=>?_⟩
   have hil:=(ap.mp hi).1
   have hbm:=ax hi
   have h0:as.idxOf b<as.length:=List.idxOf_lt_length_iff.mpr hbm
   have e0:as[as.idxOf b]?=some b:=by rw [aa h0];simp
   have q1:=o0 hp i b _ hi (aa (show i<rs.length by lia))
   have q2:=o0 hp _ b _ e0 (aa (show as.idxOf b<rs.length by lia))
   rw [aa (show i<rs.length by lia),zr2 q1 q2]
   simp [aa (show as.idxOf b<rs.length by lia)]
  have hat:∀b∈as,rowOf b∈rs/\O7 s.heap b (rowOf b)/\O7 (((s.heap.update a (Obj.mapSeq λ_=>#[])).push (seqObj "tuple" (as.map Value.ref).toArray 0)).push (seqObj "list" #[] 0)) b (rowOf b):=λb hb'=>by
   obtain ⟨i,hi⟩:=cJ hb'
   have hr:=hrow i b hi
   exact ⟨ax hr,o0 hp i _ _ hi hr,o0 hp6 i _ _ hi hr⟩
  have hmap:as.map rowOf=rs:=bZ λi=>by
   rw [ag]
   cases e:as[i]? with
   | none=>rw [aU (by have:=cm.mp e;lia)];rfl
   | some b=>rw [hrow i b e];rfl
  have hxs:((as.map Value.ref).toArray.zip (as.map Value.ref).toArray).toList=as.map λb=>((Value.ref b,Value.ref b):Keyed):=by
   rw [Array.toList_zip,cR]
   clear hp hlen ho hne hb q hp6 t1 t2 hrow hat hmap keep ho1 ho6 hvl h64 h2
   induction as with
   | nil=>rfl
   | cons b as ih=>rw [aR,aR,eI,ih]
  have cmp:SortG.Cmp (model prog w) A E ({ s with heap:=((s.heap.update a (Obj.mapSeq λ_=>(#[]:Array Value))).push (seqObj "tuple" (as.map Value.ref).toArray 0)).push (seqObj "list" #[] 0) }:Shared) (tuples' true) (λx=>∃b∈as,x=(Value.ref b,Value.ref b)) (λx=>rkL rs (rowOf (adr x.1))):=by
   refine ⟨?_⟩
   rintro x y st Q ⟨b,hb',rfl⟩ ⟨b',hb'',rfl⟩ hk hq
   rw [lt'_eq]
   refine wpS_bind (wpS_get ?_)
   rw [hk]
   refine wpS_bind (wpS_lift (wpAny_attempt (xp2 (hat b hb').2.2 (hat b' hb'').2.2 ⟨rfl,wpS_pure ?_⟩)))
   have e:=xf8 rs (hat b hb').1 (y:=rowOf b')
   have hq:Q (some (decide (rkL rs (rowOf b)<rkL rs (rowOf b')))) st:=hq
   rw [e] at hq
   exact hq
  refine wpAny_bind (wpAny_mono (SortG.sortRuns_ok cmp (λx hx=>?_) (Q:=λ_ st'=>∃(bs:List Addr) (qs:List (List Int)),(arrOf st').map (·.2)=(bs.map Value.ref).toArray/\failedOf st'=none/\bs.length=as.length/\(∀b∈bs,b∈as)/\Paired (O7 s.heap) bs qs/\qs.Perm rs/\qs.Pairwise (λx y=>HT.lexLt y x=false)) λys pd' g' hperm hsz hup=>?_) ?_ λ_ _ e=>e)
  ·rw [hxs] at hx
   obtain ⟨b,hb',rfl⟩:=aw.mp hx
   exact ⟨b,hb',rfl⟩
  ·rw [hxs] at hperm
   have form:∀x∈ys.toList,∃b∈as,x=(Value.ref b,Value.ref b):=λx hx=>by
    obtain ⟨b,hb',e⟩:=aw.mp (hperm.mem_iff.mp hx)
    exact ⟨b,hb',e.symm⟩
   have hbp:(ys.toList.map λx=>adr x.1).Perm as:=by
    have:=hperm.map λx=>adr x.1
    rw [bC,show (List.map ((λx:Keyed=>adr x.1) ∘ λb=>(Value.ref b,Value.ref b)) as)=as from (bg λb _=>rfl).trans (eE as)] at this
    exact this
   have hmem:∀b∈ys.toList.map λx=>adr x.1,b∈as:=λb hb'=>hbp.mem_iff.mp hb'
   refine ⟨ys.toList.map λx=>adr x.1,(ys.toList.map λx=>adr x.1).map rowOf,?_,rfl,hbp.length_eq,hmem,?_,?_,?_⟩
   ·apply fz.mp
    rw [fy,cR,bC]
    refine bg λx hx=>?_
    obtain ⟨b,_,rfl⟩:=form x hx
    rfl
   ·have:∀l:List Addr,(∀b∈l,b∈as)->Paired (O7 s.heap) l (l.map rowOf):=λl=>by
     induction l with
     | nil=>exact λ_=>.nil
     | cons b l ih=>exact λhl=>.cons (hat b (hl b au)).2.1 (ih λc hc=>hl c (ao _ hc))
    exact this _ hmem
   ·have:=hbp.map rowOf
    rwa [hmap] at this
   ·rw [bC]
    refine ba.mpr (aX.mpr λi j hi hj hij=>?_)
    rw [aW] at hi hj
    have h4:=hup i j (aQ _) (bu hij) (by rw [bo,←hsz];exact hj)
    have e:∀k (hk:k<ys.size),ys.getD k SortG.dk=ys.toList[k]'(by simpa using hk):=λk hk=>by simp [Array.getD,hk]
    unfold SortG.Ky at h4
    rw [e i hi,e j hj] at h4
    have hm:(rowOf (adr (ys.toList[j]'(by simpa using hj)).1))∈rs:=by
     obtain ⟨b,hb',e'⟩:=form _ (bH (by simpa using hj))
     rw [e']
     exact (hat b hb').1
    cases e2:HT.lexLt (rowOf (adr (ys.toList[j]'(by simpa using hj)).1)) (rowOf (adr (ys.toList[i]'(by simpa using hi)).1)) with
    | false=>exact e2
    | true =>
     exact absurd (yz3 rs hm e2) (bU.mpr h4)
  ·rintro ⟨⟨⟩,st'⟩ s' ⟨rfl,bs,qs,hout,hf,hbl,hbm,hpq,hqp,hqs⟩
   dsimp only
   have hol:((arrOf st').map (·.2)).size<=sizeLine:=by
    rw [hout,aC,ae]
    lia
   refine wpAny_bind (seqEpoch_at ho6 rfl (wpAny_bind (listUpdate_at ho6 rfl ?_ (aQ _) (Nat.le_succ_of_le hol))))
   rw [hf]
   simp only [bne_self_eq_false,ck,if_false]
   have key:=q bs qs hbl hbm hpq hqp hqs
   have key2:∀o,o=(bs.map Value.ref).toArray->P (.done (.ret .none)) { s with heap:=sortedHeap s.heap a (as.map Value.ref) o }:=λo e=>by rw [e];exact key
   exact wpAny_pure (key2 _ hout)
theorem yj3 {l:Addr}{as:List Addr}{rs:List (List Int)}{R:Value->Shared->Prop}(hl:s.heap.IsList l (as.map Value.ref).toArray)(hp:Paired (O7 s.heap) as rs)(hb:∀x∈rs,x≠[])(h64:as.length<=400000)
  (q:∀(bs:List Addr) (qs:List (List Int)),bs.length=as.length->(∀b∈bs,b∈as)->Paired (O7 s.heap) bs qs->qs.Perm rs->qs.Pairwise (λx y=>HT.lexLt y x=false)->R (.ref (gat s.heap (as.map Value.ref)).objs.size) { s with heap:=sortedHeap ((gat s.heap (as.map Value.ref)).push (seqObj "list" (as.map Value.ref).toArray 0)) (gat s.heap (as.map Value.ref)).objs.size (as.map Value.ref) (bs.map Value.ref).toArray }) :
  wpAny (model prog w) A (call (.builtin "sorted") [.ref l]) R E s:=by
 have h16:=sizeLine_eq
 have hvl:(as.map Value.ref).length=as.length:=ae _
 have hn:((gat s.heap (as.map Value.ref)).push (seqObj "list" (as.map Value.ref).toArray 0)).get? (gat s.heap (as.map Value.ref)).objs.size=some (seqObj "list" (as.map Value.ref).toArray 0):=aG _ rfl
 have lt:∀b∈as,b<s.heap.objs.size/\∃o,s.heap.get? b=some o:=λb hb'=>by
  obtain ⟨i,hi⟩:=cJ hb'
  have hi2:=(ap.mp hi).1
  obtain ⟨us,⟨o,ho,_⟩,_⟩:=o0 hp i b _ hi (aa (by rw [←Paired.length hp];exact hi2))
  exact ⟨aF ho,o,ho⟩
 refine Calls.call_function_entry kind_sorted plain_sorted entry_sorted (args_sorted1 (.ref l)) ?_
 unfold Builtin.«sorted»
 refine wpAny_bind (m:=checkCount "sorted" 1 1 _) (wpAny_pure (wpAny_bind (collect_list hl (wpAny_bind (wpAny_newList ?_ (by lia))) (by lia))))
 show wpAny _ _ _ _ _ { s with heap:=(gat s.heap (as.map Value.ref)).push (seqObj "list" (as.map Value.ref).toArray 0) }
 refine wpAny_bind (wpAny_holding (wpAny_call_entry slot_list_sort ⟨_,hn,rfl⟩ entry_list_sort (zo0 (s:={ s with heap:=(gat s.heap (as.map Value.ref)).push (seqObj "list" (as.map Value.ref).toArray 0) }) hn (zw8 hp λb hb' o eo=>av _ (zh9 eo)) (λb hb' z=>?_) hb h64 λbs qs a1 a2 a3 a4 a5=>⟨_,rfl,wpAny_pure ⟨_,rfl,q bs qs a1 a2 (zw8 a3 λb hb' o eo=>?_) a4 a5⟩⟩) (args_list_sort _)))
 ·have h5:=(lt b hb').1
  have h6:=zk3 s.heap (as.map Value.ref)
  have h7:b=(gat s.heap (as.map Value.ref)).objs.size:=z
  rw [h7,h6] at h5
  exact aZ _ (Nat.lt_of_succ_lt h5)
 ·obtain ⟨_,o',ho'⟩:=lt b (a2 b hb')
  have:=av (seqObj "list" (as.map Value.ref).toArray 0) (zh9 (vs:=as.map Value.ref) ho')
  rw [show ((gat s.heap (as.map Value.ref)).push (seqObj "list" (as.map Value.ref).toArray 0)).get? b=some o from eo] at this
  rw [ho',this]
end
section
variable {X:Cx}
theorem zt2:R3 X (.builtin "sorted") (λxs H Q=>∃(p:Addr) (as:List Addr) (rs:List (List Int)),xs=[.ref p]/\SqL X.K H p (as.map V.ref)/\Paired (λa x=>H a=some (.tup (x.map V.int))) as rs/\(∀x∈rs,x≠[])/\rs.length<=400000 /\
  ∀(l:Addr) (bs:List Addr) (qs:List (List Int)),H l=none->qs.Perm rs->qs.Pairwise (λx y=>HT.lexLt y x=false)->Paired (λa x=>H a=some (.tup (x.map V.int))) bs qs->Q (.ref l) (upd H l (.lst (bs.map V.ref)))):=by
 intro pins s σ H xs us Q I r h
 obtain ⟨p,as,rs,rfl,hq,hp,hb,h64,q⟩:=h
 obtain ⟨u,rfl,rx⟩:=M5 r
 cases rx
 obtain ⟨its,r1,p1,hz⟩:=I.list hq
 have hits:=zs5 r1
 subst hits
 have hlen:as.length=rs.length:=Paired.length hp
 have row:∀b x,H b=some (.tup (x.map V.int))->O7 s.heap b x:=λb x hx=>by
  obtain ⟨us,r2,p2,_⟩:=I.tuple (SqT.of hx)
  exact ⟨us,p2,W4 r2⟩
 have hpr:Paired (O7 s.heap) as rs:=Paired.imp' (λb x hx=>row b x hx) hp
 refine yj3 p1.isList hpr hb (by lia) λbs qs a1 a2 a3 a4 a5=>?_
 have hsz:=zk3 s.heap (as.map Value.ref)
 obtain ⟨e,he⟩:=sortedHeap_at (vs:=as.map Value.ref) (out:=(bs.map Value.ref).toArray) (n:=0) (show ((gat s.heap (as.map Value.ref)).push (seqObj "list" (as.map Value.ref).toArray 0)).get? (gat s.heap (as.map Value.ref)).objs.size=some (seqObj "list" (as.map Value.ref).toArray 0) from aG _ rfl)
 have hold:∀b o,s.heap.get? b=some o->(sortedHeap ((gat s.heap (as.map Value.ref)).push (seqObj "list" (as.map Value.ref).toArray 0)) (gat s.heap (as.map Value.ref)).objs.size (as.map Value.ref) (bs.map Value.ref).toArray).get? b=some o:=λb o z=>by
  have hlt:=aF z
  have h1:b<(gat s.heap (as.map Value.ref)).objs.size:=hsz.symm ▸ dN hlt
  rw [sortedHeap_old (aS h1) (by rw [size_push'];exact dN h1),Heap.get?_push_ne _ _ _ (aS h1)]
  exact zh9 z
 have hz2:=K6
 refine ⟨.ref (gat s.heap (as.map Value.ref)).objs.size,_,I.laid (t':=s.toks) hold (by lia) (show n8 X.prog X.w _ _ _ (.lst (bs.map V.ref)) from ⟨by rw [ae];lia,bs.map Value.ref,e,?_,he⟩),rfl,q _ bs qs (I.hok.fresh (by lia)) a4 a5 ?_⟩
 ·clear a1 a2 a3 he hold
  induction bs with
  | nil=>exact .nil
  | cons b r ih=>exact .cons rfl ih
 ·
  clear a4 a5 he hold a1
  induction a3 with
  | nil=>exact .nil
  | @cons b x bs qs f _ ih =>
   refine .cons ?_ (ih λc hc=>a2 c (ao _ hc))
   obtain ⟨i,hi⟩:=cJ (a2 b au)
   have hi2:=(ap.mp hi).1
   have hx:=o0 hp i b _ hi (aa (show i<rs.length by lia))
   rw [zr2 f (row b _ hx)]
   exact hx
end
section
variable {X:Cx}{e st:Expr}{te:TE}{ts:TO}{pos p2:Pos}
end
section
variable {X:Cx}{iter elt:Expr}{scope:Scope}{pos:Pos}{wi:TI}{te:CT TE}
end
section
variable {X:Cx}
theorem yz0 {i:Nat}{y:Str}{C:Addr}{k j:Nat}{m:Str}{ps:List Str}{sp:Sp}{o:Expr}{ta:TE}{apos cpos pos pos':Pos}{pl:Sem Bool}(c:Cls X.K C)(kn:xc2 X.prog X.w X.K X.mg X.base k C m ps sp)(hr:X8 j X.A)(ho:PE X.nox o ta)(hN:X.N.Nodup)(hi:X.N[i]?=some y)(hx:Loc X.env.scope y)(hj:k<=j:=by decide)
  (ht:eval (.Call (.Attribute o m apos) [] [] cpos) X.env=(do
   let v ←eval o X.env
   standAt apos.atName
   let (f,first) ←holding [v] (getMethod v m pl)
   callWith cpos f first (backTo cpos (starEach [] X.env)) (backToKw cpos (keywordEach [] X.env))):=by rfl)
  (hs:swapsWith (.Call (.Attribute o m apos) [] [] cpos) (some (.Name y pos')) pos.line X.env=pure false:=by rfl)
  (hf:X.fn y=true∨X.env.scope.names.lookup y=some .local:=by first|exact .inl rfl|exact .inr rfl|assumption) :
  QS X (.Assign [.Name y pos'] (.Call (.Attribute o m apos) [] [] cpos) pos) (λEX D σ H=>ta σ H λx H1=>∃a dx fs,x=.ref a/\H1 a=some (.ins C dx fs)/\fs.lookup m=none/\sp [x] H1 (λv H2=>D.nx (σ.set i (some v)) H2) (EX σ)):=by
 intro pins s σ H D EX I h
 obtain ⟨f,fd,G,hm,hb⟩:=kn
 refine wpAny_Assign_Name (W.methodCall_KW (pl:=pl) (wpAny_mono (ho pins s σ H _ (I.wish _) h) (λu s1 ⟨x,H1,I1,rx,a,dx,fs,ex,ea,l,q⟩=>?_) λ_ _ z=>z.elim) ht) hs
 subst ex
 obtain rfl:u=Value.ref a:=rx
 have I1':Inv X pins σ H1 s1:=I1.unwish
 refine B4 I1' ea c hm l ?_
 refine W.callWith_K0 (first:=[.ref a]) I1'.kIn hm.kp ?_
 have r2:p9 [V.ref a] [Value.ref a]:=.cons rfl .nil
 have hl:([Value.ref a]++[]).length=ps.length:=by rw [ca,←r2.length];exact G.len _ _ _ _ q
 have bb:=hb s1 [Value.ref a] I1'.kIn hl
 rw [ca] at bb
 refine wpAny_call (codeAny_mono (G.run X.A X.stack s1 H1 ⟨[Value.ref a],[]⟩ [Value.ref a] [V.ref a] _ (EX σ) (hr.mono hj) I1'.env0 bb r2 q) λrr s' hq=>?_)
 cases rr with
 | error ex=>exact ⟨σ,H1,s1,I1',hq⟩
 | ok fl =>
  cases fl with
  | ret u =>
   obtain ⟨v,H',I2,r3,q2⟩:=I1'.after hq
   exact zd4 I2 hN hi hx r3 (λs2 I3=>⟨_,H',I3,q2⟩) hf
  | next=>exact False.elim hq
  | brk=>exact False.elim hq
  | cont=>exact False.elim hq
def Itc (lo st:Int)(n:Nat):It:=⟨λi _=>i<n,λi H x H'=>H'=H/\x=.int (lo+(i:Int)*st),λi _=>n<=i⟩
theorem yf0 {P:Program}{w:World}{K:W.Frag}{tg:Expr}(it:Addr)(lo st:Int)(n:Nat):zy2 P w K tg (Itc lo st n) [it] it (λi h=>IsRangeIter h it (lo+(i:Nat)*st) ((n:Int)-(i:Nat)) st) where
 mem:=by simp
 obj:=λi h st b hb=>by
  have e:b=it:=by simpa using hb
  subst e
  exact ⟨_,st,λv z=>by
   have z':Data.fields _=Data.cell v:=z
   cases z'⟩
 keep:=λi h h' st k=>k it (by simp) _ st
 item:=by
  intro X hP hw hK hc i pins s σ H E I hf st' hg
  subst hP hw hK
  obtain ⟨f0,f1,f2,f3,f4,f5⟩:=hf it (by simp)
  have W:=Walks.range (prog:=X.prog) (w:=X.w) (I.ok.hd hc) it lo st n
  refine W.item i s _ _ hg st' λv h' tk hv st' kk=>?_
  obtain ⟨t,rfl⟩:=hv
  have I1:Inv X pins σ H { s with heap:=h',toks:=tk }:=I.turned (λb o hb e=>kk b o (by simpa using hb) e) f0 f1 f3 f4 f5
  exact ⟨_,rfl,zr0 (s:={ s with heap:=h',toks:=tk }) (n:="range_iterator") st' rfl rfl (by decide) ⟨.int (lo+(i:Int)*st),H,I1,⟨t,rfl⟩,⟨rfl,rfl⟩,st',λb hb=>(hf b hb).1⟩⟩
 done:=by
  intro X hP hw hK hc i pins s σ H E I hf st hg
  subst hP hw hK
  obtain ⟨f0,f1,f2,f3,f4,f5⟩:=hf it (by simp)
  exact wpAny_pyNext_range_end (I.ok.hd hc) st (by have:n<=i:=hg;lia) λh' eb=>⟨rfl,I.turned (t':=s.toks) (λb o hb e=>eb b o hb e) f0 f1 f3 f4 f5⟩
 self:=λ_ _ _ _ _ st h=>wpAny_pyIter_rangeiter st h
def xo9 (ta:TA):TI:=λσ H R=>ta σ H λvs H1=>∃(i j c:Int) (n:Nat),vs=[.int i,.int j,.int c]/\(c≠0/\-1073741824<c/\c<1073741824)/\Builtin.Range.small i j c=true/\Builtin.Range.rangeSize i j c=(n:Int)/\R (Itc i c n) H1
theorem yr8 {tg a b c:Expr}{ta:TA}{p pos:Pos}(hg:Gl X "range") (hm:X.mg "range"=none) (ha:PA X [a,b,c] ta) (hs:starEach [a,b,c] X.env=[(false,eval a X.env),(false,eval b X.env),(false,eval c X.env)]:=by rfl)
  (hs2:starEach [b,c] X.env=[(false,eval b X.env),(false,eval c X.env)]:=by rfl):PI X tg (.Call (.Name "range" p) [a,b,c] [] pos) (xo9 ta):=by
 intro pins s σ H R I h
 refine Call_ (G3 I hg hm boot_range (PyProof.Rows.callWith_type1 (thn (ha pos pins s σ H _ I h) λus s1 ⟨vs,H1,I1,r1,q1⟩=>?_) (by rw [hs,hs2]) (by rw [hs2];rfl)))
 obtain ⟨lo,hi,st,n,e,⟨q1,q2,q3⟩,hsm,hsz,q⟩:=q1
 subst e
 cases r1 with
 | cons r rr =>
  cases rr with
  | cons r' rr =>
   cases rr with
   | cons r'' rr =>
    cases rr
    obtain ⟨t,rfl⟩:=r
    obtain ⟨u,rfl⟩:=r'
    obtain ⟨v,rfl⟩:=r''
    refine call_range_3 (by simpa using q1) ?_ (Or.inl (PyProof.noPylong_small (by lia)))
    refine wpAny_pyIter_range (IsRange.new ..) hsm ?_
    have I2:=I1.kept (h':=s1.heap.push { cls:=.type "range",data:=.fields #[.int lo t,.int hi u,.int st v] }) (t':=s1.toks) λb o e=>av _ e
    refine ⟨_,[(s1.heap.push { cls:=.type "range",data:=.fields #[.int lo t,.int hi u,.int st v] }).objs.size],_,_,H1,rfl,I2.kept (t':=s1.toks) λb o e=>av _ e,yf0 _ lo st n,?_,λb hb=>?_,q⟩
    ·show IsRangeIter _ _ (lo+((0:Nat):Int)*st) ((n:Int)-((0:Nat):Int)) st
     rw [show lo+((0:Nat):Int)*st=lo by simp,show (n:Int)-((0:Nat):Int)=Builtin.Range.rangeSize lo hi st by rw [hsz];simp]
     exact aG _ rfl
    ·have e:b=(s1.heap.push { cls:=.type "range",data:=.fields #[.int lo t,.int hi u,.int st v] }).objs.size:=by simpa using hb
     subst e
     exact I2.fpOk (af _) (I2.hok.fresh (af _))
end
theorem yg8 {lo st:Int}{n:Nat}{g:TG}{tb:TS}{D:J3}{σ:St}{H:Hp}(Pv:Nat->St->Hp->Prop)(h0:Pv 0 σ H)
  (hs:∀i σ H,i<n->Pv i σ H->g (.int (lo+(i:Int)*st)) σ H λσ2 H2=>tb { D with nx:=Pv (i+1),ct:=Pv (i+1),bk:=D.nx } σ2 H2) (hd:∀σ H,Pv n σ H->D.nx σ H) :
  ∃W:Nat->Nat->St->Hp->Prop,(∃m,W 0 m σ H)/\∀i m σ H,W i m σ H ->
   ((Itc lo st n).stop i H/\D.nx σ H)∨((Itc lo st n).go i H/\∃N:St->Hp->Prop,(∀σ' H',N σ' H'->∃m',m'<m/\W (i+1) m' σ' H')/\∀x H',(Itc lo st n).yld i H x H'->g x σ H' λσ2 H2=>tb { D with nx:=N,ct:=N,bk:=D.nx } σ2 H2):=by
 refine ⟨λi m σ H=>m=n-i/\i<=n/\Pv i σ H,⟨n,by simp,aQ _,h0⟩,?_⟩
 rintro i m σ H ⟨rfl,hi,p⟩
 by_cases hlt:i<n
 ·refine .inr ⟨hlt,Pv (i+1),λσ' H' p'=>⟨n-(i+1),by lia,rfl,hlt,p'⟩,λx H' y=>?_⟩
  obtain ⟨e,y⟩:=y
  subst e y
  exact hs i σ _ hlt p
 ·have e:i=n:=by lia
  subst e
  exact .inl ⟨af _,hd σ H p⟩
end L2
namespace TM
def IsT (n:Nat)(t:List Nat):Prop:=t.Perm (List.range n)
theorem IsT.length {n:Nat}{t:List Nat}(h:IsT n t):t.length=n:=by rw [List.Perm.length_eq h,aA]
theorem IsT.lt {n:Nat}{t:List Nat}(h:IsT n t){x:Nat}(hx:x∈t):x<n:=aH.mp ((List.Perm.mem_iff h).mp hx)
theorem IsT.mem {n:Nat}{t:List Nat}(h:IsT n t){x:Nat}(hx:x<n):x∈t:=(List.Perm.mem_iff h).mpr (aH.mpr hx)
theorem IsT.nodup {n:Nat}{t:List Nat}(h:IsT n t):t.Nodup:=(List.Perm.nodup_iff h).mpr bQ
theorem IsT.range (n:Nat):IsT n (List.range n):=List.Perm.refl _
theorem IsT.get_lt {n:Nat}{t:List Nat}(h:IsT n t){i x:Nat}(hx:t[i]?=some x):x<n:=h.lt (ax hx)
theorem IsT.at {n:Nat}{t:List Nat}(h:IsT n t){i:Nat}(hi:i<n):∃x,t[i]?=some x/\x<n:=by
 have hi':i<t.length:=by rw [h.length];exact hi
 exact ⟨t[i],aa hi',h.lt (bH hi')⟩
theorem V2:∀{t l:List Nat},t.Nodup->(∀x∈t,x∈l)->l.length<=t.length->t.Perm l
 | [],l,_,_,h=>by
  have e:l=[]:=bL.mp (Nat.le_zero.mp h)
  subst e
  exact List.Perm.refl _
 | a::r,l,hn,hs,h=>by
  obtain ⟨h1,h2⟩:=aK.mp hn
  have ha:a∈l:=hs a au
  have p:=List.perm_cons_erase ha
  have ih:r.Perm (l.erase a):=V2 h2 (λx hx=>by
   have hx':=hs x (ao _ hx)
   have ne:x≠a:=λe=>h1 (e ▸ hx)
   rcases ay.mp ((List.Perm.mem_iff p).mp hx') with e|e
   ·exact absurd e ne
   ·exact e) (by rw [cr ha];simp only [az] at h;lia)
  exact (List.Perm.cons a ih).trans p.symm
theorem isT_of {n:Nat}{t:List Nat}(hl:t.length=n)(hn:t.Nodup)(hlt:∀x∈t,x<n):IsT n t :=
 V2 hn (λx hx=>aH.mpr (hlt x hx)) (by rw [hl,aA];exact af _)
theorem zk0 {α:Type}:∀(l:List α) (i:Nat) (x:α),l[i]?=some x->(x::l.eraseIdx i).Perm l
 | [],_,_,h=>by cases h
 | a::r,0,x,h=>by
  cases h
  exact List.Perm.refl _
 | a::r,i+1,x,h=>by
  have ih:=zk0 r i x (by simpa using h)
  rw [List.eraseIdx_cons_succ]
  exact (List.Perm.swap a x _).trans (List.Perm.cons a ih)
theorem draw_perm {n:Nat}{row left:List Nat}{i x:Nat}(h:IsT n (row++left))(hx:left[i]?=some x):IsT n ((row++[x])++left.eraseIdx i):=by
 refine List.Perm.trans ?_ h
 rw [bD]
 exact List.Perm.append_left row (zk0 left i x hx)
end TM
namespace TM
theorem IsT.map {n:Nat}{s t:List Nat}(hs:IsT n s)(ht:IsT n t):IsT n (s.map λx=>t.getD x 0):=by
 have e:((List.range n).map λx=>t.getD x 0)=t:=by
  apply bZ
  intro i
  rw [ag]
  by_cases hi:i<n
  ·rw [aM hi]
   have hi':i<t.length:=by rw [ht.length];exact hi
   simp [aa hi']
  ·rw [aU (by rw [aA];lia),aU (by rw [ht.length];lia)]
   rfl
 have h1:=List.Perm.map (λx=>t.getD x 0) hs
 rw [e] at h1
 exact h1.trans ht
theorem getD_of {t:List Nat}{i x:Nat}(h:t[i]?=some x):t.getD i 0=x:=by rw [ar,h];rfl
theorem zu4 {s t:List Nat}{i x y:Nat}(hs:s[i]?=some x)(ht:t[x]?=some y):(s.map λx=>t.getD x 0)[i]?=some y:=by
 rw [ag,hs]
 simp only [dD]
 rw [getD_of ht]
theorem IsT.hit {n:Nat}{t:List Nat}(h:IsT n t){y:Nat}(hy:y<n):∃x,t[x]?=some y/\x<n:=by
 obtain ⟨x,hx⟩:=cJ (h.mem hy)
 exact ⟨x,hx,by have:=(ap.mp hx).1;rwa [h.length] at this⟩
theorem IsT.inj {n:Nat}{t:List Nat}(h:IsT n t){i j x:Nat}(hi:t[i]?=some x)(hj:t[j]?=some x):i=j:=by
 obtain ⟨h1,e1⟩:=ap.mp hi
 obtain ⟨h2,e2⟩:=ap.mp hj
 exact (fC h.nodup).mp (e1.trans e2.symm)
structure Back (n:Nat) (t:List Nat) (k:Nat) (b:List Nat):Prop where
 len:b.length=n
 ret:∀x y,x<k->t[x]?=some y->b[y]?=some x
theorem Back.start {n:Nat}{t b:List Nat}(h:b.length=n):Back n t 0 b:=⟨h,λ_ _ h=>absurd h (cW _)⟩
theorem Back.step {n:Nat}{t b:List Nat}{k y:Nat}(hT:IsT n t)(h:Back n t k b)(hy:t[k]?=some y):Back n t (k+1) (b.set y k):=by
 have hyn:y<b.length:=by rw [h.len];exact hT.get_lt hy
 refine ⟨by rw [bE];exact h.len,λx z hx hz=>?_⟩
 by_cases e:x=k
 ·subst e
  rw [hy] at hz
  cases hz
  rw [cf hyn]
 ·have ne:y≠z:=λq=>e (hT.inj hz (q ▸ hy))
  rw [bM ne]
  exact h.ret x z (by lia) hz
theorem Back.lt {n:Nat}{t b:List Nat}(hT:IsT n t)(h:Back n t n b){y x:Nat}(hy:b[y]?=some x):x<n/\t[x]?=some y:=by
 have hyn:y<n:=by have:=(ap.mp hy).1;rwa [h.len] at this
 obtain ⟨z,hz,hzn⟩:=hT.hit hyn
 have:=h.ret z y hzn hz
 rw [hy] at this
 cases this
 exact ⟨hzn,hz⟩
theorem Back.get {n:Nat}{t b:List Nat}(hT:IsT n t)(h:Back n t n b){y:Nat}(hy:y<n):∃x,b[y]?=some x/\x<n/\t[x]?=some y:=by
 obtain ⟨x,hx,hxn⟩:=hT.hit hy
 exact ⟨x,h.ret x y hxn hx,hxn,hx⟩
theorem Back.mem_lt {n:Nat}{t b:List Nat}(hT:IsT n t)(h:Back n t n b){x:Nat}(hx:x∈b):x<n:=by
 obtain ⟨y,hy⟩:=cJ hx
 exact (h.lt hT hy).1
theorem Back.uniq {n:Nat}{t b c:List Nat}(hT:IsT n t)(h:Back n t n b)(h':Back n t n c):b=c:=by
 apply bZ
 intro y
 by_cases hy:y<n
 ·obtain ⟨x,h1,hxn,hx⟩:=h.get hT hy
  rw [h1,h'.ret x y hxn hx]
 ·rw [aU (by rw [h.len];lia),aU (by rw [h'.len];lia)]
theorem Back.isT {n:Nat}{t b:List Nat}(hT:IsT n t)(h:Back n t n b):IsT n b:=by
 refine isT_of h.len ?_ λx hx=>h.mem_lt hT hx
 refine aX.mpr λi j hi hj hij e=>?_
 have h1:=(h.lt hT (aa hi)).2
 have h2:=(h.lt hT (aa hj)).2
 rw [e,h2] at h1
 cases h1
 exact aZ _ hij
theorem Back.comp {n:Nat}{s t b c:List Nat}(hs:IsT n s)(ht:IsT n t)(h:Back n s n b)(h':Back n t n c):Back n (s.map λx=>t.getD x 0) n (c.map λx=>b.getD x 0):=by
 refine ⟨by rw [ae];exact h'.len,λx z hx hz=>?_⟩
 obtain ⟨y,hy,hyn⟩:=hs.at hx
 obtain ⟨z',hz',_⟩:=ht.at hyn
 rw [zu4 hy hz'] at hz
 cases hz
 exact zu4 (h'.ret y z hyn hz') (h.ret x y hx hy)
theorem Back.range (n:Nat):Back n (List.range n) n (List.range n):=⟨aA,λx y hx hy=>by
 rw [aM hx] at hy
 cases hy
 exact aM hx⟩
end TM
namespace TM
def it (t:List Nat):Nat->Nat->Nat
 | 0,x=>x
 | k+1,x=>t.getD (it t k x) 0
theorem P2 (t:List Nat)(j:Nat):∀(k x:Nat),it t (j+k) x=it t k (it t j x)
 | 0,_=>rfl
 | k+1,x=>by
  show t.getD (it t (j+k) x) 0=t.getD (it t k (it t j x)) 0
  rw [P2 t j k x]
theorem xk2 (t:List Nat)(x:Nat):it t 1 x=t.getD x 0:=rfl
section
variable {n:Nat}{t:List Nat}(h:IsT n t)
include h
theorem IsT.step_lt {x:Nat}(hx:x<n):t.getD x 0<n:=by
 obtain ⟨y,hy,hyn⟩:=h.at hx
 rw [getD_of hy]
 exact hyn
theorem IsT.get_step {x:Nat}(hx:x<n):t[x]?=some (t.getD x 0):=by
 obtain ⟨y,hy,_⟩:=h.at hx
 rw [getD_of hy,hy]
theorem IsT.it_lt {x:Nat}(hx:x<n):∀k,it t k x<n
 | 0=>hx
 | k+1=>h.step_lt (IsT.it_lt hx k)
theorem IsT.step_inj {x y:Nat}(hx:x<n)(hy:y<n)(e:t.getD x 0=t.getD y 0):x=y:=h.inj (h.get_step hx) (e ▸ h.get_step hy)
theorem IsT.it_inj {x y:Nat}(hx:x<n)(hy:y<n):∀k,it t k x=it t k y->x=y
 | 0,e=>e
 | k+1,e=>IsT.it_inj hx hy k (h.step_inj (h.it_lt hx k) (h.it_lt hy k) e)
end
theorem yr0 {l:List Nat}{n:Nat}(hn:l.Nodup)(hlt:∀x∈l,x<n):l.length<=n:=by
 refine cQ λhc=>?_
 have p:=V2 hn (λx hx=>aH.mpr (hlt x hx)) (by rw [aA];lia)
 have:=p.length_eq
 rw [aA] at this
 lia
def per (t:List Nat)(x:Nat):Nat:=((List.range t.length).find? λj=>it t (j+1) x==x).getD 0+1
section
variable {n:Nat}{t:List Nat}(h:IsT n t)
include h
theorem IsT.back_some {x:Nat}(hx:x<n):∃j,j<n/\it t (j+1) x=x:=by
 refine Classical.byContradiction λhc=>?_
 have nd:((List.range (n+1)).map λk=>it t k x).Nodup:=by
  refine aX.mpr λi j hi hj hij e=>?_
  simp only [ae,aA] at hi hj
  simp only [List.getElem_map,List.getElem_range] at e
  have e2:it t (j-i) x=x:=by
   have e3:it t j x=it t i (it t (j-i) x):=by rw [←P2];congr 1;lia
   rw [e3] at e
   exact (h.it_inj hx (h.it_lt hx _) i e).symm
  exact hc ⟨j-i-1,by lia,by rw [show j-i-1+1=j-i by lia];exact e2⟩
 have:=yr0 nd λy hy=>by
  obtain ⟨k,_,rfl⟩:=aw.mp hy
  exact h.it_lt hx k
 simp only [ae,aA] at this
 lia
theorem IsT.per_spec {x:Nat}(hx:x<n):1<=per t x/\per t x<=n/\it t (per t x) x=x/\∀j,1<=j->j<per t x->it t j x≠x:=by
 obtain ⟨j,hj,ej⟩:=h.back_some hx
 have hsome:((List.range t.length).find? λj=>it t (j+1) x==x).isSome=true:=by
  rw [List.find?_isSome]
  exact ⟨j,aH.mpr (by rw [h.length];exact hj),by simpa using ej⟩
 obtain ⟨k,hk⟩:=eU.mp hsome
 have e:per t x=k+1:=by unfold per;rw [hk];rfl
 rw [e]
 rw [List.find?_range_eq_some] at hk
 obtain ⟨h1,h2,h3⟩:=hk
 refine ⟨by lia,by have:=aH.mp h2;rw [h.length] at this;lia,by simpa using h1,λi hi1 hi2=>?_⟩
 have:=h3 (i-1) (by lia)
 rw [show i-1+1=i by lia] at this
 simpa using this
theorem IsT.per_pos {x:Nat}(hx:x<n):0<per t x:=(h.per_spec hx).1
theorem IsT.per_back {x:Nat}(hx:x<n):it t (per t x) x=x:=(h.per_spec hx).2.2.1
theorem IsT.it_mul {x:Nat}(hx:x<n):∀q,it t (per t x*q) x=x
 | 0=>rfl
 | q+1=>by rw [Nat.mul_succ,P2,IsT.it_mul hx q,h.per_back hx]
theorem IsT.it_mod {x:Nat}(hx:x<n)(k:Nat):it t (k % per t x) x=it t k x:=by
 have e:k=per t x*(k / per t x)+k % per t x:=(Nat.div_add_mod k (per t x)).symm
 conv=>rhs;rw [e,P2,h.it_mul hx]
theorem IsT.it_eq_iff {x:Nat}(hx:x<n){i j:Nat}(hi:i<per t x)(hj:j<per t x)(e:it t i x=it t j x):i=j:=by
 have key:∀{i j:Nat},i<=j->j<per t x->it t i x=it t j x->i=j:=λ{i j} hij hj e=>by
  by_cases hq:i=j
  ·exact hq
  ·exfalso
   have e3:it t j x=it t i (it t (j-i) x):=by rw [←P2];congr 1;lia
   rw [e3] at e
   have e2:=(h.it_inj hx (h.it_lt hx _) i e).symm
   exact (h.per_spec hx).2.2.2 (j-i) (by lia) (by lia) e2
 rcases fS i j with q|q
 ·exact key q hj e
 ·exact (key q hi e.symm).symm
end
def cyc (t:List Nat)(x:Nat):List Nat:=(List.range (per t x)).map λj=>it t j x
theorem zj6 (t:List Nat)(x:Nat):(cyc t x).length=per t x:=by unfold cyc;rw [ae,aA]
theorem yk9 {t:List Nat}{x j:Nat}(hj:j<per t x):(cyc t x)[j]?=some (it t j x):=by
 unfold cyc
 rw [ag,aM hj]
 rfl
theorem D1 {t:List Nat}{x y:Nat}:y∈cyc t x↔∃j,j<per t x/\y=it t j x:=by
 unfold cyc
 rw [aw]
 constructor
 ·rintro ⟨j,hj,rfl⟩
  exact ⟨j,aH.mp hj,rfl⟩
 ·rintro ⟨j,hj,rfl⟩
  exact ⟨j,aH.mpr hj,rfl⟩
section
variable {n:Nat}{t:List Nat}(h:IsT n t)
include h
theorem IsT.mem_cyc_it {x:Nat}(hx:x<n)(k:Nat):it t k x∈cyc t x:=D1.mpr ⟨k % per t x,fW _ (h.per_pos hx),(h.it_mod hx k).symm⟩
theorem IsT.self_mem {x:Nat}(hx:x<n):x∈cyc t x:=h.mem_cyc_it hx 0
theorem IsT.cyc_lt {x y:Nat}(hx:x<n)(hy:y∈cyc t x):y<n:=by
 obtain ⟨j,_,rfl⟩:=D1.mp hy
 exact h.it_lt hx j
theorem IsT.cyc_symm {x y:Nat}(hx:x<n)(hy:y∈cyc t x):x∈cyc t y:=by
 obtain ⟨j,hj,rfl⟩:=D1.mp hy
 have e:it t (per t x-j) (it t j x)=x:=by
  rw [←P2,show j+(per t x-j)=per t x by lia]
  exact h.per_back hx
 have:=h.mem_cyc_it (h.it_lt hx j) (per t x-j)
 rwa [e] at this
theorem IsT.cyc_trans {x y z:Nat}(hx:x<n)(hy:y∈cyc t x)(hz:z∈cyc t y):z∈cyc t x:=by
 obtain ⟨j,_,rfl⟩:=D1.mp hy
 obtain ⟨k,_,rfl⟩:=D1.mp hz
 rw [←P2]
 exact h.mem_cyc_it hx _
theorem IsT.per_it {x:Nat}(hx:x<n)(j:Nat):per t (it t j x)=per t x:=by
 have hy:=h.it_lt hx j
 have le1:∀{x:Nat} (hx:x<n) (j:Nat),per t (it t j x)<=per t x:=λ{x} hx j=>by
  have hy:=h.it_lt hx j
  refine cQ λhc=>?_
  refine (h.per_spec hy).2.2.2 (per t x) (h.per_pos hx) hc ?_
  rw [←P2,dX,P2,h.per_back hx]
 refine cp (le1 hx j) ?_
 have e:it t (per t x*(j+1)-j) (it t j x)=x:=by
  have hle:j<=per t x*(j+1):=aB (bY j) (by have:=bX (j+1) (h.per_pos hx);lia)
  rw [←P2,show j+(per t x*(j+1)-j)=per t x*(j+1) by lia]
  exact h.it_mul hx _
 have:=le1 hy (per t x*(j+1)-j)
 rwa [e] at this
theorem IsT.cyc_nodup {x:Nat}(hx:x<n):(cyc t x).Nodup:=by
 refine aX.mpr λi j hi hj hij e=>?_
 rw [zj6] at hi hj
 have e1:(cyc t x)[i]?=some (it t i x):=yk9 hi
 have e2:(cyc t x)[j]?=some (it t j x):=yk9 hj
 have e3:=(ap.mp e1).2
 have e4:=(ap.mp e2).2
 have:=h.it_eq_iff hx hi hj (by rw [←e3,←e4];exact e)
 lia
end
structure xu0 (t:List Nat) (x k:Nat) (c:List Nat):Prop where
 eq:c=(List.range k).map λj=>it t j x
 pos:1<=k
 no:∀j,1<=j->j<k->it t j x≠x
def E9 (t:List Nat)(x:Nat):Bool:=(cyc t x).all λy=>decide (x<=y)
def J0 (t:List Nat)(k:Nat):List Nat:=(List.range k).filter λx=>E9 t x&&decide (1<per t x)
def pw (t:List Nat)(m:Int)(x:Nat):Nat:=it t (m % (per t x:Int)).toNat x
def pwT (t:List Nat)(m:Int):List Nat:=(List.range t.length).map (pw t m)
end TM
namespace TM
theorem ya8:∀(l:List Nat),l≠[]->∃y∈l,∀z∈l,y<=z
 | [],h=>absurd rfl h
 | [a],_=>⟨a,au,λz hz=>by rw [ah.mp hz];exact af _⟩
 | a::b::r,_=>by
  obtain ⟨y,hy,hl⟩:=ya8 (b::r) (by simp)
  by_cases q:a<=y
  ·exact ⟨a,au,λz hz=>by
    rcases ay.mp hz with e|e
    ·rw [e];exact af _
    ·exact aB q (hl z e)⟩
  ·exact ⟨y,ao _ hy,λz hz=>by
    rcases ay.mp hz with e|e
    ·rw [e];lia
    ·exact hl z e⟩
theorem V1 {t:List Nat}{k h:Nat}:h∈J0 t k↔h<k/\E9 t h=true/\1<per t h:=by
 unfold J0
 rw [cU,aH,bN,decide_eq_true_eq]
theorem xd7 {L:Nat}(hL:0<L)(i:Nat)(m:Int):((((i:Int)+m) % (L:Int)).toNat)=(i+(m % (L:Int)).toNat) % L:=by
 have hL':(0:Int)<(L:Int):=by lia
 have h1:=br ((i:Int)+m) (show (L:Int)≠0 by lia)
 have h2:=br m (show (L:Int)≠0 by lia)
 have e1:((m % (L:Int)).toNat:Int)=m % (L:Int):=bJ h2
 have e2:(((i+(m % (L:Int)).toNat) % L:Nat):Int)=((i:Int)+m) % (L:Int):=by
  rw [fH,eS,e1,Int.add_emod_emod]
 lia
section
variable {n:Nat}{t:List Nat}(hT:IsT n t)
include hT
theorem IsT.per_mem {x y:Nat}(hx:x<n)(hy:y∈cyc t x):per t y=per t x:=by
 obtain ⟨j,_,rfl⟩:=D1.mp hy
 exact hT.per_it hx j
theorem IsT.head {x:Nat}(hx:x<n):∃h,h<n/\E9 t h=true/\x∈cyc t h/\h∈cyc t x/\per t h=per t x:=by
 obtain ⟨h,hh,hl⟩:=ya8 (cyc t x) (λe=>by have:=hT.self_mem hx;rw [e] at this;cases this)
 have hhn:=hT.cyc_lt hx hh
 refine ⟨h,hhn,?_,hT.cyc_symm hx hh,hh,hT.per_mem hx hh⟩
 unfold E9
 rw [bS]
 exact λy hy=>decide_eq_true (hl y (hT.cyc_trans hx hh hy))
theorem IsT.in_loop {x:Nat}(hx:x<n)(hp:1<per t x):∃h,h∈J0 t n/\x∈cyc t h:=by
 obtain ⟨h,hn,hl,hm,_,hq⟩:=hT.head hx
 exact ⟨h,V1.mpr ⟨hn,hl,by lia⟩,hm⟩
theorem IsT.stay {x:Nat}(hx:x<n)(hp:¬1<per t x):t[x]?=some x:=by
 have h1:=hT.per_pos hx
 have h2:=hT.per_back hx
 rw [show per t x=1 by lia,xk2] at h2
 have:=hT.get_step hx
 rwa [h2] at this
theorem IsT.pw_lt (m:Int){x:Nat}(hx:x<n):pw t m x<n:=hT.it_lt hx _
theorem IsT.pw_pw (a b:Int){x:Nat}(hx:x<n):pw t b (pw t a x)=pw t (a+b) x:=by
 have hL:=hT.per_pos hx
 unfold pw
 rw [hT.per_it hx,←P2]
 have h2:=br a (show (per t x:Int)≠0 by lia)
 have e:((a+b) % (per t x:Int)).toNat=((a % (per t x:Int)).toNat+(b % (per t x:Int)).toNat) % per t x:=by
  rw [←xd7 hL,bJ h2,Int.emod_add_emod]
 rw [e,hT.it_mod hx]
theorem IsT.pwT_get (m:Int){x:Nat}(hx:x<n):(pwT t m)[x]?=some (pw t m x):=by
 unfold pwT
 rw [ag,aM (by rw [hT.length];exact hx)]
 rfl
theorem IsT.pwT_len (m:Int):(pwT t m).length=n:=by unfold pwT;rw [ae,aA,hT.length]
theorem IsT.eq_pwT {g:List Nat}{m:Int}(hl:g.length=n)(h:∀x,x<n->g[x]?=some (pw t m x)):g=pwT t m:=by
 apply bZ
 intro x
 by_cases hx:x<n
 ·rw [h x hx,hT.pwT_get m hx]
 ·rw [aU (by lia),aU (by rw [hT.pwT_len];lia)]
theorem IsT.pwT_zero:List.range n=pwT t 0:=hT.eq_pwT aA λx hx=>by
 rw [aM hx]
 unfold pw
 rw [Int.zero_emod]
 rfl
theorem IsT.pwT_one:t=pwT t 1:=hT.eq_pwT hT.length λx hx=>by
 by_cases hp:1<per t x
 ·rw [hT.get_step hx]
  unfold pw
  rw [Int.emod_eq_of_lt (by decide) (by lia)]
  rfl
 ·have h1:=hT.per_pos hx
  rw [hT.stay hx hp]
  unfold pw
  rw [show per t x=1 by lia]
  rfl
theorem IsT.pwT_comp (a b:Int):((pwT t a).map λx=>(pwT t b).getD x 0)=pwT t (a+b):=hT.eq_pwT (by rw [ae,hT.pwT_len]) λx hx=>by
 rw [zu4 (hT.pwT_get a hx) (hT.pwT_get b (hT.pw_lt a hx)),hT.pw_pw a b hx]
end
structure Pow (n:Nat) (t:List Nat) (m:Int) (S:Nat->Prop) (g:List Nat):Prop where
 len:g.length=n
 ins:∀x,x<n->S x->g[x]?=some (pw t m x)
 out:∀x,x<n->¬S x->g[x]?=t[x]?
end TM
namespace TM
theorem zt5 (t:List Nat)(k:Nat):(J0 t k).Pairwise (· < ·):=List.Pairwise.filter _ dP
theorem ya7 {t:List Nat}{h y:Nat}(hl:E9 t h=true)(hy:y∈cyc t h):h<=y:=by
 unfold E9 at hl
 rw [bS] at hl
 simpa using hl y hy
section
variable {n:Nat}{t:List Nat}(hT:IsT n t)
include hT
theorem IsT.heads_apart {g h z:Nat}(hg:g∈J0 t n)(hh:h∈J0 t n)(hz:z∈cyc t g)(hz':z∈cyc t h):g=h:=by
 obtain ⟨h1,h2,_⟩:=V1.mp hg
 obtain ⟨h3,h4,_⟩:=V1.mp hh
 have a1:h∈cyc t g:=hT.cyc_trans h1 hz (hT.cyc_symm h3 hz')
 have a2:g∈cyc t h:=hT.cyc_trans h3 hz' (hT.cyc_symm h1 hz)
 exact cp (ya7 h2 a1) (ya7 h4 a2)
end
def xl2 (l:List Nat):Nat:=l.foldl Nat.lcm 1
theorem lcm_pos {a b:Nat}(ha:0<a)(hb:0<b):0<Nat.lcm a b:=Nat.lcm_pos ha hb
def zu2 (t:List Nat)(n:Nat):List Nat:=(J0 t n).map (per t)
theorem yx0 {t:List Nat}{n x:Nat}(h:x∈zu2 t n):1<x:=by
 unfold zu2 at h
 obtain ⟨y,hy,rfl⟩:=aw.mp h
 exact (V1.mp hy).2.2
end TM
namespace TM
def iN (l:List Nat):List Int:=l.map λ(x:Nat)=>(x:Int)
theorem yw9:∀{l:List Nat},(∀x∈l,0<x)->0<xl2 l:=by
 intro l
 unfold xl2
 have key:∀(l:List Nat) (a:Nat),0<a->(∀x∈l,0<x)->0<l.foldl Nat.lcm a:=by
  intro l
  induction l with
  | nil=>intro a h _;exact h
  | cons b r ih=>intro a h hl;exact ih _ (Nat.lcm_pos h (hl b au)) λx hx=>hl x (ao _ hx)
 exact key l 1 (by decide)
end TM
namespace TM
section
variable {n:Nat}{t:List Nat}(hT:IsT n t)
include hT
end
theorem zu1 {l m:List Nat}(h1:l.Nodup)(h2:∀y∈l,y∈m):l.length<=m.length:=by
 refine cQ λhc=>?_
 have:=(V2 h1 h2 (by lia)).length_eq
 lia
section
variable {n:Nat}{t b c:List Nat}(hT:IsT n t)(hB:IsT n b)
include hT hB
end
end TM
namespace TM
theorem yq9 {l m:List Nat}(h1:l.Nodup)(h2:m.Nodup)(h:∀x,x∈l↔x∈m):l.length=m.length :=
 cp (zu1 h1 λx hx=>(h x).mp hx) (zu1 h2 λx hx=>(h x).mpr hx)
section
variable {n a b:Nat}{t u:List Nat}(hT:IsT n t)(hU:IsT n u)
include hT hU
end
def xd2 (t:List Nat)(n:Nat):List Nat:=(List.range n).filter λx=>!decide (1<per t x)
theorem yb3 {t:List Nat}{n x:Nat}:x∈xd2 t n↔x<n/\¬1<per t x:=by
 unfold xd2
 rw [cU,aH]
 simp
theorem zk2 {n:Nat}{t:List Nat}(hT:IsT n t):∀(l:List Nat),l.Nodup->(∀h∈l,h∈J0 t n)->(l.flatMap (cyc t)).Nodup
 | [],_,_=>cH
 | a::r,hn,hl=>by
  obtain ⟨h1,h2⟩:=aK.mp hn
  have ha:=hl a au
  rw [cD]
  refine bj.mpr ⟨hT.cyc_nodup (V1.mp ha).1,zk2 hT r h2 λh hh=>hl h (ao _ hh),λx hx y hy e=>?_⟩
  subst e
  obtain ⟨b,hb,hxb⟩:=bG.mp hy
  have:=hT.heads_apart ha (hl b (ao _ hb)) hx hxb
  exact h1 (this ▸ hb)
theorem zz7 (t:List Nat):∀(l:List Nat),(((l.flatMap (cyc t)).length:Nat):Int)=(iN (l.map (per t))).sum
 | []=>rfl
 | a::r=>by
  rw [cD,aq,zj6,aR]
  show ((per t a+(r.flatMap (cyc t)).length:Nat):Int)=(((per t a:Nat):Int)::iN (r.map (per t))).sum
  rw [cT,←zz7 t r,eS]
section
variable {n:Nat}{t:List Nat}(hT:IsT n t)
include hT
theorem IsT.count_all:((J0 t n).flatMap (cyc t)).length+(xd2 t n).length=n:=by
 have nd:((J0 t n).flatMap (cyc t)++xd2 t n).Nodup:=by
  refine bj.mpr ⟨zk2 hT _ ((zt5 t n).imp λh=>aS h) λh hh=>hh,List.Pairwise.filter _ bQ,λx hx y hy e=>?_⟩
  subst e
  obtain ⟨h,hh,hx⟩:=bG.mp hx
  obtain ⟨m1,m2,m3⟩:=V1.mp hh
  have:=hT.per_mem m1 hx
  exact (yb3.mp hy).2 (by lia)
 have:=yq9 nd (bQ (n:=n)) λx=>by
  rw [aE,aH,yb3]
  constructor
  ·rintro (h|h)
   ·obtain ⟨g,hg,hx⟩:=bG.mp h
    exact hT.cyc_lt (V1.mp hg).1 hx
   ·exact h.1
  ·intro hx
   by_cases hp:1<per t x
   ·obtain ⟨g,hg,hm⟩:=hT.in_loop hx hp
    exact .inl (bG.mpr ⟨g,hg,hm⟩)
   ·exact .inr ⟨hx,hp⟩
 rw [aq,aA] at this
 exact this
theorem IsT.lens_sum_le:(iN (zu2 t n)).sum<=(n:Int):=by
 have h1:=hT.count_all
 have h3:=zz7 t (J0 t n)
 have e:(iN (zu2 t n)).sum=((((J0 t n).flatMap (cyc t)).length:Nat):Int):=h3.symm
 lia
end
end TM
namespace TM
inductive Ln where
 | still|told (k:Nat)|behind (i j:Nat)|back (i:Nat)
 deriving DecidableEq
def Ln.refs:Ln->List Nat
 | .still=>[]
 | .told _=>[]
 | .behind i j=>[i,j]
 | .back i=>[i]
def Ln.Ok (c p:Nat):Ln->Prop
 | .still=>True
 | .told k=>k<c
 | .behind i j=>i<p/\j<p
 | .back i=>i<p
def Rec (c:Nat)(ls:List Ln):Prop:=∀(p:Nat) (l:Ln),ls[p]?=some l->l.Ok c p
inductive yk6 (ls:List Ln):Nat->Nat->Prop
 | self (p:Nat):yk6 ls p p
 | by {p r q:Nat} {l:Ln}:ls[p]?=some l->r∈l.refs->yk6 ls r q->yk6 ls p q
open Classical in
noncomputable def nb (ls:List Ln) (q:Nat):Bool:=decide (yk6 ls (ls.length-1) q)
def pos (b:Nat->Bool)(r:Nat):Nat:=((List.range r).filter b).length
def Ln.ren (f:Nat->Nat):Ln->Ln
 | .still=>.still
 | .told k=>.told k
 | .behind i j=>.behind (f i) (f j)
 | .back i=>.back (f i)
def few (b:Nat->Bool)(ls:List Ln)(k:Nat):List Ln:=((List.range k).filter b).map λp=>(ls.getD p .still).ren (pos b)
section
variable {c:Nat}{ls:List Ln}(hR:Rec c ls)(hne:ls≠[])
include hR hne
noncomputable def stay (ls:List Ln):List Ln:=few (nb ls) ls ls.length
end
def bkT (n:Nat)(t:List Nat):List Nat:=(List.range n).map λy=>t.idxOf y
def comp (s t:List Nat):List Nat:=s.map λx=>t.getD x 0
def Ln.mk (n:Nat)(ms:List (List Nat))(made:List (List Nat)):Ln->List Nat
 | .still=>List.range n
 | .told k=>ms.getD k []
 | .behind i j=>comp (made.getD i []) (made.getD j [])
 | .back i=>bkT n (made.getD i [])
end TM
namespace TM
section
variable {α:Type}
def Loc (d:α)(g:Ln->List α->α):Prop:=∀(l:Ln) (m1 m2:List α) (f:Nat->Nat),(∀r∈l.refs,m1.getD r d=m2.getD (f r) d)->g l m1=g (l.ren f) m2
end
def step (n:Nat)(ms:List (List Nat))(x:Int):List Nat:=if 0<=x then ms.getD x.toNat [] else bkT n (ms.getD (-1-x).toNat [])
section
variable {n:Nat}
variable {ms:List (List Nat)}(hms:∀t∈ms,IsT n t)
include hms
end
end TM
namespace TM
def beh (t u:List Nat):List Nat:=t.map λx=>u.getD x 0
def bk (n:Nat)(t:List Nat):List Nat:=(List.range n).map λy=>t.idxOf y
theorem IsT.beh {n:Nat}{t u:List Nat}(ht:IsT n t)(hu:IsT n u):IsT n (TM.beh t u):=IsT.map ht hu
theorem beh_get {n:Nat}{t u:List Nat}(ht:IsT n t){x:Nat}(hx:x<n):(TM.beh t u).getD x 0=u.getD (t.getD x 0) 0:=by
 unfold TM.beh
 rw [ar,ag,ht.get_step hx]
 rfl
theorem still_get {n x:Nat}(hx:x<n):(List.range n).getD x 0=x:=by
 rw [ar,aM hx];rfl
theorem Y9 {n:Nat}{a b:List Nat}(ha:IsT n a)(hb:IsT n b)(h:∀x,x<n->a.getD x 0=b.getD x 0):a=b:=by
 apply bZ
 intro i
 by_cases hi:i<n
 ·rw [ha.get_step hi,hb.get_step hi,h i hi]
 ·rw [aU (by rw [ha.length];lia),aU (by rw [hb.length];lia)]
theorem u9 {n:Nat}{a b c:List Nat}(ha:IsT n a)(hb:IsT n b)(hc:IsT n c):beh (beh a b) c=beh a (beh b c) :=
 Y9 ((ha.beh hb).beh hc) (ha.beh (hb.beh hc)) λx hx=>by rw [beh_get (ha.beh hb) hx,beh_get ha hx,beh_get ha hx,beh_get hb (ha.step_lt hx)]
theorem still_beh {n:Nat}{t:List Nat}(ht:IsT n t):beh (List.range n) t=t :=
 Y9 ((IsT.range n).beh ht) ht λx hx=>by rw [beh_get (IsT.range n) hx,still_get hx]
theorem beh_still {n:Nat}{t:List Nat}(ht:IsT n t):beh t (List.range n)=t :=
 Y9 (ht.beh (IsT.range n)) ht λx hx=>by rw [beh_get ht hx,still_get (ht.step_lt hx)]
theorem Y5:∀{l:List Nat} {i x:Nat},l.Nodup->l[i]?=some x->l.idxOf x=i
 | a::r,0,x,_,h=>by
  obtain rfl:a=x:=by simpa using h
  exact List.idxOf_cons_self
 | a::r,i+1,x,hn,h=>by
  have h':r[i]?=some x:=by simpa using h
  have hne:a≠x:=λe=>(aK.mp hn).1 (e ▸ ax h')
  have ih:=Y5 (aK.mp hn).2 h'
  rw [List.idxOf_cons,show (a==x)=false from beq_eq_false_iff_ne.mpr hne]
  show r.idxOf x+1=i+1
  rw [ih]
theorem zj1 {n:Nat}{t:List Nat}(ht:IsT n t){x:Nat}(hx:x<n):(bk n t).getD (t.getD x 0) 0=x:=by
 unfold bk
 rw [ar,ag,aM (ht.step_lt hx)]
 exact Y5 ht.nodup (ht.get_step hx)
theorem bk_back {n:Nat}{t:List Nat}(ht:IsT n t):Back n t n (bk n t):=by
 refine ⟨by unfold bk;rw [ae,aA],λx y hx hy=>?_⟩
 unfold bk
 rw [ag,aM (ht.get_lt hy)]
 exact congrArg some (Y5 ht.nodup hy)
theorem IsT.bk {n:Nat}{t:List Nat}(ht:IsT n t):IsT n (TM.bk n t):=(bk_back ht).isT ht
theorem J8 {n:Nat}{t:List Nat}(ht:IsT n t):beh t (bk n t)=List.range n :=
 Y9 (ht.beh ht.bk) (IsT.range n) λx hx=>by rw [beh_get ht hx,zj1 ht hx,still_get hx]
theorem xj5 {n:Nat}{t:List Nat}(ht:IsT n t){y:Nat}(hy:y<n):t.getD ((bk n t).getD y 0) 0=y:=by
 obtain ⟨x,hx,hxn⟩:=ht.hit hy
 have e:=getD_of hx
 rw [←e,zj1 ht hxn]
theorem zj0 {n:Nat}{t:List Nat}(ht:IsT n t):beh (bk n t) t=List.range n :=
 Y9 (ht.bk.beh ht) (IsT.range n) λx hx=>by rw [beh_get ht.bk hx,xj5 ht hx,still_get hx]
theorem xh3 {n:Nat}{t:List Nat}(ht:IsT n t):bk n (bk n t)=t:=by
 have h:=u9 ht ht.bk ht.bk.bk
 rw [J8 ht,J8 ht.bk,beh_still ht,still_beh ht.bk.bk] at h
 exact h
theorem zs9 {n:Nat}{a b:List Nat}(ha:IsT n a)(hb:IsT n b):bk n (beh a b)=beh (bk n b) (bk n a) :=
 ((bk_back (ha.beh hb)).uniq (ha.beh hb) ((bk_back ha).comp ha hb (bk_back hb)))
theorem bk_still (n:Nat):bk n (List.range n)=List.range n:=(bk_back (IsT.range n)).uniq (IsT.range n) (Back.range n)
theorem B2 {n:Nat}{a b u:List Nat}(ha:IsT n a)(hb:IsT n b)(hu:IsT n u)(h:beh a u=beh b u):a=b:=by
 have e:=congrArg (λz=>beh z (bk n u)) h
 rwa [u9 ha hu hu.bk,u9 hb hu hu.bk,J8 hu,beh_still ha,beh_still hb] at e
theorem zf8 {n:Nat}{a b u:List Nat}(ha:IsT n a)(hb:IsT n b)(hu:IsT n u)(h:beh u a=beh u b):a=b:=by
 have e:=congrArg (λz=>beh (bk n u) z) h
 rwa [←u9 hu.bk hu ha,←u9 hu.bk hu hb,zj0 hu,still_beh ha,still_beh hb] at e
theorem yy2 {n:Nat}{x u:List Nat}(hx:IsT n x)(hu:IsT n u):beh (beh x (bk n u)) u=x:=by rw [u9 hx hu.bk hu,zj0 hu,beh_still hx]
theorem yy4 {n:Nat}{x u:List Nat}(hx:IsT n x)(hu:IsT n u):beh (beh x u) (bk n u)=x:=by rw [u9 hx hu hu.bk,J8 hu,beh_still hx]
inductive Grp (n:Nat) (S:List Nat->Prop):List Nat->Prop
 | one:Grp n S (List.range n)
 | mul {a s:List Nat}:Grp n S a->S s->Grp n S (beh a s)
 | inv {a s:List Nat}:Grp n S a->S s->Grp n S (beh a (bk n s))
section
variable {n:Nat}{S S':List Nat->Prop}(hS:∀s,S s->IsT n s)
include hS
theorem Grp.isT {a:List Nat}(h:Grp n S a):IsT n a:=by
 induction h with
 | one=>exact IsT.range n
 | mul _ hs ih=>exact ih.beh (hS _ hs)
 | inv _ hs ih=>exact ih.beh (hS _ hs).bk
theorem Grp.of {s:List Nat}(h:S s):Grp n S s:=by
 have:=Grp.mul (n:=n) (S:=S) .one h
 rwa [still_beh (hS s h)] at this
theorem Grp.beh {a b:List Nat}(ha:Grp n S a)(hb:Grp n S b):Grp n S (TM.beh a b):=by
 have hA:=ha.isT hS
 induction hb with
 | one=>rw [beh_still hA];exact ha
 | mul h hs ih=>rw [←u9 hA (h.isT hS) (hS _ hs)];exact .mul ih hs
 | inv h hs ih=>rw [←u9 hA (h.isT hS) (hS _ hs).bk];exact .inv ih hs
theorem Grp.bk {a:List Nat}(ha:Grp n S a):Grp n S (TM.bk n a):=by
 induction ha with
 | one=>rw [bk_still];exact .one
 | mul h hs ih =>
  rw [zs9 (h.isT hS) (hS _ hs)]
  refine Grp.beh hS ?_ ih
  have:=Grp.inv (n:=n) (S:=S) .one hs
  rwa [still_beh (hS _ hs).bk] at this
 | inv h hs ih =>
  rw [zs9 (h.isT hS) (hS _ hs).bk,xh3 (hS _ hs)]
  exact Grp.beh hS (Grp.of hS hs) ih
omit hS in
theorem Grp.mono {a:List Nat}(hS':∀s,S' s->IsT n s)(h:∀s,S s->Grp n S' s)(ha:Grp n S a):Grp n S' a:=by
 induction ha with
 | one=>exact .one
 | mul _ hs ih=>exact Grp.beh hS' ih (h _ hs)
 | inv _ hs ih=>exact Grp.beh hS' ih (Grp.bk hS' (h _ hs))
omit hS in
theorem Grp.keeps {P:List Nat->Prop}(h1:P (List.range n))(hm:∀a s,P a->S s->P (TM.beh a s))(hi:∀a s,P a->S s->P (TM.beh a (TM.bk n s))){a:List Nat}(ha:Grp n S a):P a:=by
 induction ha with
 | one=>exact h1
 | mul _ hs ih=>exact hm _ _ ih hs
 | inv _ hs ih=>exact hi _ _ ih hs
end
def Fix (j:Nat)(t:List Nat):Prop:=∀x,x<j->t.getD x 0=x
theorem Fix.zero (t:List Nat):Fix 0 t:=λ_ h=>absurd h (cW _)
theorem Fix.still {n j:Nat}(hj:j<=n):Fix j (List.range n):=λx hx=>still_get (by lia)
theorem Fix.beh {n j:Nat}{a b:List Nat}(hj:j<=n)(hA:IsT n a)(ha:Fix j a)(hb:Fix j b):Fix j (TM.beh a b):=λx hx=>by rw [beh_get hA (by lia),ha x hx,hb x hx]
theorem Fix.bk {n j:Nat}{a:List Nat}(hj:j<=n)(hA:IsT n a)(ha:Fix j a):Fix j (TM.bk n a):=λx hx=>by
 have h:=zj1 hA (show x<n by lia)
 rwa [ha x hx] at h
theorem Fix.all {n:Nat}{a:List Nat}(hA:IsT n a)(h:Fix n a):a=List.range n:=Y9 hA (IsT.range n) λx hx=>by rw [h x hx,still_get hx]
theorem Grp.fix {n j:Nat}{S:List Nat->Prop}(hS:∀s,S s->IsT n s)(hj:j<=n)(hf:∀s,S s->Fix j s){a:List Nat}(ha:Grp n S a):Fix j a:=by
 induction ha with
 | one=>exact Fix.still hj
 | mul h hs ih=>exact Fix.beh hj (h.isT hS) ih (hf _ hs)
 | inv h hs ih=>exact Fix.beh hj (h.isT hS) ih (Fix.bk hj (hS _ hs) (hf _ hs))
end TM
namespace TM
structure Chn where
 mv:Nat->List Nat->Prop
 ring:Nat->List Nat
 up:Nat->Nat->List Nat
structure Chn.Ok (n:Nat) (C:Chn):Prop where
 mvT:∀j s,C.mv j s->IsT n s
 mvF:∀j s,C.mv j s->Fix j s
 down:∀j s,C.mv (j+1) s->Grp n (C.mv j) s
 top:∀j s,n<=j->¬C.mv j s
 nd:∀j,j<n->(C.ring j).Nodup
 lt:∀j p,j<n->p∈C.ring j->p<n
 own:∀j,j<n->j∈C.ring j
 upG:∀j p,j<n->p∈C.ring j->Grp n (C.mv j) (C.up j p)
 upTo:∀j p,j<n->p∈C.ring j->(C.up j p).getD j 0=p
 upOwn:∀j,j<n->C.up j j=List.range n
def Chn.Shut (n:Nat)(C:Chn)(j:Nat):Prop:=∀p,p∈C.ring j->∀s,C.mv j s->s.getD p 0∈C.ring j/\Grp n (C.mv (j+1)) (beh (beh (C.up j p) s) (bk n (C.up j (s.getD p 0))))
def Chn.Sif (n:Nat)(C:Chn):Nat->List Nat->Prop
 | 0,_=>True
 | d+1,x=>x.getD (n-(d+1)) 0∈C.ring (n-(d+1))/\Chn.Sif n C d (beh x (bk n (C.up (n-(d+1)) (x.getD (n-(d+1)) 0))))
section
variable {n:Nat}{C:Chn}(ok:C.Ok n)
include ok
theorem Chn.Ok.upT {j p:Nat}(hj:j<n)(hp:p∈C.ring j):IsT n (C.up j p):=(ok.upG j p hj hp).isT (ok.mvT j)
theorem Chn.Ok.upF {j p:Nat}(hj:j<n)(hp:p∈C.ring j):Fix j (C.up j p):=(ok.upG j p hj hp).fix (ok.mvT j) (bu hj) (ok.mvF j)
theorem Chn.Ok.off {j:Nat}{x:List Nat}(hj:j<n)(hx:IsT n x)(hf:Fix j x)(hp:x.getD j 0∈C.ring j):IsT n (beh x (bk n (C.up j (x.getD j 0))))/\Fix (j+1) (beh x (bk n (C.up j (x.getD j 0)))):=by
 have hu:=ok.upT hj hp
 refine ⟨hx.beh hu.bk,λy hy=>?_⟩
 rw [beh_get hx (by lia)]
 by_cases e:y=j
 ·subst e
  have h:=zj1 hu hj
  rw [ok.upTo y _ hj hp] at h
  exact h
 ·have hy':y<j:=by lia
  rw [hf y hy']
  exact Fix.bk (bu hj) hu (ok.upF hj hp) y hy'
theorem Chn.Ok.sound:∀(d:Nat) (x:List Nat),d<=n->IsT n x->Fix (n-d) x->C.Sif n d x->Grp n (C.mv (n-d)) x
 | 0,x,_,hx,hf,_=>by
  rw [dI] at hf ⊢
  rw [Fix.all hx hf]
  exact .one
 | d+1,x,hd,hx,hf,h=>by
  have hj:n-(d+1)<n:=by lia
  obtain ⟨hp,hs⟩:=h
  obtain ⟨ht,hf'⟩:=ok.off hj hx hf hp
  have e:n-(d+1)+1=n-d:=by lia
  rw [e] at hf'
  have ih:=Chn.Ok.sound d _ (by lia) ht hf' hs
  rw [←e] at ih
  have g:=Grp.mono (ok.mvT _) (ok.down _) ih
  have r:=Grp.beh (ok.mvT _) g (ok.upG _ _ hj hp)
  rwa [yy2 hx (ok.upT hj hp)] at r
theorem Chn.Ok.parts {j:Nat}(hj:j<n)(sh:C.Shut n j){x:List Nat}(hx:Grp n (C.mv j) x):∃p h,p∈C.ring j/\Grp n (C.mv (j+1)) h/\x=beh h (C.up j p):=by
 have hS:=ok.mvT j
 have hS1:=ok.mvT (j+1)
 induction hx with
 | one=>exact ⟨j,_,ok.own j hj,.one,by rw [ok.upOwn j hj,still_beh (IsT.range n)]⟩
 | mul hg hs ih =>
  rename_i a s
  obtain ⟨p,h,hp,hh,rfl⟩:=ih
  obtain ⟨hq,hg'⟩:=sh p hp s hs
  have hh':=hh.isT hS1
  have hu:=ok.upT hj hp
  have hv:=ok.upT hj hq
  refine ⟨_,_,hq,Grp.beh hS1 hh hg',?_⟩
  rw [u9 hh' ((hu.beh (hS s hs)).beh hv.bk) hv,yy2 (hu.beh (hS s hs)) hv,u9 hh' hu (hS s hs)]
 | inv hg hs ih =>
  rename_i a s
  obtain ⟨p,h,hp,hh,rfl⟩:=ih
  have hsT:=hS s hs
  obtain ⟨q,hq,e⟩:∃q∈C.ring j,s.getD q 0=p:=by
   have hnd:((C.ring j).map λq=>s.getD q 0).Nodup:=ba.mpr (List.Pairwise.imp_of_mem (λha hb hne z=>hne (hsT.step_inj (ok.lt j _ hj ha) (ok.lt j _ hj hb) z)) (ok.nd j hj))
   have hpm:=V2 hnd (λy hy=>by
    obtain ⟨q,hq,rfl⟩:=aw.mp hy
    exact (sh q hq s hs).1) (by rw [ae];exact af _)
   exact aw.mp (hpm.mem_iff.mpr hp)
  subst e
  obtain ⟨_,hg'⟩:=sh q hq s hs
  have hh':=hh.isT hS1
  have hu:=ok.upT hj hp
  have hv:=ok.upT hj hq
  refine ⟨q,_,hq,Grp.beh hS1 hh (Grp.bk hS1 hg'),?_⟩
  rw [zs9 (hv.beh hsT) hu.bk,xh3 hu,zs9 hv hsT,u9 hh' (hu.beh (hsT.bk.beh hv.bk)) hv,u9 hu (hsT.bk.beh hv.bk) hv,u9 hsT.bk hv.bk hv,zj0 hv,beh_still hsT.bk,u9 hh' hu hsT.bk]
theorem Chn.Ok.complete:∀(d:Nat) (x:List Nat),d<=n->(∀j,n-d<=j->j<n->C.Shut n j)->Grp n (C.mv (n-d)) x->C.Sif n d x
 | 0,_,_,_,_=>trivial
 | d+1,x,hd,sh,hx=>by
  have hj:n-(d+1)<n:=by lia
  have e:n-(d+1)+1=n-d:=by lia
  obtain ⟨p,h,hp,hh,rfl⟩:=ok.parts hj (sh _ (af _) hj) hx
  have hh':=hh.isT (ok.mvT _)
  have hf:=hh.fix (ok.mvT _) (by lia) (ok.mvF _)
  have hu:=ok.upT hj hp
  have e0:(beh h (C.up (n-(d+1)) p)).getD (n-(d+1)) 0=p:=by
   rw [beh_get hh' hj,hf _ (by lia),ok.upTo _ _ hj hp]
  refine ⟨by rw [e0];exact hp,?_⟩
  rw [e0,yy4 hh' hu]
  rw [e] at hh
  exact Chn.Ok.complete d h (by lia) (λi hi=>sh i (by lia)) hh
theorem Chn.Ok.sift {d:Nat}{x:List Nat}(hd:d<=n)(hx:IsT n x)(hf:Fix (n-d) x)(sh:∀j,n-d<=j->j<n->C.Shut n j):C.Sif n d x↔Grp n (C.mv (n-d)) x :=
 ⟨ok.sound d x hd hx hf,ok.complete d x hd sh⟩
theorem Chn.Ok.genF {j:Nat}(hj:j<=n){x:List Nat}(hx:Grp n (C.mv j) x):Fix j x:=hx.fix (ok.mvT j) hj (ok.mvF j)
end
def Indep (n:Nat)(l:List (List Nat)):Prop:=∀i s,l[i]?=some s->¬Grp n (λz=>z∈l.take i) s
theorem Indep.snoc {n:Nat}{l:List (List Nat)}{s:List Nat}(h:Indep n l)(hs:¬Grp n (λz=>z∈l) s):Indep n (l++[s]):=λi z hz hg=>by
 by_cases hi:i<l.length
 ·rw [aN hi] at hz
  rw [bI (bu hi)] at hg
  exact h i z hz hg
 ·have:i=l.length:=by
   have:=(ap.mp hz).1
   rw [aq,bn] at this
   lia
  subst this
  rw [bd (af _),cz] at hz
  obtain rfl:s=z:=by simpa using hz
  rw [bI (af _),bz] at hg
  exact hs hg
theorem Indep.init {n:Nat}{l:List (List Nat)}{s:List Nat}(h:Indep n (l++[s])):Indep n l/\¬Grp n (λz=>z∈l) s:=by
 refine ⟨λi z hz hg=>?_,λhg=>?_⟩
 ·have hi:=(ap.mp hz).1
  refine h i z (by rw [aN hi];exact hz) ?_
  rw [bI (bu hi)]
  exact hg
 ·refine h l.length s (by rw [bd (af _),cz];rfl) ?_
  rw [bI (af _),bz]
  exact hg
theorem zk5 {n:Nat}:∀(k:Nat) (l:List (List Nat)),l.length=k->(∀s∈l,IsT n s)->Indep n l->∃L:List (List Nat),L.Nodup/\(∀x∈L,Grp n (λz=>z∈l) x)/\L.length=2 ^ k
 | 0,l,_,_,_=>⟨[List.range n],by simp,λx hx=>by rw [ah.mp hx];exact .one,rfl⟩
 | k+1,l,hl,hT,hI=>by
  have hne:l≠[]:=λe=>by rw [e] at hl;cases hl
  obtain ⟨l0,s,rfl⟩:∃l0 s,l=l0++[s]:=⟨l.dropLast,l.getLast hne,(List.dropLast_concat_getLast hne).symm⟩
  rw [aq,bn] at hl
  obtain ⟨hI0,hs⟩:=hI.init
  have hT0:∀z∈l0,IsT n z:=λz hz=>hT z (aJ _ hz)
  have hsT:IsT n s:=hT s (by simp)
  obtain ⟨L,hnd,hG,hLl⟩:=zk5 k l0 (by lia) hT0 hI0
  have up:∀x,Grp n (λz=>z∈l0) x->Grp n (λz=>z∈l0++[s]) x:=λx hx=>Grp.mono (λz hz=>hT z hz) (λz hz=>Grp.of (λz hz=>hT z hz) (aJ _ hz)) hx
  refine ⟨L++L.map λx=>beh x s,?_,λx hx=>?_,by rw [aq,ae,hLl,dJ];lia⟩
  ·refine bj.mpr ⟨hnd,ba.mpr (List.Pairwise.imp_of_mem (λha hb hne z=>hne (B2 ((hG _ ha).isT hT0) ((hG _ hb).isT hT0) hsT z)) hnd),λa ha b hb e=>?_⟩
   obtain ⟨c,hc,rfl⟩:=aw.mp hb
   subst e
   have hcT:=(hG c hc).isT hT0
   have g:=Grp.beh hT0 (Grp.bk hT0 (hG c hc)) (hG _ ha)
   rw [←u9 hcT.bk hcT hsT,zj0 hcT,still_beh hsT] at g
   exact hs g
  ·rcases aE.mp hx with h|h
   ·exact up x (hG x h)
   ·obtain ⟨c,hc,rfl⟩:=aw.mp h
    exact .mul (up c (hG c hc)) (by simp)
def num (n:Nat):List Nat->Nat
 | []=>0
 | x::r=>x+n*num n r
theorem num_lt {n:Nat}:∀{l:List Nat},(∀x∈l,x<n)->num n l<n ^ l.length
 | [],_=>by simp [num]
 | x::r,h=>by
  have ih:=num_lt (l:=r) λy hy=>h y (ao _ hy)
  have hx:=h x au
  rw [num,az,dJ,dU (n ^ r.length) n]
  have:n*(num n r+1)<=n*n ^ r.length:=fv n ih
  rw [Nat.mul_add,eO] at this
  lia
theorem num_inj {n:Nat}:∀{l m:List Nat},(∀x∈l,x<n)->(∀x∈m,x<n)->l.length=m.length->num n l=num n m->l=m
 | [],[],_,_,_,_=>rfl
 | x::r,y::q,h1,h2,hl,e=>by
  have hx:=h1 x au
  have hy:=h2 y au
  rw [num,num] at e
  have e1:x=y:=by
   have:=congrArg (· % n) e
   simpa [Nat.add_mul_mod_self_left,eM hx,eM hy] using this
  subst e1
  have e2:n*num n r=n*num n q:=by lia
  have e3:=Nat.eq_of_mul_eq_mul_left (by lia) e2
  rw [num_inj (λz hz=>h1 z (ao _ hz)) (λz hz=>h2 z (ao _ hz)) (by simpa using hl) e3]
 | [],_::_,_,_,hl,_=>by cases hl
 | _::_,[],_,_,hl,_=>by cases hl
theorem nodup_below {l:List Nat}{M:Nat}(h:l.Nodup)(hl:∀x∈l,x<M):l.length<=M:=by
 rcases fS l.length M with q|q
 ·exact q
 ·have p:=V2 h (l:=List.range M) (λx hx=>aH.mpr (hl x hx)) (by rw [aA];exact q)
  rw [p.length_eq,aA]
  exact af _
theorem turnings_few {n:Nat}{L:List (List Nat)}(h:L.Nodup)(hT:∀t∈L,IsT n t):L.length<=n ^ n:=by
 have h1:(L.map (num n)).Nodup:=ba.mpr (List.Pairwise.imp_of_mem (λha hb hne z=>hne (num_inj (λx hx=>(hT _ ha).lt hx) (λx hx=>(hT _ hb).lt hx) (by rw [(hT _ ha).length,(hT _ hb).length]) z)) h)
 have h2:=nodup_below (M:=n ^ n) h1 λx hx=>by
  obtain ⟨t,ht,rfl⟩:=aw.mp hx
  have:=num_lt (n:=n) (l:=t) λy hy=>(hT t ht).lt hy
  rwa [(hT t ht).length] at this
 rwa [ae] at h2
set_option exponentiation.threshold 1000 in
theorem indep_few {n:Nat}(hn:n<=60){l:List (List Nat)}(hT:∀s∈l,IsT n s)(hI:Indep n l):l.length<=354:=by
 obtain ⟨L,h1,h2,h3⟩:=zk5 l.length l rfl hT hI
 have h4:=turnings_few h1 λt ht=>(h2 t ht).isT hT
 rw [h3] at h4
 have h5:n ^ n<=60 ^ 60:=aB (Nat.pow_le_pow_left hn n) (cK (by decide) hn)
 have h6:(60:Nat) ^ 60<2 ^ 355:=by decide
 rcases dA 354 l.length with q|q
 ·have:=cK (show 0<2 by decide) (show 355<=l.length from q)
  lia
 ·exact q
end TM
namespace TM
def Chn.Good (n:Nat)(C:Chn)(j p:Nat)(s:List Nat):Prop:=s.getD p 0∈C.ring j/\Grp n (C.mv (j+1)) (beh (beh (C.up j p) s) (bk n (C.up j (s.getD p 0))))
structure Chn.MoreP (n:Nat) (C C':Chn) (j q:Nat) (t:List Nat):Prop where
 hj:j<n
 hq:q∉C.ring j
 hqn:q<n
 gt:Grp n (C.mv j) t
 ht:t.getD j 0=q
 emv:C'.mv=C.mv
 er:C'.ring j=C.ring j++[q]
 er':∀i,i≠j->C'.ring i=C.ring i
 eu:∀p,p≠q->C'.up j p=C.up j p
 eq:C'.up j q=t
 eu':∀i,i≠j->C'.up i=C.up i
theorem Chn.MoreP.sub {n:Nat}{C C':Chn}{j q:Nat}{t:List Nat}(m:Chn.MoreP n C C' j q t){i p:Nat}(hp:p∈C.ring i):p∈C'.ring i/\C'.up i p=C.up i p:=by
 by_cases e:i=j
 ·subst e
  exact ⟨by rw [m.er];exact aJ _ hp,m.eu p λz=>m.hq (z ▸ hp)⟩
 ·exact ⟨by rw [m.er' i e];exact hp,by rw [m.eu' i e]⟩
theorem Chn.MoreP.cases {n:Nat}{C C':Chn}{j q:Nat}{t:List Nat}(m:Chn.MoreP n C C' j q t){i p:Nat}(hp:p∈C'.ring i):p∈C.ring i∨(i=j/\p=q):=by
 by_cases e:i=j
 ·subst e
  rw [m.er] at hp
  rcases aE.mp hp with h|h
  ·exact .inl h
  ·exact .inr ⟨rfl,ah.mp h⟩
 ·rw [m.er' i e] at hp;exact .inl hp
theorem Chn.MoreP.ok {n:Nat}{C C':Chn}{j q:Nat}{t:List Nat}(m:Chn.MoreP n C C' j q t)(ok:C.Ok n):C'.Ok n where
 mvT:=by rw [m.emv];exact ok.mvT
 mvF:=by rw [m.emv];exact ok.mvF
 down:=by rw [m.emv];exact ok.down
 top:=by rw [m.emv];exact ok.top
 nd i hi:=by
  by_cases e:i=j
  ·subst e
   rw [m.er]
   refine bj.mpr ⟨ok.nd i hi,by simp,λa ha b hb e=>m.hq ?_⟩
   rw [←ah.mp hb,←e]
   exact ha
  ·rw [m.er' i e];exact ok.nd i hi
 lt i p hi hp:=by
  rcases m.cases hp with h|⟨_,h⟩
  ·exact ok.lt i p hi h
  ·rw [h];exact m.hqn
 own i hi:=(m.sub (ok.own i hi)).1
 upG i p hi hp:=by
  rw [m.emv]
  rcases m.cases hp with h|⟨h1,h2⟩
  ·rw [(m.sub h).2];exact ok.upG i p hi h
  ·rw [h1,h2,m.eq];exact m.gt
 upTo i p hi hp:=by
  rcases m.cases hp with h|⟨h1,h2⟩
  ·rw [(m.sub h).2];exact ok.upTo i p hi h
  ·rw [h1,h2,m.eq];exact m.ht
 upOwn i hi:=by rw [(m.sub (ok.own i hi)).2];exact ok.upOwn i hi
theorem Chn.MoreP.good {n:Nat}{C C':Chn}{j q:Nat}{t:List Nat}(m:Chn.MoreP n C C' j q t){i p:Nat}{s:List Nat}(hp:p∈C.ring i)(g:C.Good n i p s):C'.Good n i p s:=by
 refine ⟨(m.sub g.1).1,?_⟩
 rw [m.emv,(m.sub hp).2,(m.sub g.1).2]
 exact g.2
theorem Chn.MoreP.new {n:Nat}{C C':Chn}{j q:Nat}{t:List Nat}(m:Chn.MoreP n C C' j q t)(ok:C.Ok n){p:Nat}{s:List Nat}(hp:p∈C.ring j)(hs:C.mv j s)(e:t=beh (C.up j p) s):C'.Good n j p s:=by
 have hu:=ok.upT m.hj hp
 have es:s.getD p 0=q:=by
  have h:=m.ht
  rw [e,beh_get hu m.hj,ok.upTo j p m.hj hp] at h
  exact h
 unfold Chn.Good
 rw [es]
 refine ⟨by rw [m.er];simp,?_⟩
 rw [m.eq,(m.sub hp).2,e,J8 (hu.beh (ok.mvT j s hs))]
 exact .one
structure Chn.MoreM (n:Nat) (C C':Chn) (i:Nat) (t:List Nat):Prop where
 hi:i<n
 tT:IsT n t
 tF:Fix i t
 dn:∀h,h+1=i->Grp n (C.mv h) t
 emv:∀h s,C'.mv h s↔(C.mv h s∨(h=i/\s=t))
 er:C'.ring=C.ring
 eu:C'.up=C.up
section
variable {n:Nat}{C C':Chn}{i:Nat}{t:List Nat}
theorem Chn.MoreM.mvT (m:Chn.MoreM n C C' i t)(ok:C.Ok n)(h:Nat)(s:List Nat)(hs:C'.mv h s):IsT n s:=by
 rcases (m.emv h s).mp hs with q|⟨_,q⟩
 ·exact ok.mvT h s q
 ·rw [q];exact m.tT
theorem Chn.MoreM.grp (m:Chn.MoreM n C C' i t)(ok:C.Ok n){h:Nat}{s:List Nat}(hs:Grp n (C.mv h) s):Grp n (C'.mv h) s:=Grp.mono (m.mvT ok h) (λz hz=>Grp.of (m.mvT ok h) ((m.emv h z).mpr (.inl hz))) hs
theorem Chn.MoreM.ok (m:Chn.MoreM n C C' i t)(ok:C.Ok n):C'.Ok n where
 mvT:=m.mvT ok
 mvF h s hs:=by
  rcases (m.emv h s).mp hs with q|⟨e,q⟩
  ·exact ok.mvF h s q
  ·rw [q,e];exact m.tF
 down h s hs:=by
  rcases (m.emv _ s).mp hs with q|⟨e,q⟩
  ·exact m.grp ok (ok.down h s q)
  ·rw [q];exact m.grp ok (m.dn h e)
 top h s hn hs:=by
  rcases (m.emv h s).mp hs with q|⟨e,q⟩
  ·exact ok.top h s hn q
  ·have:=m.hi;lia
 nd:=by rw [m.er];exact ok.nd
 lt:=by rw [m.er];exact ok.lt
 own:=by rw [m.er];exact ok.own
 upG h p hh hp:=by
  rw [m.er] at hp
  rw [m.eu]
  exact m.grp ok (ok.upG h p hh hp)
 upTo:=by rw [m.er,m.eu];exact ok.upTo
 upOwn:=by rw [m.eu];exact ok.upOwn
theorem Chn.MoreM.good (m:Chn.MoreM n C C' i t)(ok:C.Ok n){h p:Nat}{s:List Nat}(g:C.Good n h p s):C'.Good n h p s:=by
 unfold Chn.Good
 rw [m.er,m.eu]
 exact ⟨g.1,m.grp ok g.2⟩
theorem Chn.MoreM.new {j:Nat}(m:Chn.MoreM n C C' (j+1) t)(ok:C.Ok n){p:Nat}{s:List Nat}(hp:s.getD p 0∈C.ring j)(e:t=beh (beh (C.up j p) s) (bk n (C.up j (s.getD p 0)))):C'.Good n j p s:=by
 unfold Chn.Good
 rw [m.er,m.eu]
 refine ⟨hp,?_⟩
 rw [←e]
 exact Grp.of (m.mvT ok _) ((m.emv _ t).mpr (.inr ⟨rfl,rfl⟩))
theorem Chn.Ok.schreier (ok:C.Ok n){j p:Nat}{s:List Nat}(hj:j<n)(hp:p∈C.ring j)(hs:C.mv j s)(hq:s.getD p 0∈C.ring j):Grp n (C.mv j) (beh (beh (C.up j p) s) (bk n (C.up j (s.getD p 0))))/\Fix (j+1) (beh (beh (C.up j p) s) (bk n (C.up j (s.getD p 0)))):=by
 have hS:=ok.mvT j
 have hu:=ok.upT hj hp
 have g:Grp n (C.mv j) (beh (C.up j p) s):=.mul (ok.upG j p hj hp) hs
 refine ⟨Grp.beh hS g (Grp.bk hS (ok.upG j _ hj hq)),?_⟩
 have e:(beh (C.up j p) s).getD j 0=s.getD p 0:=by rw [beh_get hu hj,ok.upTo j p hj hp]
 have h:=(ok.off hj (hu.beh (hS s hs)) (g.fix hS (bu hj) (ok.mvF j)) (by rw [e];exact hq)).2
 rwa [e] at h
end
end TM
namespace TM
def Chn.many (n:Nat)(C:Chn):Nat->Nat
 | 0=>1
 | d+1=>(C.ring (n-(d+1))).length*Chn.many n C d
theorem zq9 {α:Type}(f:Nat->List α)(m:Nat):∀(l:List Nat),(∀p∈l,(f p).length=m)->(l.flatMap f).length=l.length*m
 | [],_=>by simp
 | p::l,h=>by
  rw [cD,aq,h p au,zq9 f m l (λq hq=>h q (ao _ hq)),az,fR,dX]
theorem zg2 {α:Type}(f:Nat->List α):∀(l:List Nat),l.Nodup->(∀p∈l,(f p).Nodup)->(∀p∈l,∀q∈l,∀x,x∈f p->x∈f q->p=q)->(l.flatMap f).Nodup
 | [],_,_,_=>by simp
 | p::l,hn,h1,h2=>by
  rw [cD]
  refine bj.mpr ⟨h1 p au,zg2 f l (aK.mp hn).2 (λq hq=>h1 q (ao _ hq)) (λq hq r hr=>h2 q (ao _ hq) r (ao _ hr)),λa ha b hb e=>?_⟩
  subst e
  obtain ⟨q,hq,hx⟩:=bG.mp hb
  have:=h2 p au q (ao _ hq) a ha hx
  exact (aK.mp hn).1 (this ▸ hq)
section
variable {n:Nat}{C:Chn}(ok:C.Ok n)
include ok
theorem Chn.Ok.all:∀(d:Nat),d<=n->(∀j,n-d<=j->j<n->C.Shut n j)->∃L:List (List Nat),L.Nodup/\(∀x,x∈L↔Grp n (C.mv (n-d)) x)/\L.length=C.many n d
 | 0,_,_=>⟨[List.range n],by simp,λx=>⟨λh=>by rw [ah.mp h];exact .one,λh=>by
   rw [dI] at h
   have hT:=h.isT (ok.mvT n)
   rw [Fix.all hT (ok.genF (af n) h)]
   exact ah.mpr rfl⟩,rfl⟩
 | d+1,hd,sh=>by
  have hj:n-(d+1)<n:=by lia
  have e:n-(d+1)+1=n-d:=by lia
  obtain ⟨L,hL,hm,hl⟩:=Chn.Ok.all d (by lia) (λj h1 h2=>sh j (by lia) h2)
  have hfx:∀h,h∈L->IsT n h/\Fix (n-(d+1)+1) h:=λh hh=>by
   have g:=(hm h).mp hh
   rw [e]
   exact ⟨g.isT (ok.mvT _),ok.genF (by lia) g⟩
  refine ⟨(C.ring (n-(d+1))).flatMap λp=>L.map λh=>beh h (C.up (n-(d+1)) p),?_,λx=>⟨λh=>?_,λh=>?_⟩,?_⟩
  ·refine zg2 _ _ (ok.nd _ hj) (λp hp=>?_) (λp hp q hq x hx hy=>?_)
   ·exact ba.mpr (List.Pairwise.imp_of_mem (λha hb hne z=>hne (B2 (hfx _ ha).1 (hfx _ hb).1 (ok.upT hj hp) z)) hL)
   ·obtain ⟨h,hh,rfl⟩:=aw.mp hx
    obtain ⟨k,hk,e2⟩:=aw.mp hy
    have a1:(beh h (C.up (n-(d+1)) p)).getD (n-(d+1)) 0=p:=by
     rw [beh_get (hfx _ hh).1 hj,(hfx _ hh).2 _ (by lia),ok.upTo _ _ hj hp]
    have a2:(beh k (C.up (n-(d+1)) q)).getD (n-(d+1)) 0=q:=by
     rw [beh_get (hfx _ hk).1 hj,(hfx _ hk).2 _ (by lia),ok.upTo _ _ hj hq]
    rw [←a1,←a2,e2]
  ·obtain ⟨p,hp,hx⟩:=bG.mp h
   obtain ⟨k,hk,rfl⟩:=aw.mp hx
   have g:=(hm k).mp hk
   rw [←e] at g
   exact Grp.beh (ok.mvT _) (Grp.mono (ok.mvT _) (ok.down _) g) (ok.upG _ _ hj hp)
  ·obtain ⟨p,k,hp,hk,rfl⟩:=ok.parts hj (sh _ (af _) hj) h
   rw [e] at hk
   exact bG.mpr ⟨p,hp,aw.mpr ⟨k,(hm k).mpr hk,rfl⟩⟩
  ·rw [zq9 _ L.length _ (λp _=>ae _),hl]
   rfl
end
section
variable {n:Nat}{t:List Nat}(hT:IsT n t)
include hT
theorem IsT.pwT_isT (m:Int):IsT n (pwT t m):=by
 refine isT_of (hT.pwT_len m) ?_ λx hx=>?_
 ·refine ba.mpr (List.Pairwise.imp_of_mem (λha hb hne z=>hne ?_) bQ)
  rename_i a b
  have ha':a<n:=by rw [←hT.length];exact aH.mp ha
  have hb':b<n:=by rw [←hT.length];exact aH.mp hb
  have z':=congrArg (pw t (-m)) z
  rw [hT.pw_pw _ _ ha',hT.pw_pw _ _ hb',Int.add_right_neg] at z'
  have h0:∀y,y<n->pw t 0 y=y:=λy hy=>by
   unfold pw
   rw [Int.zero_emod]
   rfl
  rw [h0 a ha',h0 b hb'] at z'
  exact z'
 ·obtain ⟨i,hi,rfl⟩:=aw.mp hx
  exact hT.pw_lt m (by rw [←hT.length];exact aH.mp hi)
theorem IsT.pwT_beh (a b:Int):TM.beh (pwT t a) (pwT t b)=pwT t (a+b):=hT.pwT_comp a b
theorem IsT.pwT_bk (m:Int):TM.bk n (pwT t m)=pwT t (-m):=by
 have hA:=hT.pwT_isT m
 have e:=hT.pwT_beh m (-m)
 rw [Int.add_right_neg,←hT.pwT_zero] at e
 have e2:=J8 hA
 exact zf8 hA.bk (hT.pwT_isT _) hA (e2.trans e.symm)
theorem IsT.grp_one {S:List Nat->Prop}(h1:Grp n S t)(hS:∀s,S s->s=t∨s=List.range n)(x:List Nat):Grp n S x↔∃m:Int,x=pwT t m:=by
 have hS':∀s,S s->IsT n s:=λs hs=>by
  rcases hS s hs with e|e
  ·rw [e];exact hT
  ·rw [e];exact IsT.range n
 have hP:∀s,S s->∃m:Int,s=pwT t m:=λs hs=>by
  rcases hS s hs with e|e
  ·exact ⟨1,by rw [e];exact hT.pwT_one⟩
  ·exact ⟨0,by rw [e];exact hT.pwT_zero⟩
 constructor
 ·intro h
  refine Grp.keeps (P:=λx=>∃m:Int,x=pwT t m) ⟨0,hT.pwT_zero⟩ (λa s ha hs=>?_) (λa s ha hs=>?_) h
  ·obtain ⟨m,rfl⟩:=ha
   obtain ⟨k,rfl⟩:=hP s hs
   exact ⟨_,hT.pwT_beh m k⟩
  ·obtain ⟨m,rfl⟩:=ha
   obtain ⟨k,rfl⟩:=hP s hs
   exact ⟨m + -k,by rw [hT.pwT_bk,hT.pwT_beh]⟩
 ·rintro ⟨m,rfl⟩
  have up:∀k:Nat,Grp n S (pwT t (k:Int)):=λk=>by
   induction k with
   | zero =>
    have:=hT.pwT_zero
    show Grp n S (pwT t 0)
    rw [←this]
    exact .one
   | succ k ih =>
    have e:=hT.pwT_beh (k:Int) 1
    rw [←hT.pwT_one] at e
    rw [show ((k+1:Nat):Int)=(k:Int)+1 from rfl,←e]
    exact Grp.beh hS' ih h1
  rcases Int.eq_nat_or_neg m with ⟨k,rfl|rfl⟩
  ·exact up k
  ·rw [←hT.pwT_bk]
   exact Grp.bk hS' (up k)
theorem IsT.pw_eq {a b:Int}{x:Nat}(hx:x<n):pw t a x=pw t b x↔a % (per t x:Int)=b % (per t x:Int):=by
 have hp:=hT.per_pos hx
 have na:∀m:Int,0<=m % (per t x:Int)/\m % (per t x:Int)<(per t x:Int):=λm=>⟨br _ (by lia),bV _ (by lia)⟩
 constructor
 ·intro e
  have ha:=na a
  have hb:=na b
  have:=hT.it_eq_iff hx (i:=(a % (per t x:Int)).toNat) (j:=(b % (per t x:Int)).toNat) (by lia) (by lia) e
  lia
 ·intro e
  unfold pw
  rw [e]
def ord (t:List Nat):Nat:=xl2 ((List.range t.length).map (per t))
end
theorem zz6:∀(l:List Nat) (a:Nat),a ∣ l.foldl Nat.lcm a/\∀x∈l,x ∣ l.foldl Nat.lcm a
 | [],a=>⟨Nat.dvd_refl _,λx hx=>by cases hx⟩
 | y::l,a=>by
  obtain ⟨h1,h2⟩:=zz6 l (Nat.lcm a y)
  refine ⟨Nat.dvd_trans (Nat.dvd_lcm_left a y) h1,λx hx=>?_⟩
  rcases ay.mp hx with e|e
  ·rw [e];exact Nat.dvd_trans (Nat.dvd_lcm_right a y) h1
  ·exact h2 x e
theorem ya6:∀(l:List Nat) (a m:Nat),a ∣ m->(∀x∈l,x ∣ m)->l.foldl Nat.lcm a ∣ m
 | [],a,m,h,_=>h
 | y::l,a,m,h,h2=>ya6 l _ m (Nat.lcm_dvd h (h2 y au)) λx hx=>h2 x (ao _ hx)
section
variable {n:Nat}{t:List Nat}(hT:IsT n t)
include hT
theorem IsT.ord_pos:0<ord t:=yw9 λx hx=>by
 obtain ⟨y,hy,rfl⟩:=aw.mp hx
 exact hT.per_pos (by rw [←hT.length];exact aH.mp hy)
theorem IsT.per_dvd {x:Nat}(hx:x<n):per t x ∣ ord t:=(zz6 _ 1).2 _ (aw.mpr ⟨x,by rw [hT.length];exact aH.mpr hx,rfl⟩)
theorem IsT.pwT_mod (m:Int):pwT t (m % (ord t:Int))=pwT t m:=by
 refine hT.eq_pwT (hT.pwT_len _) λx hx=>?_
 rw [hT.pwT_get _ hx]
 congr 1
 rw [hT.pw_eq hx]
 exact Int.emod_emod_of_dvd m (Int.natCast_dvd_natCast.mpr (hT.per_dvd hx))
end
end TM
namespace TM
theorem yc6 {α:Type}[DecidableEq α]:∀{t l:List α},t.Nodup->(∀x∈t,x∈l)->l.length<=t.length->t.Perm l
 | [],l,_,_,h=>by
  have:l=[]:=bL.mp (by simpa using h)
  rw [this]
 | a::t,l,hn,hs,h=>by
  have ha:a∈l:=hs a au
  have hp:=List.perm_cons_erase ha
  have hn':=aK.mp hn
  have hl:(l.erase a).length<=t.length:=by
   have:=hp.length_eq
   rw [az] at this h
   lia
  refine List.Perm.trans (List.Perm.cons a (yc6 hn'.2 (λx hx=>?_) hl)) hp.symm
  have hne:x≠a:=λe=>hn'.1 (e ▸ hx)
  exact (cI hne).mpr (hs x (ao _ hx))
theorem grp_closed {n:Nat}{S L:List (List Nat)}(hS:∀s∈S,IsT n s)(hL:L.Nodup)(h1:List.range n∈L)(hG:∀x∈L,Grp n (λz=>z∈S) x)(hc:∀x∈L,∀s∈S,beh x s∈L)(x:List Nat):x∈L↔Grp n (λz=>z∈S) x:=by
 have hT:∀x∈L,IsT n x:=λx hx=>(hG x hx).isT hS
 refine ⟨hG x,λh=>?_⟩
 refine Grp.keeps (P:=λx=>x∈L) h1 (λa s ha hs=>hc a ha s hs) (λa s ha hs=>?_) h
 have hn:(L.map λx=>beh x s).Nodup:=ba.mpr (List.Pairwise.imp_of_mem (λha hb hne z=>hne (B2 (hT _ ha) (hT _ hb) (hS s hs) z)) hL)
 have hp:=yc6 hn (l:=L) (λy hy=>by
  obtain ⟨b,hb,rfl⟩:=aw.mp hy
  exact hc b hb s hs) (by rw [ae];exact af _)
 obtain ⟨b,hb,e⟩:=aw.mp (hp.mem_iff.mpr ha)
 rw [←e,yy4 (hT b hb) (hS s hs)]
 exact hb
def Only (n:Nat)(W t:List Nat):Prop:=∀x,x<n->x∉W->t.getD x 0=x
theorem Only.grp {n:Nat}{W:List Nat}{S:List Nat->Prop}(hS:∀s,S s->IsT n s)(hO:∀s,S s->Only n W s){x:List Nat}(h:Grp n S x):Only n W x:=by
 induction h with
 | one=>exact λy hy _=>still_get hy
 | mul hg hs ih=>exact λy hy hw=>by rw [beh_get (hg.isT hS) hy,ih y hy hw,hO _ hs y hy hw]
 | inv hg hs ih =>
  intro y hy hw
  rw [beh_get (hg.isT hS) hy,ih y hy hw]
  have h:=zj1 (hS _ hs) hy
  rwa [hO _ hs y hy hw] at h
theorem Only.stay {n:Nat}{W t:List Nat}(hT:IsT n t)(hW:∀x∈W,x<n)(h:Only n W t){x:Nat}(hx:x∈W):t.getD x 0∈W:=by
 refine Classical.byContradiction λhw=>?_
 have hlt:=hT.step_lt (hW x hx)
 have e:=h _ hlt hw
 have:=hT.step_inj hlt (hW x hx) e
 exact hw (by rw [this];exact hx)
theorem yq3 {l:List Nat}{x y:Nat}(hx:x∈l)(e:l.idxOf x=l.idxOf y):x=y:=by
 have h1:=List.getElem_idxOf (dH hx)
 have hlt:l.idxOf y<l.length:=by rw [←e];exact dH hx
 have h2:=List.getElem_idxOf hlt
 rw [←h1,←h2]
 congr 1
structure Sprd (n:Nat) (W row:List Nat) (k:Nat) (g:List Nat):Prop where
 len:g.length=n
 out:∀x,x<n->x∉W.take k->g[x]?=some x
 at':∀j x,j<k->W[j]?=some x->g[x]?=some (W.getD (row.getD j 0) 0)
theorem Sprd.start {n:Nat}{W row:List Nat}:Sprd n W row 0 (List.range n):=⟨aA,λx hx _=>aM hx,λj x hj=>absurd hj (cW _)⟩
theorem Sprd.step {n k x:Nat}{W row g:List Nat}(hW:W.Nodup)(hlt:∀x∈W,x<n)(h:Sprd n W row k g)(hk:W[k]?=some x):Sprd n W row (k+1) (g.set x (W.getD (row.getD k 0) 0)):=by
 have hx:=hlt x (ax hk)
 have hne:∀j y,j<k->W[j]?=some y->y≠x:=λj y hj hy e=>by
  subst e
  have:=(Y5 hW hy).symm.trans (Y5 hW hk)
  lia
 refine ⟨by rw [bE];exact h.len,λy hy hn=>?_,λj y hj hy=>?_⟩
 ·rw [bO,hk] at hn
  have h1:y∉W.take k:=λz=>hn (aJ _ z)
  have h2:y≠x:=λe=>hn (aD _ (by rw [e];simp))
  rw [bM (Ne.symm h2)]
  exact h.out y hy h1
 ·by_cases e:j=k
  ·subst e
   obtain rfl:x=y:=Option.some.inj (hk.symm.trans hy)
   rw [cf (by rw [h.len];exact hx)]
  ·rw [bM (Ne.symm (hne j y (by lia) hy))]
   exact h.at' j y (by lia) hy
theorem Sprd.done {n:Nat}{W row g:List Nat}(hW:W.Nodup)(hlt:∀x∈W,x<n)(hr:IsT W.length row)(h:Sprd n W row W.length g):IsT n g/\Only n W g:=by
 have hout:∀x,x<n->x∉W->g[x]?=some x:=λx hx hn=>h.out x hx (by rw [bz];exact hn)
 have wg:∀a,a<W.length->W[a]?=some (W.getD a 0):=λa ha=>by rw [ar,aa ha];rfl
 have wm:∀a,a<W.length->W.getD a 0∈W:=λa ha=>by
  rw [ar,aa ha]
  exact bH ha
 have hin:∀x,x∈W->∃j,j<W.length/\W[j]?=some x/\g[x]?=some (W.getD (row.getD j 0) 0):=λx hx=>by
  obtain ⟨j,hj,e⟩:=aY.mp hx
  have e':W[j]?=some x:=by rw [aa hj,e]
  exact ⟨j,hj,e',h.at' j x hj e'⟩
 have inj:∀x y v,x<n->y<n->g[x]?=some v->g[y]?=some v->x=y:=λx y v hx hy h1 h2=>by
  by_cases a:x∈W <;> by_cases b:y∈W
  ·obtain ⟨i,hi,e1,e2⟩:=hin x a
   obtain ⟨j,hj,e3,e4⟩:=hin y b
   rw [h1] at e2
   rw [h2] at e4
   have e:=(Option.some.inj e2).symm.trans (Option.some.inj e4)
   have ri:=hr.step_lt hi
   have rj:=hr.step_lt hj
   have p1:W[row.getD i 0]?=some (W.getD (row.getD i 0) 0):=wg _ ri
   have p2:W[row.getD j 0]?=some (W.getD (row.getD i 0) 0):=by rw [e];exact wg _ rj
   have q:=(Y5 hW p1).symm.trans (Y5 hW p2)
   have ij:=hr.step_inj hi hj q
   rw [ij,e3] at e1
   exact (Option.some.inj e1).symm
  ·obtain ⟨i,hi,e1,e2⟩:=hin x a
   rw [hout y hy b] at h2
   rw [h1,←Option.some.inj h2] at e2
   exact absurd (by rw [Option.some.inj e2];exact wm _ (hr.step_lt hi)) b
  ·obtain ⟨i,hi,e1,e2⟩:=hin y b
   rw [hout x hx a] at h1
   rw [h2,←Option.some.inj h1] at e2
   exact absurd (by rw [Option.some.inj e2];exact wm _ (hr.step_lt hi)) a
  ·rw [hout x hx a] at h1
   rw [hout y hy b] at h2
   exact (Option.some.inj h1).trans (Option.some.inj h2).symm
 refine ⟨isT_of h.len ?_ λv hv=>?_,λx hx hn=>getD_of (hout x hx hn)⟩
 ·refine aX.mpr λi j hi hj hij e=>?_
  have:=inj i j g[i] (by rw [←h.len];exact hi) (by rw [←h.len];exact hj) (aa hi) (by rw [e];exact aa hj)
  lia
 ·obtain ⟨x,hx,e⟩:=aY.mp hv
  have hxn:x<n:=by rw [←h.len];exact hx
  have e':g[x]?=some v:=by rw [aa hx,e]
  by_cases a:x∈W
  ·obtain ⟨i,hi,e1,e2⟩:=hin x a
   rw [e'] at e2
   rw [Option.some.inj e2]
   exact hlt _ (wm _ (hr.step_lt hi))
  ·rw [hout x hxn a] at e'
   rw [←Option.some.inj e']
   exact hxn
theorem Only.more {n:Nat}{W V t:List Nat}(h:Only n W t)(hs:∀x∈W,x∈V):Only n V t:=λx hx hn=>h x hx λz=>hn (hs x z)
end TM
namespace TM
def Chn.low (C:Chn)(j:Nat)(h:List Nat)(q:Nat):Nat:=((C.ring j).filter λp=>decide (h.getD p 0<q)).length
def Chn.manyL (C:Chn):List Nat->Nat
 | []=>1
 | j::js=>(C.ring j).length*Chn.manyL C js
def Chn.NthL (C:Chn):List Nat->Nat->List Nat->List Nat->Prop
 | [],_,h,x=>x=h
 | j::js,k,h,x=>∃p,p∈C.ring j/\C.low j h (h.getD p 0)=k / C.manyL js % (C.ring j).length/\Chn.NthL C js k (beh (C.up j p) h) x
def Chn.NumL (C:Chn):List Nat->List Nat->List Nat->Nat
 | [],_,_=>0
 | j::js,h,x=>C.low j h (x.getD j 0)*C.manyL js+Chn.NumL C js (beh (C.up j (h.idxOf (x.getD j 0))) h) x
def Chn.Cos (n:Nat)(C:Chn)(j:Nat)(h x:List Nat):Prop:=∃g,Grp n (C.mv j) g/\x=beh g h
theorem idx_get {n:Nat}{h:List Nat}(hT:IsT n h){p:Nat}(hp:p<n):h.idxOf (h.getD p 0)=p:=Y5 hT.nodup (hT.get_step hp)
section
variable {n:Nat}{C:Chn}(ok:C.Ok n)
include ok
omit ok in
theorem Chn.manyL_many:∀(d j:Nat),j+d=n->C.manyL (List.range' j d)=C.many n d
 | 0,_,_=>rfl
 | d+1,j,e=>by
  rw [bK,Chn.manyL,Chn.many,Chn.manyL_many d (j+1) (by lia),show n-(d+1)=j by lia]
theorem Chn.Ok.cos {j:Nat}(hj:j<n)(sh:C.Shut n j){h x:List Nat}(hT:IsT n h)(c:C.Cos n j h x):∃p,p∈C.ring j/\p<n/\x.getD j 0=h.getD p 0/\h.idxOf (x.getD j 0)=p/\IsT n (beh (C.up j p) h)/\C.Cos n (j+1) (beh (C.up j p) h) x:=by
 obtain ⟨g,hg,rfl⟩:=c
 obtain ⟨p,k,hp,hk,rfl⟩:=ok.parts hj sh hg
 have hkT:=hk.isT (ok.mvT _)
 have hu:=ok.upT hj hp
 have hpn:=ok.lt j p hj hp
 have e:(beh (beh k (C.up j p)) h).getD j 0=h.getD p 0:=by
  rw [beh_get (hkT.beh hu) hj,beh_get hkT hj,ok.genF (fA hj) hk _ (cP _),ok.upTo j p hj hp]
 refine ⟨p,hp,hpn,e,?_,hu.beh hT,k,hk,u9 hkT hu hT⟩
 rw [e,idx_get hT hpn]
omit ok in
theorem Chn.Cos.isT {j:Nat}{h x:List Nat}(hS:∀s,C.mv j s->IsT n s)(hT:IsT n h)(c:C.Cos n j h x):IsT n x:=by
 obtain ⟨g,hg,rfl⟩:=c
 exact (hg.isT hS).beh hT
theorem Chn.Ok.cos_up {j p:Nat}(hj:j<n)(hp:p∈C.ring j){h x:List Nat}(hT:IsT n h)(c:C.Cos n (j+1) (beh (C.up j p) h) x):C.Cos n j h x:=by
 obtain ⟨g,hg,rfl⟩:=c
 have hgT:=hg.isT (ok.mvT _)
 refine ⟨beh g (C.up j p),Grp.beh (ok.mvT j) (Grp.mono (ok.mvT j) (ok.down j) hg) (ok.upG j p hj hp),(u9 hgT (ok.upT hj hp) hT).symm⟩
theorem Chn.Ok.cos_ahead {j:Nat}(hj:j<=n){h x:List Nat}(hT:IsT n h)(c:C.Cos n j h x){i:Nat}(hi:i<j):x.getD i 0=h.getD i 0:=by
 obtain ⟨g,hg,rfl⟩:=c
 rw [beh_get (hg.isT (ok.mvT _)) (by lia),ok.genF hj hg _ hi]
theorem Chn.Ok.low_lt {j p:Nat}(hj:j<n){h:List Nat}(hp:p∈C.ring j):C.low j h (h.getD p 0)<(C.ring j).length:=by
 unfold Chn.low
 have:=List.length_filter_lt_length_iff_exists (p:=λq=>decide (h.getD q 0<h.getD p 0)) (l:=C.ring j)
 exact this.mpr ⟨p,hp,by simp⟩
omit ok in
theorem zq8 {f:Nat->Nat}:∀{l:List Nat} {a b p:Nat},p∈l->f p=a->a<b->(l.filter λq=>decide (f q<a)).length<(l.filter λq=>decide (f q<b)).length
 | q::l,a,b,p,hp,e,hab=>by
  have mono:∀l:List Nat,(l.filter λq=>decide (f q<a)).length<=(l.filter λq=>decide (f q<b)).length:=λl=>by
   induction l with
   | nil=>exact af _
   | cons q l ih =>
    rw [bw,bw]
    by_cases h1:f q<a
    ·rw [if_pos (by simpa using h1),if_pos (by simpa using dW h1 hab)]
     simp only [az];lia
    ·rw [if_neg (by simpa using h1)]
     split
     ·simp only [az];lia
     ·exact ih
  rw [bw,bw]
  by_cases hq:p=q
  ·subst hq
   rw [if_neg (by simp;lia),if_pos (by simp;lia)]
   have:=mono l
   simp only [az];lia
  ·have hp':p∈l:=(ay.mp hp).resolve_left hq
   have ih:=zq8 hp' e hab
   by_cases h1:f q<a
   ·rw [if_pos (by simpa using h1),if_pos (by simpa using dW h1 hab)]
    simp only [az];lia
   ·rw [if_neg (by simpa using h1)]
    split
    ·simp only [az];lia
    ·exact ih
omit ok in
theorem Chn.low_less {j p:Nat}{h:List Nat}{b:Nat}(hp:p∈C.ring j)(hab:h.getD p 0<b):C.low j h (h.getD p 0)<C.low j h b:=zq8 (f:=λq=>h.getD q 0) hp rfl hab
theorem Chn.Ok.low_inj {j p q:Nat}(hj:j<n){h:List Nat}(hT:IsT n h)(hp:p∈C.ring j)(hq:q∈C.ring j)(e:C.low j h (h.getD p 0)=C.low j h (h.getD q 0)):p=q:=by
 rcases dz (h.getD p 0) (h.getD q 0) with c|c|c
 ·have:=Chn.low_less (C:=C) hp c;lia
 ·exact hT.step_inj (ok.lt j p hj hp) (ok.lt j q hj hq) c
 ·have:=Chn.low_less (C:=C) hq c;lia
omit ok in
theorem Chn.less_of_low {j p q:Nat}{h:List Nat}(hp:p∈C.ring j)(hq:q∈C.ring j)(e:C.low j h (h.getD p 0)<C.low j h (h.getD q 0)):h.getD p 0<h.getD q 0:=by
 rcases dz (h.getD p 0) (h.getD q 0) with c|c|c
 ·exact c
 ·rw [c] at e;lia
 ·have:=Chn.low_less (C:=C) hq c;lia
theorem Chn.Ok.nth_num:∀(d j:Nat) (k:Nat) (h x:List Nat),j+d=n->(∀i,j<=i->i<n->C.Shut n i)->IsT n h->C.NthL (List.range' j d) k h x->C.Cos n j h x/\C.NumL (List.range' j d) h x=k % C.manyL (List.range' j d)
 | 0,j,k,h,x,e,sh,hT,hx=>by
  cases hx
  exact ⟨⟨List.range n,.one,(still_beh hT).symm⟩,(Nat.mod_one k).symm⟩
 | d+1,j,k,h,x,e,sh,hT,hx=>by
  have hj:j<n:=by lia
  rw [bK] at hx ⊢
  obtain ⟨p,hp,hl,hx⟩:=hx
  have hu:=ok.upT hj hp
  obtain ⟨c,en⟩:=Chn.Ok.nth_num d (j+1) k _ x (by lia) (λi h1 h2=>sh i (by lia) h2) (hu.beh hT) hx
  have c':=ok.cos_up hj hp hT c
  have ex:x.getD j 0=h.getD p 0:=by
   rw [ok.cos_ahead (fA hj) (hu.beh hT) c (cP j),beh_get hu hj,ok.upTo j p hj hp]
  refine ⟨c',?_⟩
  show C.low j h (x.getD j 0)*C.manyL (List.range' (j+1) d)+C.NumL (List.range' (j+1) d) (beh (C.up j (h.idxOf (x.getD j 0))) h) x=k % ((C.ring j).length*C.manyL (List.range' (j+1) d))
  rw [ex,idx_get hT (ok.lt j p hj hp),en,hl,dU (C.ring j).length,Nat.mod_mul,dU (C.manyL _) (_ % _),dX]
theorem Chn.Ok.num_lt:∀(d j:Nat) (h x:List Nat),j+d=n->(∀i,j<=i->i<n->C.Shut n i)->IsT n h->C.Cos n j h x->C.NumL (List.range' j d) h x<C.manyL (List.range' j d)
 | 0,j,h,x,e,sh,hT,c=>dM
 | d+1,j,h,x,e,sh,hT,c=>by
  have hj:j<n:=by lia
  obtain ⟨p,hp,hpn,ex,ei,hT',c'⟩:=ok.cos hj (sh j (af _) hj) hT c
  have ih:=Chn.Ok.num_lt d (j+1) _ x (by lia) (λi h1 h2=>sh i (by lia) h2) hT' c'
  have hl:=ok.low_lt hj (h:=h) hp
  rw [bK]
  show C.low j h (x.getD j 0)*C.manyL (List.range' (j+1) d)+C.NumL (List.range' (j+1) d) (beh (C.up j (h.idxOf (x.getD j 0))) h) x<(C.ring j).length*C.manyL (List.range' (j+1) d)
  rw [ei,ex]
  calc _<C.low j h (h.getD p 0)*C.manyL (List.range' (j+1) d)+C.manyL (List.range' (j+1) d):=Nat.add_lt_add_left ih _
   _=(C.low j h (h.getD p 0)+1)*C.manyL (List.range' (j+1) d):=by rw [dF,cM]
   _<=_:=bX _ hl
omit ok in
theorem A3 {a b u v m:Nat}(hu:u<m)(hv:v<m):(a*m+u=b*m+v->a=b/\u=v)/\(a*m+u<b*m+v->a<b∨(a=b/\u<v)):=by
 have key:∀a b u v:Nat,u<m->v<m->a<b->a*m+u<b*m+v:=λa b u v hu hv h=>by
  have:(a+1)*m<=b*m:=bX m h
  rw [dF,cM] at this
  lia
 refine ⟨λe=>?_,λe=>?_⟩
 ·rcases dz a b with c|c|c
  ·have:=key a b u v hu hv c;lia
  ·subst c;exact ⟨rfl,by lia⟩
  ·have:=key b a v u hv hu c;lia
 ·rcases dz a b with c|c|c
  ·exact .inl c
  ·subst c;exact .inr ⟨rfl,by lia⟩
  ·have:=key b a v u hv hu c;lia
theorem Chn.Ok.num_inj:∀(d j:Nat) (h x y:List Nat),j+d=n->(∀i,j<=i->i<n->C.Shut n i)->IsT n h->C.Cos n j h x->C.Cos n j h y->C.NumL (List.range' j d) h x=C.NumL (List.range' j d) h y->x=y
 | 0,j,h,x,y,e,sh,hT,cx,cy,_=>by
  have ej:j=n:=by lia
  subst ej
  refine Y9 (cx.isT (ok.mvT _) hT) (cy.isT (ok.mvT _) hT) λi hi=>?_
  rw [ok.cos_ahead (af _) hT cx hi,ok.cos_ahead (af _) hT cy hi]
 | d+1,j,h,x,y,e,sh,hT,cx,cy,en=>by
  have hj:j<n:=by lia
  have sh':∀i,j+1<=i->i<n->C.Shut n i:=λi h1 h2=>sh i (by lia) h2
  obtain ⟨p,hp,hpn,ex,ei,hT',cx'⟩:=ok.cos hj (sh j (af _) hj) hT cx
  obtain ⟨q,hq,hqn,ey,ei',hT'',cy'⟩:=ok.cos hj (sh j (af _) hj) hT cy
  have l1:=ok.num_lt d (j+1) _ x (by lia) sh' hT' cx'
  have l2:=ok.num_lt d (j+1) _ y (by lia) sh' hT'' cy'
  rw [bK] at en
  have en':C.low j h (x.getD j 0)*C.manyL (List.range' (j+1) d)+C.NumL (List.range' (j+1) d) (beh (C.up j (h.idxOf (x.getD j 0))) h) x=C.low j h (y.getD j 0)*C.manyL (List.range' (j+1) d)+C.NumL (List.range' (j+1) d) (beh (C.up j (h.idxOf (y.getD j 0))) h) y:=en
  rw [ei,ei',ex,ey] at en'
  obtain ⟨e1,e2⟩:=(A3 l1 l2).1 en'
  have epq:=ok.low_inj hj hT hp hq e1
  subst epq
  exact Chn.Ok.num_inj d (j+1) _ x y (by lia) sh' hT' cx' cy' e2
theorem Chn.Ok.num_less:∀(d j:Nat) (h x y:List Nat),j+d=n->(∀i,j<=i->i<n->C.Shut n i)->IsT n h->C.Cos n j h x->C.Cos n j h y->C.NumL (List.range' j d) h x<C.NumL (List.range' j d) h y->∃i,i<n/\(∀q,q<i->x.getD q 0=y.getD q 0)/\x.getD i 0<y.getD i 0
 | 0,j,h,x,y,e,sh,hT,cx,cy,en=>absurd en (aZ _)
 | d+1,j,h,x,y,e,sh,hT,cx,cy,en=>by
  have hj:j<n:=by lia
  have sh':∀i,j+1<=i->i<n->C.Shut n i:=λi h1 h2=>sh i (by lia) h2
  obtain ⟨p,hp,hpn,ex,ei,hT',cx'⟩:=ok.cos hj (sh j (af _) hj) hT cx
  obtain ⟨q,hq,hqn,ey,ei',hT'',cy'⟩:=ok.cos hj (sh j (af _) hj) hT cy
  have l1:=ok.num_lt d (j+1) _ x (by lia) sh' hT' cx'
  have l2:=ok.num_lt d (j+1) _ y (by lia) sh' hT'' cy'
  rw [bK] at en
  have en':C.low j h (x.getD j 0)*C.manyL (List.range' (j+1) d)+C.NumL (List.range' (j+1) d) (beh (C.up j (h.idxOf (x.getD j 0))) h) x<C.low j h (y.getD j 0)*C.manyL (List.range' (j+1) d)+C.NumL (List.range' (j+1) d) (beh (C.up j (h.idxOf (y.getD j 0))) h) y:=en
  rw [ei,ei',ex,ey] at en'
  rcases (A3 l1 l2).2 en' with c|⟨e1,e2⟩
  ·refine ⟨j,hj,λi hi=>?_,?_⟩
   ·rw [ok.cos_ahead (bu hj) hT cx hi,ok.cos_ahead (bu hj) hT cy hi]
   ·rw [ex,ey]
    exact Chn.less_of_low hp hq c
  ·have epq:=ok.low_inj hj hT hp hq e1
   subst epq
   exact Chn.Ok.num_less d (j+1) _ x y (by lia) sh' hT' cx' cy' e2
theorem Chn.Ok.ring_ge {j p:Nat}(hj:j<n)(hp:p∈C.ring j):j<=p:=by
 refine cQ λc=>?_
 have hT:=ok.upT hj hp
 have:=hT.step_inj (x:=p) (y:=j) (by lia) hj (by rw [ok.upF hj hp p c,ok.upTo j p hj hp])
 lia
theorem Chn.Ok.num_still:∀(d j:Nat),j+d=n->C.NumL (List.range' j d) (List.range n) (List.range n)=0
 | 0,_,_=>rfl
 | d+1,j,e=>by
  have hj:j<n:=by lia
  rw [bK]
  show C.low j (List.range n) ((List.range n).getD j 0)*_+C.NumL (List.range' (j+1) d) (beh (C.up j ((List.range n).idxOf ((List.range n).getD j 0))) (List.range n)) (List.range n)=0
  rw [idx_get (IsT.range n) hj,ok.upOwn j hj,still_beh (IsT.range n),Chn.Ok.num_still d (j+1) (by lia),still_get hj]
  have:C.low j (List.range n) j=0:=by
   unfold Chn.low
   rw [bL,du]
   intro p hp c
   have h1:=ok.ring_ge hj hp
   rw [still_get (ok.lt j p hj hp)] at c
   have:=of_decide_eq_true c
   lia
  rw [this,fh]
theorem Chn.Ok.ring_one {j:Nat}(hj:j<n)(h1:¬1<(C.ring j).length):C.ring j=[j]:=by
 have h:=ok.own j hj
 match e:C.ring j with
 | []=>rw [e] at h;cases h
 | [a]=>rw [e] at h;rw [ah.mp h]
 | a::b::l=>rw [e] at h1;simp at h1
def wide (C:Chn)(js:List Nat):List Nat:=js.filter λj=>decide (1<(C.ring j).length)
theorem Chn.Ok.manyL_wide:∀(js:List Nat),(∀j∈js,j<n)->C.manyL (wide C js)=C.manyL js
 | [],_=>rfl
 | j::js,hlt=>by
  have ih:=Chn.Ok.manyL_wide js λi hi=>hlt i (ao _ hi)
  unfold wide at ih ⊢
  rw [bw]
  by_cases h1:1<(C.ring j).length
  ·rw [if_pos (by simpa using h1),Chn.manyL,ih,Chn.manyL]
  ·rw [if_neg (by simpa using h1),ih,Chn.manyL,ok.ring_one (hlt j au) h1,bn,cM]
theorem Chn.Ok.nth_wide:∀(js:List Nat) (k:Nat) (h x:List Nat),(∀j∈js,j<n)->IsT n h->C.NthL (wide C js) k h x->C.NthL js k h x
 | [],_,_,_,_,_,hx=>hx
 | j::js,k,h,x,hlt,hT,hx=>by
  have hj:=hlt j au
  have hlt':∀i∈js,i<n:=λi hi=>hlt i (ao _ hi)
  unfold wide at hx
  rw [bw] at hx
  by_cases h1:1<(C.ring j).length
  ·rw [if_pos (by simpa using h1)] at hx
   obtain ⟨p,hp,hl,hx⟩:=hx
   refine ⟨p,hp,?_,Chn.Ok.nth_wide js k _ x hlt' ((ok.upT hj hp).beh hT) hx⟩
   rw [hl,show C.manyL (js.filter λj=>decide (1<(C.ring j).length))=C.manyL js from ok.manyL_wide js hlt']
  ·rw [if_neg (by simpa using h1)] at hx
   have e:=ok.ring_one hj h1
   refine ⟨j,ok.own j hj,?_,?_⟩
   ·unfold Chn.low
    rw [e,bn,Nat.mod_one,bL,du]
    intro q hq c
    rw [ah.mp hq] at c
    exact absurd (of_decide_eq_true c) (aZ _)
   ·rw [ok.upOwn j hj,still_beh hT]
    exact Chn.Ok.nth_wide js k h x hlt' hT hx
theorem Chn.Ok.num_wide:∀(d j:Nat) (h x:List Nat),j+d=n->(∀i,j<=i->i<n->C.Shut n i)->IsT n h->C.Cos n j h x->C.NumL (wide C (List.range' j d)) h x=C.NumL (List.range' j d) h x
 | 0,_,_,_,_,_,_,_=>rfl
 | d+1,j,h,x,e,sh,hT,c=>by
  have hj:j<n:=by lia
  have sh':∀i,j+1<=i->i<n->C.Shut n i:=λi h1 h2=>sh i (by lia) h2
  obtain ⟨p,hp,hpn,ex,ei,hT',c'⟩:=ok.cos hj (sh j (af _) hj) hT c
  have ih:=Chn.Ok.num_wide d (j+1) _ x (by lia) sh' hT' c'
  have hm:=ok.manyL_wide (List.range' (j+1) d) λi hi=>by have:=List.mem_range'_1.mp hi;lia
  have eR:C.NumL (j::List.range' (j+1) d) h x=C.low j h (x.getD j 0)*C.manyL (List.range' (j+1) d)+C.NumL (List.range' (j+1) d) (beh (C.up j (h.idxOf (x.getD j 0))) h) x:=rfl
  rw [bK,eR,ei,ex]
  unfold wide at ih hm ⊢
  rw [bw]
  by_cases h1:1<(C.ring j).length
  ·rw [if_pos (by simpa using h1)]
   show C.low j h (x.getD j 0)*C.manyL (List.filter _ _)+C.NumL (List.filter _ _) (beh (C.up j (h.idxOf (x.getD j 0))) h) x=_
   rw [ei,ex,ih,hm]
  ·rw [if_neg (by simpa using h1)]
   have e1:=ok.ring_one hj h1
   have ep:p=j:=by rw [e1] at hp;exact ah.mp hp
   subst ep
   have l0:C.low p h (h.getD p 0)=0:=by
    unfold Chn.low
    rw [e1,bL,du]
    intro q hq c
    rw [ah.mp hq] at c
    exact absurd (of_decide_eq_true c) (aZ _)
   rw [ok.upOwn p hj,still_beh hT] at ih ⊢
   rw [l0,fh,bo,ih]
def Chn.Fit (C:Chn):List Nat->List Nat->List Nat->Prop
 | [],_,_=>True
 | j::js,h,x=>∃p,p∈C.ring j/\x.getD j 0=h.getD p 0/\Chn.Fit C js (beh (C.up j p) h) x
theorem Chn.Ok.fit:∀(d j:Nat) (h x:List Nat),j+d=n->(∀i,j<=i->i<n->C.Shut n i)->IsT n h->C.Cos n j h x->C.Fit (List.range' j d) h x
 | 0,_,_,_,_,_,_,_=>True.intro
 | d+1,j,h,x,e,sh,hT,c=>by
  have hj:j<n:=by lia
  obtain ⟨p,hp,hpn,ex,ei,hT',c'⟩:=ok.cos hj (sh j (af _) hj) hT c
  rw [bK]
  exact ⟨p,hp,ex,Chn.Ok.fit d (j+1) _ x (by lia) (λi h1 h2=>sh i (by lia) h2) hT' c'⟩
theorem Chn.Ok.fit_wide:∀(js:List Nat) (h x:List Nat),(∀j∈js,j<n)->IsT n h->C.Fit js h x->C.Fit (wide C js) h x
 | [],_,_,_,_,_=>True.intro
 | j::js,h,x,hlt,hT,⟨p,hp,ex,hf⟩=>by
  have hj:=hlt j au
  have ih:=Chn.Ok.fit_wide js _ x (λi hi=>hlt i (ao _ hi)) ((ok.upT hj hp).beh hT) hf
  unfold wide at ih ⊢
  rw [bw]
  by_cases h1:1<(C.ring j).length
  ·rw [if_pos (by simpa using h1)]
   exact ⟨p,hp,ex,ih⟩
  ·rw [if_neg (by simpa using h1)]
   have e1:=ok.ring_one hj h1
   have ep:p=j:=by rw [e1] at hp;exact ah.mp hp
   subst ep
   rwa [ok.upOwn p hj,still_beh hT] at ih
end
theorem ym7 {l:List Int}:∀{ms:List Int} {i:Nat} {q:Int},ms.Nodup->ms.Pairwise (·<=·)->ms[i]?=some q->(ms.filter λz=>decide (z<q)).length=i
 | [],i,q,_,_,h=>by simp at h
 | m::ms,0,q,hn,hp,h=>by
  have e:m=q:=by simpa using h
  subst e
  rw [bL,du]
  intro z hz c
  have c:=of_decide_eq_true c
  rcases ay.mp hz with rfl|hz
  ·lia
  ·have:=(cX.mp hp).1 z hz
   lia
 | m::ms,i+1,q,hn,hp,h=>by
  have h':ms[i]?=some q:=by simpa using h
  have hq:q∈ms:=ax h'
  have h1:=(cX.mp hp).1 q hq
  have h2:m≠q:=λe=>(aK.mp hn).1 (e ▸ hq)
  rw [bw,if_pos (by simp;lia),az,ym7 (l:=l) (aK.mp hn).2 (cX.mp hp).2 h']
theorem Chn.rank {n:Nat}{C:Chn}(ok:C.Ok n){j:Nat}(hj:j<n){h:List Nat}(hT:IsT n h){ms:List Int}(hm:ms.Perm ((C.ring j).map λp=>((h.getD p 0:Nat):Int)))(hs:ms.Pairwise (·<=·)){i:Nat}{q:Int}(hq:ms[i]?=some q):∃p,p∈C.ring j/\p<n/\q=((h.getD p 0:Nat):Int)/\C.low j h (h.getD p 0)=i:=by
 obtain ⟨p,hp,rfl⟩:=aw.mp (hm.mem_iff.mp (ax hq))
 have hnd:ms.Nodup:=hm.nodup_iff.mpr (dL.mpr (ba.mpr ((dL.mp (ok.nd j hj)).imp_of_mem λ{a b} ha hb ne e=>ne (hT.step_inj (ok.lt j a hj ha) (ok.lt j b hj hb) (by lia)))))
 refine ⟨p,hp,ok.lt j p hj hp,rfl,?_⟩
 rw [←ym7 (l:=[]) hnd hs hq,(hm.filter _).length_eq,fG,ae]
 unfold Chn.low
 congr 1
 refine List.filter_congr λz _=>?_
 simp
end TM
namespace TM
section
variable {n:Nat}{C:Chn}(ok:C.Ok n)
include ok
end
section
variable {n:Nat}{S:List Nat->Prop}(hS:∀s,S s->IsT n s)
include hS
end
end TM
namespace TM
open Classical
section
variable (n:Nat)(G:List Nat->Prop)
end
section
variable {n:Nat}{C:Chn}{G:List Nat->Prop}(ok:C.Ok n)(sh:∀i,i<n->C.Shut n i)(hG:∀x,Grp n (C.mv 0) x↔G x)
include ok sh hG
end
theorem zl0 {l m:List (List Nat)}(h1:l.Nodup)(h2:∀y∈l,y∈m):l.length<=m.length:=by
 induction l generalizing m with
 | nil=>exact aQ _
 | cons a l ih =>
  obtain ⟨h3,h4⟩:=aK.mp h1
  have:=ih (m:=m.erase a) h4 λy hy=>(cI (λ(e:y=a)=>h3 (by rw [←e];exact hy))).mpr (h2 y (ao _ hy))
  have ha:=h2 a au
  rw [cr ha] at this
  have:=di ha
  rw [az]
  lia
theorem ya9 {α β:Type}(f:α->List β)(k:Nat):∀l:List α,(∀a∈l,(f a).length=k)->(l.flatMap f).length=l.length*k
 | [],_=>by simp
 | a::l,h=>by
  rw [cD,aq,h a au,ya9 f k l λb hb=>h b (ao _ hb),az,fR,dX]
theorem B5 {α β:Type}(f:α->List β):∀l:List α,l.Nodup->(∀a∈l,(f a).Nodup)->(∀a∈l,∀b∈l,a≠b->∀x∈f a,x∉f b)->(l.flatMap f).Nodup
 | [],_,_,_=>by simp
 | a::l,h,h1,h2=>by
  obtain ⟨h3,h4⟩:=aK.mp h
  rw [cD]
  refine bj.mpr ⟨h1 a au,B5 f l h4 (λb hb=>h1 b (ao _ hb)) λb hb c hc=>h2 b (ao _ hb) c (ao _ hc),λx hx y hy e=>?_⟩
  subst e
  obtain ⟨b,hb,hxb⟩:=bG.mp hy
  exact h2 a au b (ao _ hb) (λe=>h3 (e ▸ hb)) x hx hxb
end TM
namespace TM
open Classical
section
variable {n:Nat}{W:List Nat}{S:List Nat->Prop}(hS:∀s,S s->IsT n s)(hW:W.Nodup)(hlt:∀x∈W,x<n)
include hS hW hlt
end
def fac:Nat->Nat
 | 0=>1
 | k+1=>(k+1)*fac k
end TM
namespace TM
structure Hom (k n:Nat) (F:List Nat->List Nat):Prop where
 isT:∀t,IsT k t->IsT n (F t)
 two:∀a b,IsT k a->IsT k b->F (beh a b)=beh (F a) (F b)
 one:F (List.range k)=List.range n
 inj:∀a b,IsT k a->IsT k b->F a=F b->a=b
theorem Hom.bk {k n:Nat}{F:List Nat->List Nat}(h:Hom k n F){t:List Nat}(ht:IsT k t):F (TM.bk k t)=TM.bk n (F t):=by
 have hF:=h.isT t ht
 refine zf8 (h.isT _ ht.bk) hF.bk hF ?_
 rw [←h.two t _ ht ht.bk,J8 ht,h.one,J8 hF]
theorem Hom.grp {k n:Nat}{F:List Nat->List Nat}(h:Hom k n F){S:List (List Nat)}(hS:∀s∈S,IsT k s)(y:List Nat):Grp n (λz=>z∈S.map F) y↔∃x,Grp k (λz=>z∈S) x/\y=F x:=by
 have hS':∀s,s∈S.map F->IsT n s:=λs hs=>by
  obtain ⟨t,ht,rfl⟩:=aw.mp hs
  exact h.isT t (hS t ht)
 constructor
 ·intro hy
  refine Grp.keeps (P:=λy=>∃x,Grp k (λz=>z∈S) x/\y=F x) ⟨_,.one,h.one.symm⟩ (λa s ⟨x,hx,e⟩ hs=>?_) (λa s ⟨x,hx,e⟩ hs=>?_) hy
  ·obtain ⟨t,ht,rfl⟩:=aw.mp hs
   refine ⟨beh x t,Grp.beh hS hx (Grp.of hS ht),?_⟩
   rw [h.two x t (hx.isT hS) (hS t ht),e]
  ·obtain ⟨t,ht,rfl⟩:=aw.mp hs
   refine ⟨beh x (TM.bk k t),Grp.beh hS hx (Grp.bk hS (Grp.of hS ht)),?_⟩
   rw [h.two x _ (hx.isT hS) (hS t ht).bk,h.bk (hS t ht),e]
 ·rintro ⟨x,hx,rfl⟩
  refine Grp.keeps (P:=λx=>IsT k x/\Grp n (λz=>z∈S.map F) (F x)) ⟨IsT.range k,by rw [h.one];exact .one⟩ (λa s ⟨ha,hg⟩ hs=>⟨ha.beh (hS s hs),?_⟩) (λa s ⟨ha,hg⟩ hs=>⟨ha.beh (hS s hs).bk,?_⟩) hx |>.2
  ·rw [h.two a s ha (hS s hs)]
   exact Grp.beh hS' hg (Grp.of hS' (aw.mpr ⟨s,hs,rfl⟩))
  ·rw [h.two a _ ha (hS s hs).bk,h.bk (hS s hs)]
   exact Grp.beh hS' hg (Grp.bk hS' (Grp.of hS' (aw.mpr ⟨s,hs,rfl⟩)))
def cj (n:Nat)(b t:List Nat):List Nat:=beh (beh (bk n b) t) b
def sp (n:Nat)(W row:List Nat):List Nat:=(List.range n).map λx=>if x∈W then W.getD (row.getD (W.idxOf x) 0) 0 else x
section
variable {n:Nat}{W:List Nat}(hW:W.Nodup)(hlt:∀x∈W,x<n)
include hW hlt
theorem zd3 (row:List Nat):Sprd n W row W.length (sp n W row):=by
 refine ⟨by unfold sp;rw [ae,aA],λx hx hn=>?_,λj x hj hx=>?_⟩
 ·rw [bz] at hn
  unfold sp
  rw [ag,aM hx]
  show some (if x∈W then _ else x)=some x
  rw [if_neg hn]
 ·have hm:=ax hx
  unfold sp
  rw [ag,aM (hlt x hm)]
  show some (if x∈W then _ else x)=_
  rw [if_pos hm,Y5 hW hx]
theorem zs4 (row:List Nat){k:Nat}(hk:k<W.length):(sp n W row).getD (W.getD k 0) 0=W.getD (row.getD k 0) 0:=by
 have e:W[k]?=some (W.getD k 0):=by rw [ar,aa hk];rfl
 rw [ar,(zd3 hW hlt row).at' k _ hk e]
 rfl
theorem zx6 (row:List Nat){x:Nat}(hx:x<n)(hn:x∉W):(sp n W row).getD x 0=x:=by
 rw [ar,(zd3 hW hlt row).out x hx (by rw [bz];exact hn)]
 rfl
theorem xb0 {s t:List Nat}(hs:IsT n s)(ht:IsT n t)(h1:∀k,k<W.length->s.getD (W.getD k 0) 0=t.getD (W.getD k 0) 0)(h2:∀x,x<n->x∉W->s.getD x 0=t.getD x 0):s=t:=by
 refine Y9 hs ht λx hx=>?_
 by_cases hm:x∈W
 ·obtain ⟨j,hj,e⟩:=aY.mp hm
  have e':W.getD j 0=x:=by rw [ar,aa hj,e];rfl
  rw [←e']
  exact h1 j hj
 ·exact h2 x hx hm
theorem N8 {row:List Nat}(hr:IsT W.length row):IsT n (sp n W row):=((zd3 hW hlt row).done hW hlt hr).1
theorem zx5 {row:List Nat}(hr:IsT W.length row):Only n W (sp n W row):=((zd3 hW hlt row).done hW hlt hr).2
theorem xi8 {k:Nat}(hk:k<W.length):W.getD k 0<n:=hlt _ (by rw [ar,aa hk];exact bH hk)
theorem yj9:Hom W.length n (sp n W):=by
 refine ⟨λt ht=>N8 hW hlt ht,λa b ha hb=>?_,?_,λa b ha hb e=>?_⟩
 ·have sa:=N8 hW hlt ha
  refine xb0 hW hlt (N8 hW hlt (ha.beh hb)) (sa.beh (N8 hW hlt hb)) (λk hk=>?_) λx hx hn=>?_
  ·rw [beh_get sa (xi8 hW hlt hk),zs4 hW hlt _ hk,zs4 hW hlt _ hk,zs4 hW hlt _ (ha.step_lt hk),beh_get ha hk]
  ·rw [beh_get sa hx,zx6 hW hlt _ hx hn,zx6 hW hlt _ hx hn,zx6 hW hlt _ hx hn]
 ·refine xb0 hW hlt (N8 hW hlt (IsT.range _)) (IsT.range n) (λk hk=>?_) λx hx hn=>?_
  ·rw [zs4 hW hlt _ hk,still_get hk,still_get (xi8 hW hlt hk)]
  ·rw [zx6 hW hlt _ hx hn,still_get hx]
 ·refine Y9 ha hb λk hk=>?_
  have e1:=zs4 hW hlt a hk
  rw [e,zs4 hW hlt b hk] at e1
  have g:∀i,i<W.length->W[i]?=some (W.getD i 0):=λi hi=>by rw [ar,aa hi];rfl
  have p1:=g _ (ha.step_lt hk)
  rw [←e1] at p1
  exact (Y5 hW p1).symm.trans (Y5 hW (g _ (hb.step_lt hk)))
end
end TM
namespace TM
end TM
namespace TM
theorem fresh {n:Nat}(l:List Nat)(h:l.length<n):∃z,z<n/\z∉l:=by
 refine Classical.byContradiction λhno=>?_
 have hs:∀x,x∈List.range n->x∈l:=λx hx=>Classical.byContradiction λhx'=>hno ⟨x,aH.mp hx,hx'⟩
 have:=zu1 bQ hs
 rw [aA] at this
 lia
def e7:List Nat:=[1,0,2,3,4,5,6]
def c7:List Nat:=[1,2,0,3,4,5,6]
end TM
namespace TM
structure Nrm (n:Nat) (N:List Nat->Prop):Prop where
 isT:∀x,N x->IsT n x
 two:∀x y,N x->N y->N (beh x y)
 back:∀x,N x->N (bk n x)
 one:N (List.range n)
 turn:∀g x,IsT n g->N x->N (cj n g x)
section
variable {n:Nat}{N:List Nat->Prop}(hN:Nrm n N)
include hN
end
end TM
namespace TM
open Classical
section
variable {n:Nat}{us ts:List (List Nat)}(hU:∀u∈us,IsT n u)(hT:∀t∈ts,IsT n t)
include hU hT
end
section
variable {n:Nat}{us ms ts:List (List Nat)}(hU:∀u∈us,IsT n u)(hT:∀t∈ts,IsT n t)(hM:∀m∈ms,IsT n m)(hMU:∀x,Grp n (λz=>z∈ms) x↔Grp n (λz=>z∈us) x)
include hU hT
include hM hMU
end
end TM
namespace TM
open Classical
section
variable {n:Nat}{a b c:List Nat}
theorem xn6 (hb:IsT n b)(hc:IsT n c):beh (bk n b) (beh b c)=c:=by rw [←u9 hb.bk hb hc,zj0 hb,still_beh hc]
theorem zq5 (ha:IsT n a)(hb:IsT n b)(h:beh a b=List.range n):b=bk n a:=by
 have:=congrArg (beh (bk n a)) h
 rwa [xn6 ha hb,beh_still ha.bk] at this
end
end TM
namespace TM
open Classical
def Few (n:Nat)(S:List (List Nat))(N:Nat):Prop:=∀L:List (List Nat),L.Nodup->(∀x∈L,Grp n (λz=>z∈S) x)->L.length<=N
theorem yg5 {n N:Nat}{S D:List (List Nat)}(h:∀x,Grp n (λz=>z∈S) x->x∈D)(hD:D.length<=N):Few n S N:=λL hL hG=>aB (zl0 hL λy hy=>h y (hG y hy)) hD
theorem Few.more {n N M:Nat}{S:List (List Nat)}(h:Few n S N)(hM:N<=M):Few n S M:=λL hL hG=>aB (h L hL hG) hM
theorem Few.hom {k n N:Nat}{F:List Nat->List Nat}(h:Hom k n F){S:List (List Nat)}(hS:∀s∈S,IsT k s)(hf:Few k S N):Few n (S.map F) N:=λL hL hG=>by
 have back:∀l:List (List Nat),l.Nodup->(∀x∈l,Grp n (λz=>z∈S.map F) x)->∃l':List (List Nat),l=l'.map F/\l'.Nodup/\∀x∈l',Grp k (λz=>z∈S) x:=λl=>by
  induction l with
  | nil=>exact λ_ _=>⟨[],rfl,cH,λx hx=>by cases hx⟩
  | cons x l ih =>
   intro hn hg
   obtain ⟨hx,hn'⟩:=aK.mp hn
   obtain ⟨l',e,h1,h2⟩:=ih hn' λy hy=>hg y (ao _ hy)
   obtain ⟨z,hz,ez⟩:=(h.grp hS x).mp (hg x au)
   refine ⟨z::l',by rw [e,ez];rfl,aK.mpr ⟨λq=>hx (by rw [e,ez];exact aw.mpr ⟨z,q,rfl⟩),h1⟩,λy hy=>?_⟩
   rcases ay.mp hy with q|q
   ·rw [q];exact hz
   ·exact h2 y q
 obtain ⟨L',e,h1,h2⟩:=back L hL hG
 rw [e,ae]
 exact hf L' h1 h2
def dh (s:Nat)(c e:Int):List Nat:=(List.range s).map λ(k:Nat)=>((c+e*(k:Int)) % (s:Int)).toNat
section
variable {s:Nat}(hs:0<s)
include hs
theorem yg4 (c e:Int){k:Nat}(hk:k<s):(dh s c e).getD k 0=((c+e*(k:Int)) % (s:Int)).toNat:=by
 unfold dh
 rw [ar,ag,aM hk]
 rfl
theorem xc9 (c e:Int)(k:Nat):((((c+e*(k:Int)) % (s:Int)).toNat:Nat):Int)=(c+e*(k:Int)) % (s:Int):=bJ (br _ (by lia))
theorem xh4 (c e:Int)(k:Nat):((c+e*(k:Int)) % (s:Int)).toNat<s:=by
 have:=bV (c+e*(k:Int)) (show (0:Int)<(s:Int) by lia)
 have:=br (c+e*(k:Int)) (show (s:Int)≠0 by lia)
 lia
theorem zj7 (c e c' e':Int):beh (dh s c e) (dh s c' e')=dh s (c'+e'*c) (e'*e):=by
 unfold beh
 conv=>lhs;unfold dh
 rw [bC]
 conv=>rhs;unfold dh
 refine bg λk hk=>?_
 show (dh s c' e').getD _ 0=_
 rw [yg4 hs _ _ (xh4 hs c e k),xc9 hs]
 congr 1
 rw [Int.add_emod,Int.mul_emod,Int.emod_emod,←Int.mul_emod,←Int.add_emod,Int.mul_add,←Int.mul_assoc,←Int.add_assoc]
theorem zj8:dh s 0 1=List.range s:=by
 unfold dh
 refine (bg λk hk=>?_).trans (eE _)
 have:=aH.mp hk
 rw [fU,ft,Int.emod_eq_of_lt (by lia) (by lia)]
 rfl
theorem dh_isT (c:Int){e:Int}(he:e=1∨e=-1):IsT s (dh s c e):=by
 have hl:(dh s c e).length=s:=by unfold dh;rw [ae,aA]
 have back:beh (dh s c e) (dh s (-(e*c)) e)=List.range s:=by
  rw [zj7 hs,show -(e*c)+e*c=0 by lia,show e*e=1 by rcases he with h|h <;> rw [h] <;> rfl]
  exact zj8 hs
 refine isT_of hl ?_ λx hx=>?_
 ·have:(dh s c e).map (λx=>(dh s (-(e*c)) e).getD x 0)=List.range s:=back
  have nd:((dh s c e).map λx=>(dh s (-(e*c)) e).getD x 0).Nodup:=by rw [this];exact bQ
  exact (ba.mp nd).imp λh z=>h (by rw [z])
 ·obtain ⟨k,_,rfl⟩:=aw.mp hx
  exact xh4 hs c e k
theorem yu6 (c e:Int):dh s c e=dh s (c % (s:Int)) e:=by
 unfold dh
 refine bg λk _=>?_
 congr 1
 rw [Int.emod_add_emod]
theorem yv7 {S:List (List Nat)}(hS:∀t∈S,∃c e:Int,(e=1∨e=-1)/\t=dh s c e):Few s S (2*s):=by
 refine yg5 (D:=(List.range s).map (λ(k:Nat)=>dh s (k:Int) 1)++(List.range s).map (λ(k:Nat)=>dh s (k:Int) (-1))) (λx hx=>?_) (by rw [aq,ae,ae,aA];lia)
 have bkd:∀c e:Int,(e=1∨e=-1)->bk s (dh s c e)=dh s (-(e*c)) e:=λc e he=>by
  have h1:=dh_isT hs c he
  have h2:=dh_isT hs (-(e*c)) he
  refine (zq5 h1 h2 ?_).symm
  rw [zj7 hs,show -(e*c)+e*c=0 by lia,show e*e=1 by rcases he with h|h <;> rw [h] <;> rfl]
  exact zj8 hs
 have key:∃c e:Int,(e=1∨e=-1)/\x=dh s c e:=by
  have pm:∀{e e':Int},(e=1∨e=-1)->(e'=1∨e'=-1)->e'*e=1∨e'*e=-1:=λh h'=>by
   rcases h with rfl|rfl <;> rcases h' with rfl|rfl <;> decide
  refine Grp.keeps (P:=λx=>∃c e:Int,(e=1∨e=-1)/\x=dh s c e) ⟨0,1,.inl rfl,(zj8 hs).symm⟩ (λa t ⟨c,e,he,ea⟩ ht=>?_) (λa t ⟨c,e,he,ea⟩ ht=>?_) hx
  ·obtain ⟨c',e',he',et⟩:=hS t ht
   exact ⟨_,_,pm he he',by rw [ea,et,zj7 hs]⟩
  ·obtain ⟨c',e',he',et⟩:=hS t ht
   exact ⟨_,_,pm he he',by rw [ea,et,bkd c' e' he',zj7 hs]⟩
 obtain ⟨c,e,he,rfl⟩:=key
 have h0:=br c (show (s:Int)≠0 by lia)
 have h1:=bV c (show (0:Int)<(s:Int) by lia)
 have em:dh s c e=dh s ((c % (s:Int)).toNat:Int) e:=by rw [bJ h0];exact yu6 hs c e
 rcases he with rfl|rfl
 ·exact aJ _ (aw.mpr ⟨(c % (s:Int)).toNat,aH.mpr (by lia),em.symm⟩)
 ·exact aD _ (aw.mpr ⟨(c % (s:Int)).toNat,aH.mpr (by lia),em.symm⟩)
end
theorem yp9 {n:Nat}{S:List (List Nat)}(hS:∀t∈S,IsT n t)(h2:∀t∈S,beh t t=List.range n)(hc:∀t∈S,∀u∈S,beh t u=beh u t):Few n S (2 ^ S.length):=by
 have key:∀(T:List (List Nat)) (D:List (List Nat)) (V:List (List Nat)),(∀t∈V++T,t∈S)->(∀x∈D,IsT n x)->List.range n∈D->(∀x∈D,∀t∈V,beh x t∈D) ->
   (∀x∈T.foldl (λD t=>D++D.map λx=>beh x t) D,IsT n x)/\List.range n∈T.foldl (λD t=>D++D.map λx=>beh x t) D/\(∀x∈T.foldl (λD t=>D++D.map λx=>beh x t) D,∀t∈V++T,beh x t∈T.foldl (λD t=>D++D.map λx=>beh x t) D)/\(T.foldl (λD t=>D++D.map λx=>beh x t) D).length=2 ^ T.length*D.length:=λT=>by
  induction T with
  | nil=>exact λD V hV hD h1 hcl=>⟨hD,h1,by rw [ca];exact hcl,by simp⟩
  | cons t T ih =>
   intro D V hV hD h1 hcl
   have ht:t∈S:=hV t (by simp)
   have hV':∀u∈V,u∈S:=λu hu=>hV u (aJ _ hu)
   have:=ih (D++D.map λx=>beh x t) (V++[t]) (λu hu=>hV u (by simpa using hu)) (λx hx=>?_) (aJ _ h1) (λx hx u hu=>?_)
   ·obtain ⟨a1,a2,a3,a4⟩:=this
    refine ⟨a1,a2,by simpa using a3,?_⟩
    rw [fF,a4,aq,ae,az,dJ,dO]
    congr 1
    lia
   ·rcases aE.mp hx with z|z
    ·exact hD x z
    ·obtain ⟨y,hy,rfl⟩:=aw.mp z
     exact (hD y hy).beh (hS t ht)
   ·rcases aE.mp hx with z|z
    ·rcases aE.mp hu with q|q
     ·exact aJ _ (hcl x z u q)
     ·rw [ah.mp q]
      exact aD _ (aw.mpr ⟨x,z,rfl⟩)
    ·obtain ⟨y,hy,rfl⟩:=aw.mp z
     rcases aE.mp hu with q|q
     ·refine aD _ (aw.mpr ⟨beh y u,hcl y hy u q,?_⟩)
      rw [u9 (hD y hy) (hS u (hV' u q)) (hS t ht),u9 (hD y hy) (hS t ht) (hS u (hV' u q)),hc u (hV' u q) t ht]
     ·rw [ah.mp q,u9 (hD y hy) (hS t ht) (hS t ht),h2 t ht,beh_still (hD y hy)]
      exact aJ _ hy
 obtain ⟨a1,a2,a3,a4⟩:=key S [List.range n] [] (λt ht=>by simpa using ht) (λx hx=>by rw [ah.mp hx];exact IsT.range n) (by simp) (λx _ t ht=>by cases ht)
 refine yg5 (D:=S.foldl (λD t=>D++D.map λx=>beh x t) [List.range n]) (λx hx=>?_) (by rw [a4];simp)
 refine Grp.keeps (P:=λx=>x∈S.foldl (λD t=>D++D.map λx=>beh x t) [List.range n]) a2 (λa t ha ht=>a3 a ha t (by simpa using ht)) (λa t ha ht=>?_) hx
 have:bk n t=t:=(zq5 (hS t ht) (hS t ht) (h2 t ht)).symm
 rw [this]
 exact a3 a ha t (by simpa using ht)
end TM
namespace TM
theorem sprd_sp {n:Nat}{W row t:List Nat}(hW:W.Nodup)(hlt:∀x∈W,x<n)(h:Sprd n W row W.length t):t=sp n W row:=by
 have h2:=zd3 hW hlt row
 apply bZ
 intro x
 by_cases hx:x<n
 ·by_cases hm:x∈W
  ·obtain ⟨j,hj,e⟩:=aY.mp hm
   have e':W[j]?=some x:=by rw [aa hj,e]
   rw [h.at' j x hj e',h2.at' j x hj e']
  ·rw [h.out x hx (by rw [bz];exact hm),h2.out x hx (by rw [bz];exact hm)]
 ·rw [cm.mpr (by rw [h.len];lia),cm.mpr (by rw [h2.len];lia)]
theorem few_spread {n s N:Nat}{W:List Nat}(hW:W.Nodup)(hlt:∀x∈W,x<n)(hs:W.length=s)(h0:0<s)(hn:2*s<=N){S:List (List Nat)}(hS:∀t∈S,∃c e:Int,(e=1∨e=-1)/\t=sp n W (dh s c e)):Few n S N:=by
 subst hs
 have hc:∀t:List Nat,t∈S->∃r:List Nat,(∃c e:Int,(e=1∨e=-1)/\r=dh W.length c e)/\t=sp n W r:=λt ht=>by
  obtain ⟨c,e,he,rfl⟩:=hS t ht
  exact ⟨_,⟨c,e,he,rfl⟩,rfl⟩
 obtain ⟨R,hR,e⟩:∃R:List (List Nat),(∀r∈R,∃c e:Int,(e=1∨e=-1)/\r=dh W.length c e)/\S=R.map (sp n W):=by
  clear hS
  induction S with
  | nil=>exact ⟨[],λr hr=>(by cases hr),rfl⟩
  | cons t S ih =>
   obtain ⟨R,h1,h2⟩:=ih λu hu=>hc u (ao _ hu)
   obtain ⟨r,h3,h4⟩:=hc t au
   exact ⟨r::R,List.forall_mem_cons.mpr ⟨h3,h1⟩,by rw [h2,h4];rfl⟩
 subst e
 refine (Few.hom (yj9 hW hlt) (λr hr=>?_) (yv7 h0 hR)).more hn
 obtain ⟨c,e,he,rfl⟩:=hR r hr
 exact dh_isT h0 c he
theorem zi8 {n:Nat}{V W t u:List Nat}(ht:IsT n t)(hu:IsT n u)(hV:∀x∈V,x<n)(hW:∀x∈W,x<n)(oV:Only n V t)(oW:Only n W u)(dj:∀x∈V,x∉W):beh t u=beh u t:=by
 refine Y9 (ht.beh hu) (hu.beh ht) λx hx=>?_
 rw [beh_get ht hx,beh_get hu hx]
 by_cases h1:x∈V
 ·have h2:=oV.stay ht hV h1
  rw [oW _ (hV _ h2) (dj _ h2),oW x hx (dj x h1)]
 ·rw [oV x hx h1]
  by_cases h3:x∈W
  ·have h4:=oW.stay hu hW h3
   rw [oV _ (hW _ h4) λz=>dj _ z h4]
  ·rw [oW x hx h3,oV x hx h1]
def exs (n:Nat)(W:List Nat)(s:Nat):List (List Nat):=(List.range s).map λi=>sp n ((W.drop (2*i)).take 2) [1,0]
theorem few_exs2 {n s:Nat}{W:List Nat}(hW:W.Nodup)(hlt:∀x∈W,x<n)(hs:W.length=2*s):Few n (exs n W s) (2 ^ s):=by
 have sub:∀i,((W.drop (2*i)).take 2).Sublist W:=λi=>(bB _ _).trans (cq _ _)
 have nd:∀i,((W.drop (2*i)).take 2).Nodup:=λi=>List.Nodup.sublist (sub i) hW
 have lt:∀i,∀x∈(W.drop (2*i)).take 2,x<n:=λi x hx=>hlt x ((sub i).subset hx)
 have len:∀i,i<s->((W.drop (2*i)).take 2).length=2:=λi hi=>by rw [aT,be];lia
 have rT:IsT 2 [1,0]:=isT_of rfl (by decide) (by decide)
 have rT':∀i,i<s->IsT ((W.drop (2*i)).take 2).length [1,0]:=λi hi=>by rw [len i hi];exact rT
 have at':∀i x,x∈(W.drop (2*i)).take 2->W[2*i]?=some x∨W[2*i+1]?=some x:=λi x hx=>by
  obtain ⟨j,hj,e⟩:=aY.mp hx
  have e':((W.drop (2*i)).take 2)[j]?=some x:=by rw [aa hj,e]
  have hj2:j<2:=by rw [aT] at hj;lia
  rw [bW hj2,cY] at e'
  rcases dA j 1 with h|h
  ·left
   rw [show 2*i=2*i+j by lia]
   exact e'
  ·right
   rw [show 2*i+1=2*i+j by lia]
   exact e'
 have inj:∀a b:Nat,∀x,W[a]?=some x->W[b]?=some x->a=b:=λa b x ha hb=>by
  obtain ⟨h1,h2⟩:=ap.mp ha
  obtain ⟨h3,h4⟩:=ap.mp hb
  rcases dz a b with z|z|z
  ·exact absurd (h2.trans h4.symm) (aX.mp hW a b h1 h3 z)
  ·exact z
  ·exact absurd (h4.trans h2.symm) (aX.mp hW b a h3 h1 z)
 have mem:∀t∈exs n W s,∃i,i<s/\t=sp n ((W.drop (2*i)).take 2) [1,0]:=λt ht=>by
  obtain ⟨i,hi,e⟩:=aw.mp ht
  exact ⟨i,aH.mp hi,e.symm⟩
 have h:=yp9 (n:=n) (S:=exs n W s) (λt ht=>?_) (λt ht=>?_) (λt ht u hu=>?_)
 ·have:(exs n W s).length=s:=by unfold exs;rw [ae,aA]
  rwa [this] at h
 ·obtain ⟨i,hi,rfl⟩:=mem t ht
  exact N8 (nd i) (lt i) (rT' i hi)
 ·obtain ⟨i,hi,rfl⟩:=mem t ht
  have hh:=yj9 (nd i) (lt i)
  rw [←hh.two _ _ (rT' i hi) (rT' i hi),←hh.one,len i hi]
  rfl
 ·obtain ⟨i,hi,rfl⟩:=mem t ht
  obtain ⟨j,hj,rfl⟩:=mem u hu
  by_cases e:i=j
  ·subst e
   rfl
  ·refine zi8 (N8 (nd i) (lt i) (rT' i hi)) (N8 (nd j) (lt j) (rT' j hj)) (lt i) (lt j) (zx5 (nd i) (lt i) (rT' i hi)) (zx5 (nd j) (lt j) (rT' j hj)) λx hx hx'=>?_
   rcases at' i x hx with a|a <;> rcases at' j x hx' with b|b <;> have:=inj _ _ _ a b <;> lia
end TM
namespace TM
theorem yp4 {y:Nat}(hy:3<=y):(y+1) ^ 3<=3*y ^ 3:=by
 have e1:(y+1) ^ 3=y*(y*y)+3*(y*y)+3*y+1:=by
  simp only [dJ,Nat.pow_zero,cM,dF,Nat.mul_add,eO]
  rw [dO y y y]
  lia
 have e2:y ^ 3=y*(y*y):=by
  simp only [dJ,Nat.pow_zero,cM]
  rw [dO]
 rw [e1,e2]
 have h1:3*(y*y)<=y*(y*y):=bX _ hy
 have h2:3*y<=y*y:=bX _ hy
 lia
theorem yk8:∀x:Nat,x ^ 3<=3 ^ x
 | 0=>by decide
 | 1=>by decide
 | 2=>by decide
 | 3=>by decide
 | x+4=>by
  have ih:=yk8 (x+3)
  have h:=yp4 (y:=x+3) (by lia)
  have e:3 ^ (x+4)=3*3 ^ (x+3):=by rw [show x+4=(x+3)+1 by lia,dJ,dU]
  rw [e]
  exact aB h (fv 3 ih)
def C8:List Nat->Nat
 | []=>1
 | x::l=>x*C8 l
theorem zm5:∀l:List Nat,C8 l ^ 3<=3 ^ l.sum
 | []=>by decide
 | x::l=>by
  rw [C8,Nat.mul_pow,cT,Nat.pow_add]
  exact fN (yk8 x) (zm5 l)
theorem zq7:∀{l:List Nat} {x:Nat},x∈l->x ∣ C8 l
 | y::l,x,h=>by
  rcases ay.mp h with z|z
  ·rw [z]
   exact ⟨C8 l,rfl⟩
  ·exact Nat.dvd_trans (zq7 z) ⟨y,dU _ _⟩
theorem zr6:∀{l:List Nat},(∀x∈l,0<x)->0<C8 l
 | [],_=>Nat.zero_lt_one
 | x::l,h=>fV (h x au) (zr6 λy hy=>h y (ao _ hy))
theorem zy3:∀l:List Nat,(iN l).sum=((l.sum:Nat):Int)
 | []=>rfl
 | x::l=>by
  have ih:=zy3 l
  show (x:Int)+(iN l).sum=_
  rw [ih,cT]
  lia
theorem IsT.ord_le {n:Nat}{t:List Nat}(hT:IsT n t)(hn:n<=15):ord t<=243:=by
 have hd:ord t ∣ C8 (zu2 t n):=ya6 _ 1 _ (Nat.one_dvd _) λp hp=>by
  obtain ⟨x,hx,rfl⟩:=aw.mp hp
  have hx:x<n:=by rw [←hT.length];exact aH.mp hx
  by_cases h1:1<per t x
  ·obtain ⟨h,hh,hc⟩:=hT.in_loop hx h1
   have hhn:=(V1.mp hh).1
   rw [hT.per_mem hhn hc]
   exact zq7 (aw.mpr ⟨h,hh,rfl⟩)
  ·rw [show per t x=1 by have:=hT.per_pos hx;lia]
   exact Nat.one_dvd _
 have hs:(zu2 t n).sum<=15:=by
  have:=hT.lens_sum_le
  rw [zy3] at this
  lia
 have hp:0<C8 (zu2 t n):=zr6 λx hx=>dW Nat.zero_lt_one (yx0 hx)
 refine aB (Nat.le_of_dvd hp hd) ?_
 have hc:C8 (zu2 t n) ^ 3<=3 ^ 15:=aB (zm5 _) (cK (by decide) hs)
 refine Classical.byContradiction λz=>?_
 have:244 ^ 3<=C8 (zu2 t n) ^ 3:=Nat.pow_le_pow_left (by lia) 3
 have h2:(244:Nat) ^ 3<=3 ^ 15:=aB this hc
 exact absurd h2 (by decide)
end TM
namespace TM
def zy5:List Nat->List Nat->Nat
 | _,[]=>0
 | W,x::l=>W.idxOf x*fac l.length+zy5 (W.erase x) l
theorem zh7:∀{l W:List Nat},l.Nodup->(∀x∈l,x∈W)->W.Nodup->W.length=l.length->zy5 W l<fac l.length
 | [],_,_,_,_,_=>Nat.zero_lt_one
 | x::l,W,hl,hs,hW,e=>by
  obtain ⟨h1,h2⟩:=aK.mp hl
  have hx:=hs x au
  have ih:=zh7 (W:=W.erase x) h2 (λy hy=>(cI (a:=y) (b:=x) λz=>h1 (z ▸ hy)).mpr (hs y (ao _ hy))) (hW.erase x) (by rw [cr hx,e];rfl)
  have hi:W.idxOf x<l.length+1:=by rw [←az,←e];exact dH hx
  have hm:=bX (fac l.length) (Nat.le_of_lt_succ hi)
  show W.idxOf x*fac l.length+zy5 (W.erase x) l<(l.length+1)*fac l.length
  rw [dF,cM]
  lia
theorem zy6:∀{l l' W:List Nat},l.Nodup->l'.Nodup->(∀x∈l,x∈W)->(∀x∈l',x∈W)->W.Nodup->W.length=l.length->l.length=l'.length->zy5 W l=zy5 W l'->l=l'
 | [],[],_,_,_,_,_,_,_,_,_=>rfl
 | x::l,y::l',W,hl,hl',hs,hs',hW,e,e',h=>by
  obtain ⟨h1,h2⟩:=aK.mp hl
  obtain ⟨h1',h2'⟩:=aK.mp hl'
  have hx:=hs x au
  have hy:=hs' y au
  have len:l.length=l'.length:=Nat.succ.inj e'
  have sub:∀z∈l,z∈W.erase x:=λz hz=>(cI (a:=z) (b:=x) λq=>h1 (q ▸ hz)).mpr (hs z (ao _ hz))
  have sub':∀z∈l',z∈W.erase y:=λz hz=>(cI (a:=z) (b:=y) λq=>h1' (q ▸ hz)).mpr (hs' z (ao _ hz))
  have le:(W.erase x).length=l.length:=by rw [cr hx,e];rfl
  have le':(W.erase y).length=l'.length:=by rw [cr hy,e,←len];rfl
  have h:W.idxOf x*fac l.length+zy5 (W.erase x) l=W.idxOf y*fac l'.length+zy5 (W.erase y) l':=h
  rw [←len] at h
  obtain ⟨i1,i2⟩:=(A3 (zh7 h2 sub (hW.erase x) le) (by rw [len];exact zh7 h2' sub' (hW.erase y) le')).1 h
  obtain rfl:=yq3 hx i1
  rw [zy6 h2 h2' sub sub' (hW.erase x) le len i2]
theorem xd1 {n:Nat}{W:List Nat}{S:List (List Nat)}(hS:∀s∈S,IsT n s)(hO:∀s∈S,Only n W s)(hW:W.Nodup)(hlt:∀x∈W,x<n):Few n S (fac W.length):=λL hL hG=>by
 have hT:∀t∈L,IsT n t:=λt ht=>(hG t ht).isT hS
 have hO:∀t∈L,Only n W t:=λt ht=>Only.grp hS hO (hG t ht)
 have nd:∀t∈L,(W.map λx=>t.getD x 0).Nodup:=λt ht=>ba.mpr (List.Pairwise.imp_of_mem (λ{a b} ha hb hab e=>hab ((hT t ht).inj ((hT t ht).get_step (hlt a ha)) (e ▸ (hT t ht).get_step (hlt b hb)))) hW)
 have sub:∀t∈L,∀y∈W.map (λx=>t.getD x 0),y∈W:=λt ht y hy=>by
  obtain ⟨x,hx,rfl⟩:=aw.mp hy
  exact (hO t ht).stay (hT t ht) hlt hx
 have h1:(L.map λt=>zy5 W (W.map λx=>t.getD x 0)).Nodup:=ba.mpr (List.Pairwise.imp_of_mem (λ{t u} ht hu hne z=>hne (by
  have e:=zy6 (nd t ht) (nd u hu) (sub t ht) (sub u hu) hW (by rw [ae]) (by rw [ae,ae]) z
  refine Y9 (hT t ht) (hT u hu) λx hx=>?_
  by_cases hw:x∈W
  ·exact List.map_inj_left.mp e x hw
  ·rw [hO t ht x hx hw,hO u hu x hx hw])) hL)
 have h2:=nodup_below (M:=fac W.length) h1 λx hx=>by
  obtain ⟨t,ht,rfl⟩:=aw.mp hx
  have:=zh7 (nd t ht) (sub t ht) hW (by rw [ae])
  rwa [ae] at this
 rwa [ae] at h2
theorem xj4:∀{k:Nat},k<=6->fac k<=720:=λ{k} h=>by
 have:k=0∨k=1∨k=2∨k=3∨k=4∨k=5∨k=6:=by lia
 rcases this with h|h|h|h|h|h|h <;> rw [h] <;> decide
theorem few6 {n:Nat}{W:List Nat}{S:List (List Nat)}(hS:∀s∈S,IsT n s)(hO:∀s∈S,Only n W s)(hW:W.Nodup)(hlt:∀x∈W,x<n)(h6:W.length<=6):Few n S 1000:=(xd1 hS hO hW hlt).more (aB (xj4 h6) (by decide))
theorem few15 {n:Nat}{t:List Nat}(hT:IsT n t)(hn:n<=15):Few n [t] 1000:=by
 refine yg5 (D:=(List.range (ord t)).map λ(k:Nat)=>pwT t (k:Int)) (λx hx=>?_) (by rw [ae,aA];exact aB (hT.ord_le hn) (by decide))
 obtain ⟨m,rfl⟩:=(hT.grp_one (Grp.of (λs hs=>by rw [ah.mp hs];exact hT) (ah.mpr rfl)) (λs hs=>.inl (ah.mp hs)) x).mp hx
 have h0:=hT.ord_pos
 have h1:=br m (show (ord t:Int)≠0 by lia)
 have h2:=bV m (show (0:Int)<(ord t:Int) by lia)
 refine aw.mpr ⟨(m % (ord t:Int)).toNat,aH.mpr (by lia),?_⟩
 rw [bJ h1]
 exact hT.pwT_mod m
def HasN (n:Nat)(S:List (List Nat))(k:Nat):Prop:=∃L:List (List Nat),L.Nodup/\(∀x,x∈L↔Grp n (λz=>z∈S) x)/\L.length=k
theorem yl6 {n k m:Nat}{V W:List Nat}{S T:List (List Nat)}(hS:∀s∈S,IsT n s)(hT:∀s∈T,IsT n s)(oS:∀s∈S,Only n V s)(oT:∀s∈T,Only n W s)(hV:∀x∈V,x<n)(hW:∀x∈W,x<n)(dj:∀x∈V,x∉W)(a:HasN n S k)(b:HasN n T m):HasN n (S++T) (k*m):=by
 obtain ⟨L,nL,mL,lL⟩:=a
 obtain ⟨M,nM,mM,lM⟩:=b
 have LT:∀x∈L,IsT n x:=λx hx=>((mL x).mp hx).isT hS
 have MT:∀x∈M,IsT n x:=λx hx=>((mM x).mp hx).isT hT
 have LO:∀x∈L,Only n V x:=λx hx=>Only.grp hS oS ((mL x).mp hx)
 have MO:∀x∈M,Only n W x:=λx hx=>Only.grp hT oT ((mM x).mp hx)
 have hST:∀s∈S++T,IsT n s:=λs hs=>(aE.mp hs).elim (hS s) (hT s)
 have onV:∀{x y z:List Nat} {p:Nat},x∈L->y∈M->p∈V->(beh x y).getD p 0=x.getD p 0:=λhx hy hp=>by
  have h2:=(LO _ hx).stay (LT _ hx) hV hp
  rw [beh_get (LT _ hx) (hV _ hp),MO _ hy _ (hV _ h2) (dj _ h2)]
 have onW:∀{x y z:List Nat} {p:Nat},x∈L->y∈M->p<n->p∉V->(beh x y).getD p 0=y.getD p 0:=λhx hy hp hn=>by
  rw [beh_get (LT _ hx) hp,LO _ hx _ hp hn]
 have inj:∀x∈L,∀x'∈L,∀y∈M,∀y'∈M,beh x y=beh x' y'->x=x'/\y=y':=λx hx x' hx' y hy y' hy' e=>by
  refine ⟨Y9 (LT x hx) (LT x' hx') λp hp=>?_,Y9 (MT y hy) (MT y' hy') λp hp=>?_⟩
  ·by_cases hv:p∈V
   ·rw [←onV (z:=[]) hx hy hv,e,onV (z:=[]) hx' hy' hv]
   ·rw [LO x hx p hp hv,LO x' hx' p hp hv]
  ·by_cases hv:p∈V
   ·rw [MO y hy p hp (dj p hv),MO y' hy' p hp (dj p hv)]
   ·rw [←onW (z:=[]) hx hy hp hv,e,onW (z:=[]) hx' hy' hp hv]
 refine ⟨L.flatMap λx=>M.map λy=>beh x y,B5 _ L nL (λx hx=>ba.mpr (List.Pairwise.imp_of_mem (λ{y y'} hy hy' hne e=>hne (inj x hx x hx y hy y' hy' e).2) nM)) (λx hx x' hx' hne z hz hz'=>?_),?_,by rw [ya9 _ M.length L λx _=>ae ..,lL,lM]⟩
 ·obtain ⟨y,hy,rfl⟩:=aw.mp hz
  obtain ⟨y',hy',e⟩:=aw.mp hz'
  exact hne (inj x hx x' hx' y hy y' hy' e.symm).1
 have mem:∀{x y:List Nat},x∈L->y∈M->beh x y∈L.flatMap λx=>M.map λy=>beh x y:=λ{x y} hx hy=>bG.mpr ⟨x,hx,aw.mpr ⟨y,hy,rfl⟩⟩
 have up:∀{x:List Nat},Grp n (λz=>z∈S) x->Grp n (λz=>z∈S++T) x:=λh=>Grp.mono hST (λs hs=>Grp.of hST (aJ _ hs)) h
 have up':∀{x:List Nat},Grp n (λz=>z∈T) x->Grp n (λz=>z∈S++T) x:=λh=>Grp.mono hST (λs hs=>Grp.of hST (aD _ hs)) h
 refine grp_closed hST (B5 _ L nL (λx hx=>ba.mpr (List.Pairwise.imp_of_mem (λ{y y'} hy hy' hne e=>hne (inj x hx x hx y hy y' hy' e).2) nM)) (λx hx x' hx' hne z hz hz'=>?_)) ?_ (λz hz=>?_) (λz hz s hs=>?_)
 ·obtain ⟨y,hy,rfl⟩:=aw.mp hz
  obtain ⟨y',hy',e⟩:=aw.mp hz'
  exact hne (inj x hx x' hx' y hy y' hy' e.symm).1
 ·have:=mem ((mL _).mpr .one) ((mM _).mpr .one)
  rwa [beh_still (IsT.range n)] at this
 ·obtain ⟨x,hx,hz⟩:=bG.mp hz
  obtain ⟨y,hy,rfl⟩:=aw.mp hz
  exact Grp.beh hST (up ((mL x).mp hx)) (up' ((mM y).mp hy))
 ·obtain ⟨x,hx,hz⟩:=bG.mp hz
  obtain ⟨y,hy,rfl⟩:=aw.mp hz
  rcases aE.mp hs with q|q
  ·have sT:=hS s q
   rw [u9 (LT x hx) (MT y hy) sT,←zi8 sT (MT y hy) hV hW (oS s q) (MO y hy) dj,←u9 (LT x hx) sT (MT y hy)]
   exact mem ((mL _).mpr (.mul ((mL x).mp hx) q)) hy
  ·rw [u9 (LT x hx) (MT y hy) (hT s q)]
   exact mem hx ((mM _).mpr (.mul ((mM y).mp hy) q))
theorem yw0 {n:Nat}{W:List Nat}(hW:W.Nodup)(hlt:∀x∈W,x<n)(h0:0<W.length):HasN n [sp n W (dh W.length 1 1)] W.length:=by
 have hh:=yj9 hW hlt
 have T:∀c:Int,IsT W.length (dh W.length c 1):=λc=>dh_isT h0 c (.inl rfl)
 have hS:∀s∈[sp n W (dh W.length 1 1)],IsT n s:=λs hs=>by rw [ah.mp hs];exact N8 hW hlt (T 1)
 have nd:((List.range W.length).map λ(k:Nat)=>sp n W (dh W.length (k:Int) 1)).Nodup:=ba.mpr (List.Pairwise.imp_of_mem (λ{a b} ha hb hab e=>hab (by
  have e:=congrArg (λt=>t.getD 0 0) (hh.inj _ _ (T a) (T b) e)
  have ha:=aH.mp ha
  have hb:=aH.mp hb
  rw [yg4 h0 _ _ h0,yg4 h0 _ _ h0,Int.emod_eq_of_lt (by lia) (by lia),Int.emod_eq_of_lt (by lia) (by lia)] at e
  lia)) bQ)
 have step:∀c:Int,beh (sp n W (dh W.length c 1)) (sp n W (dh W.length 1 1))=sp n W (dh W.length (c+1) 1):=λc=>by
  rw [←hh.two _ _ (T c) (T 1),zj7 h0,ft,ft,Int.add_comm]
 have hG:∀k:Nat,Grp n (λz=>z∈[sp n W (dh W.length 1 1)]) (sp n W (dh W.length (k:Int) 1)):=λk=>by
  induction k with
  | zero =>
   have e:sp n W (dh W.length ((0:Nat):Int) 1)=List.range n:=by rw [←hh.one];exact congrArg _ (zj8 h0)
   rw [e]
   exact .one
  | succ k ih =>
   have:=Grp.mul ih (ah.mpr rfl)
   rw [step] at this
   exact this
 refine ⟨_,nd,grp_closed hS nd ?_ (λx hx=>?_) (λx hx s hs=>?_),by rw [ae,aA]⟩
 ·exact aw.mpr ⟨0,aH.mpr h0,by rw [←hh.one];exact congrArg _ (zj8 h0)⟩
 ·obtain ⟨k,_,rfl⟩:=aw.mp hx
  exact hG k
 ·obtain ⟨k,hk,rfl⟩:=aw.mp hx
  rw [ah.mp hs,step,yu6 h0]
  have h1:=br ((k:Int)+1) (show ((W.length:Nat):Int)≠0 by lia)
  have h2:=bV ((k:Int)+1) (show (0:Int)<((W.length:Nat):Int) by lia)
  exact aw.mpr ⟨(((k:Int)+1) % (W.length:Int)).toNat,aH.mpr (by lia),by rw [bJ h1]⟩
theorem HasN.uniq {n k:Nat}{S L:List (List Nat)}(h:HasN n S k)(hL:L.Nodup)(m:∀x,x∈L↔Grp n (λz=>z∈S) x):L.length=k:=by
 obtain ⟨M,nM,mM,rfl⟩:=h
 exact cp (zl0 hL λy hy=>(mM y).mpr ((m y).mp hy)) (zl0 nM λy hy=>(m y).mpr ((mM y).mp hy))
theorem has_three {n a b c:Nat}{W:List Nat}(hW:W.Nodup)(hlt:∀x∈W,x<n)(e:W.length=a+b+c)(ha:0<a)(hb:0<b)(hc:0<c):HasN n [sp n (W.take a) (dh a 1 1),sp n ((W.drop a).take b) (dh b 1 1),sp n (((W.drop a).drop b).take c) (dh c 1 1)] (a*(b*c)):=by
 have one:∀{V:List Nat} {k:Nat},V.Sublist W->V.length=k->0<k->HasN n [sp n V (dh k 1 1)] k/\(∀s∈[sp n V (dh k 1 1)],IsT n s)/\(∀s∈[sp n V (dh k 1 1)],Only n V s)/\(∀x∈V,x<n):=λ{V k} hs hl hk=>by
  subst hl
  have nV:=List.Nodup.sublist hs hW
  have lV:∀x∈V,x<n:=λx hx=>hlt x (hs.subset hx)
  have T:=dh_isT hk 1 (.inl rfl)
  exact ⟨yw0 nV lV hk,λs hs=>by rw [ah.mp hs];exact N8 nV lV T,λs hs=>by rw [ah.mp hs];exact zx5 nV lV T,lV⟩
 obtain ⟨a1,a2,a3,a4⟩:=one (bB a W) (by rw [aT];lia) ha
 obtain ⟨b1,b2,b3,b4⟩:=one (V:=(W.drop a).take b) ((bB _ _).trans (cq _ _)) (by rw [aT,be];lia) hb
 obtain ⟨c1,c2,c3,c4⟩:=one (V:=((W.drop a).drop b).take c) ((bB _ _).trans ((cq _ _).trans (cq _ _))) (by rw [aT,be,be];lia) hc
 have apart:∀{V:List Nat} {k:Nat},V.Nodup->∀x∈V.take k,x∉V.drop k:=λ{V k} hV x h1 h2=>by
  rw [←bA k V] at hV
  exact (bj.mp hV).2.2 x h1 x h2 rfl
 have nd:=List.Nodup.sublist (cq a W) hW
 have bc:=yl6 b2 c2 b3 c3 b4 c4 (λx h1 h2=>apart nd x h1 (bh h2)) b1 c1
 refine yl6 a2 (λs hs=>?_) a3 (W:=W.drop a) (λs hs=>?_) a4 (λx hx=>hlt x (dE hx)) (apart hW) a1 bc
 ·exact (aE.mp hs).elim (b2 s) (c2 s)
 ·exact (aE.mp hs).elim (λh=>(b3 s h).more λx hx=>bh hx) (λh=>(c3 s h).more λx hx=>dE (bh hx))
end TM
namespace Tb
open PySem PySem.StrLaws PySem.Builtin PySem.Builtin.Str
theorem zu0 (a:Str):a.cps.toList.length=a.length:=by simp [Str.length]
theorem at_of {x y:Str}{a:Nat}{u v:List Nat}(hx:x.cps.toList.drop a=u++y.cps.toList++v)(ha:a<=x.length):At x y x.length (a+u.length):=by
 have hl:=congrArg List.length hx
 rw [be,aq,aq,zu0,zu0] at hl
 refine ⟨by lia,?_⟩
 rw [subAt_eq]
 have e:x.cps.toList.drop (a+u.length)=y.cps.toList++v:=by
  rw [←eV,hx,bD,List.drop_left]
 rw [e,←zu0 y,List.take_left]
 simp
end Tb
namespace Tb
open PySem
def sC:Str:=","
def grow (a:Str)(ys:List Str):Str:=ys.foldl (λa y=>a++sC++y) a
end Tb
namespace Tb
open PySem PySem.StrLaws PySem.Builtin PySem.Builtin.Str
end Tb
namespace Tb
open PySem PySem.StrLaws PySem.Builtin PySem.Builtin.Str
end Tb
namespace Tb
open PySem PySem.StrLaws PySem.Builtin PySem.Builtin.Str
end Tb
namespace Tb
open PySem L2
def tI (t:List Nat):List V:=t.map λ(x:Nat)=>V.int x
theorem u5 (t:List Nat):(tI t).length=t.length:=ae _
theorem zx8 (t:List Nat)(i:Nat):(tI t)[i]?=(t[i]?).map λ(x:Nat)=>V.int x:=ag ..
theorem D6 {t:List Nat}{i:Nat}{x:V}(h:(tI t)[i]?=some x):∃p,t[i]?=some p/\x=V.int p:=by
 rw [zx8] at h
 cases q:t[i]? with
 | none=>rw [q] at h;cases h
 | some p=>rw [q] at h;exact ⟨p,rfl,(Option.some.inj h).symm⟩
theorem xi5 {t:List Nat}{i p:Nat}(h:t[i]?=some p):(tI t)[i]?=some (V.int p):=by rw [zx8,h];rfl
theorem O6 {t:List Nat}{i p:Nat}(h:t[i]?=some p):atI (tI t) ((i:Nat):Int)=some (V.int p):=i4 (xi5 h)
theorem zf4 (s t:List Nat):tI (s++t)=tI s++tI t:=aV
theorem ye7:∀(t:List Nat) (i:Nat),(tI t).eraseIdx i=tI (t.eraseIdx i)
 | [],_=>rfl
 | _::_,0=>rfl
 | a::r,i+1=>by
  have ih:=ye7 r i
  show V.int a::(tI r).eraseIdx i=V.int a::tI (r.eraseIdx i)
  rw [ih]
theorem zf5:∀(t:List Nat) (i x:Nat),(tI t).set i (V.int x)=tI (t.set i x)
 | [],_,_=>rfl
 | _::_,0,_=>rfl
 | a::r,i+1,x=>by
  have ih:=zf5 r i x
  show V.int a::(tI r).set i (V.int x)=V.int a::tI (r.set i x)
  rw [ih]
theorem U3 (n:Nat):X7 0 n=tI (List.range n):=by
 unfold X7 tI
 apply bg
 intro x _
 rw [fU]
theorem small {n:Nat}(h:n<=1000):n<=sizeLine:=bu (zr8 h)
theorem za4 {n i:Nat}(h:i<n):ixN n ((i:Nat):Int)=some i:=by
 unfold ixN
 rw [if_pos (Int.natCast_nonneg i),if_pos (by lia)]
 rfl
theorem xg2 {n i:Nat}(h:i<n):seqIndex? ((i:Nat):Int) n=some i:=(zt7 (za4 h)).1
theorem y8 {H:Hp}{p:Addr}(h:H p=none)(o:HO):y4 H (upd H p o):=λb u q=>by rw [z7 (y0 q h)];exact q
theorem p0 {H H':Hp}{p:Addr}(s:y4 H H')(h:H p=none)(o:HO):y4 H (upd H' p o):=λb u q=>by rw [z7 (y0 q h)];exact s b u q
def d9 (T U:String):Option Bool:=if (Value.type T==Value.type U)=true then some true else if W.kitMeta U=true then (PySem.fastBuiltinMro T).map (·.contains (Value.type U)) else none
theorem M8 {K:W.Frag}{T U:String}{b:Bool}(h:d9 T U=some b):W.kitOne K (.type T) (.type U)=some b:=h
theorem yh2:d9 "int" "int"=some true:=by decide +kernel
theorem ya4:d9 "int" "bool"=some false:=by decide +kernel
theorem za5:d9 "list" "list"=some true:=by decide +kernel
theorem o7 {i j:Int}:decide (V.int i=V.int j)=decide (i=j):=decide_eq_decide.mpr ⟨λz=>by injection z,λz=>by rw [z]⟩
theorem zk9:d9 "tuple" "tuple"=some true:=by decide +kernel
structure Blt (mg:Str->Option Value):Prop where
 len:mg "len"=none
 range:mg "range"=none
 list:mg "list"=none
 tuple:mg "tuple"=none
 isinstance:mg "isinstance"=none
 int:mg "int"=none
 bool:mg "bool"=none
 str:mg "str"=none
 enumerate:mg "enumerate"=none
 sorted:mg "sorted"=none
 sum:mg "sum"=none
 all:mg "all"=none
 set:mg "set"=none
 reversed:mg "reversed"=none
 divmod:mg "divmod"=none
 max:mg "max"=none
 min:mg "min"=none
theorem g7:bootBuiltins "len"=some (.builtin "len"):=by decide +kernel
theorem X9:bootBuiltins "range"=some (.type "range"):=by decide +kernel
theorem Y7:bootBuiltins "list"=some (.type "list"):=by decide +kernel
theorem Z6:bootBuiltins "tuple"=some (.type "tuple"):=by decide +kernel
theorem i5:bootBuiltins "isinstance"=some (.builtin "isinstance"):=by decide +kernel
theorem yu1:bootBuiltins "int"=some (.type "int"):=by decide +kernel
theorem yk7:bootBuiltins "bool"=some (.type "bool"):=by decide +kernel
theorem zd6:bootBuiltins "sorted"=some (.builtin "sorted"):=by decide +kernel
theorem xj2:bootBuiltins "sum"=some (.builtin "sum"):=by decide +kernel
theorem yf8:bootBuiltins "all"=some (.builtin "all"):=by decide +kernel
def zg8 (mg:Str->Option Value)(x:Str)(v:V):Prop:=∃u,mg x=some u/\o6 v u
theorem zb7 {X:Cx}{x:Str}{v:V}{pos:Pos}(g:zg8 X.mg x v)(hg:Gl X x)(hd:(x==("__debug__":Str))=false:=by decide):PE X (.Name x pos) (tC v):=by
 obtain ⟨u,hm,r⟩:=g
 exact ym5 hg hm r hd
def r8 (P:Program)(w:World)(K:W.Frag)(mg:Str->Option Value)(base:Heap)(k:Nat)(x:Str)(ps:List Str)(sp:Sp):Prop :=
 ∃f fd,p6 P w K mg base CX0 k f fd ps sp/\W.keepIn K (.ref f)=true/\mg x=some (.ref f)/\O2 K fd ps []
structure Def (K:W.Frag) (mg:Str->Option Value) (x:Str) (st:Stmt) (ps:List Str) (f:Addr) (fd:FuncData):Prop where
 F:Fun K x x st f fd
 b:O2 K fd ps []
 m:mg x=some (.ref f)
theorem Def.known {P:Program}{w:World}{K:W.Frag}{mg:Str->Option Value}{base:Heap}{x:Str}{st:Stmt}{ps:List Str}{f:Addr}{fd:FuncData}{k:Nat}{sp:Sp}(D:Def K mg x st ps f fd)(G:p6 P w K mg base CX0 k f fd ps sp):r8 P w K mg base k x ps sp :=
 ⟨f,fd,G,D.F.kp,D.m,D.b⟩
section
variable {X:Cx}{x:Str}{p pos:Pos}{e:Expr}{es:List Expr}{t:TA}{ps:List Str}{sp:Sp}{k j:Nat}
theorem u4 (kn:r8 X.prog X.w X.K X.mg X.base k x ps sp)(hr:X8 j X.A)(hg:Gl X x)(ha:PA X (e::es) t)(hj:k<=j:=by decide)(hdb:(x==("__debug__":Str))=false:=by decide)
  (he:starEach (e::es) X.env=(false,eval e X.env)::starEach es X.env:=by rfl) (hpl:(backTo pos (starEach es X.env)).any (·.1)=false:=by rfl):PE X (.Call (.Name x p) (e::es) [] pos) (xi4 sp [] E0 t):=by
 obtain ⟨f,fd,G,hk,hm,hb⟩:=kn
 exact xe8 G (hr.mono hj) hg hm hk hb .nil ym4 ha hdb he hpl
end
theorem zb6 {t1 u:TS}{D:J3}{σ:St}{H:Hp}(Pv:St->Hp->Prop)(hu:∀σ H,Pv σ H->u D σ H)(h:∀N:St->Hp->Prop,(∀σ H,Pv σ H->N σ H)->t1 { D with nx:=N } σ H):xb4 t1 u D σ H :=
 h (λσ H=>u D σ H) hu
theorem yo3 (t:List Nat):tI t=(t.map λ(x:Nat)=>(x:Int)).map V.int:=by
 unfold tI
 rw [bC]
 rfl
def yn5 (K:W.Frag):Sp:=λvs H Q _=>∃(a:Addr) (ns:List Int),vs=[.ref a]/\SqL K H a (ns.map V.int)/\ns.length<=63/\(∀z∈ns,Builtin.Int.intBits z<=2 ^ 20)/\∀H',Q (.bl true) H'
theorem walk {l:W.OpenLaw}{q:Program}{loose:List Str}{XP:(Str->Option Value)->Heap->Prop}{YP:World->Heap->Prop}{d:DefRec}{K:Params->W.Frag}{k:Nat}{x:Str}(hn:l.most=some 63)(hdf:d.params.defaults=[])(hr:X8 k callerA)
  (hY:∀(w:World) (h:Heap),YP w h->(K w.params).In h)
  (F:∀(w:World) (mg:Str->Option Value) (fa:Addr) (h:Heap),(K w.params).In h->h.Ns mainGlobals mg->mg d.name=some (.ref fa) ->
   ∃fd:FuncData,(∀(s:Shared) (u:Value),BindsTo s fd ⟨[u],[]⟩ [(x,u)])/\∀base:Heap,(K w.params).In base->base.Ns mainGlobals mg->p6 l.prog w (K w.params) mg base CX0 k fa fd [x] (yn5 (K w.params))) :
  W.WalkO q loose XP YP l.row.toRowW d [] (λf vs=>PySem.call f vs) :=
 L2.walk_ofB (n:=63) (k:=k) (x:=x) (CX:=CX0) (sp:=yn5) hn (by decide) hdf hr hY F (λ_ _ a ns hl hb _ hS=>⟨a,ns,rfl,hS,hl,hb,λ_=>rfl⟩) λ_ _ _ _ z=>z
def lnV:TM.Ln->List V
 | .still=>[.str "still"]
 | .told k=>[.str "told",.int k]
 | .behind i j=>[.str "behind",.int i,.int j]
 | .back i=>[.str "back",.int i]
def zi6 (H:Hp)(as:List Addr)(ls:List TM.Ln):Prop:=Paired (λa l=>H a=some (.tup (lnV l))) as ls
def Z5 (H:Hp)(as:List Addr)(ts:List (List Nat)):Prop:=Paired (λa t=>H a=some (.tup (tI t))) as ts
theorem zi6.same {H H':Hp}{as:List Addr}{ls:List TM.Ln}(h:zi6 H as ls)(s:y4 H H'):zi6 H' as ls:=Paired.imp' (λ_ _ e=>s _ _ e) h
theorem Z5.same {H H':Hp}{as:List Addr}{ls:List (List Nat)}(h:Z5 H as ls)(s:y4 H H'):Z5 H' as ls:=Paired.imp' (λ_ _ e=>s _ _ e) h
theorem X0 {α β:Type}{F:α->β->Prop}:∀{as:List α} {bs:List β},Paired F as bs->∀(i:Nat) (b:β),bs[i]?=some b->∃a,as[i]?=some a/\F a b
 | _,_,.nil,i,b,h=>by cases i <;> cases h
 | _,_,.cons f _,0,b,h=>by
  cases h
  exact ⟨_,rfl,f⟩
 | _,_,.cons _ r,i+1,b,h=>by
  obtain ⟨a,ha,f⟩:=X0 r i b (by simpa using h)
  exact ⟨a,by simpa using ha,f⟩
theorem o0 {α β:Type}{F:α->β->Prop}:∀{as:List α} {bs:List β},Paired F as bs->∀(i:Nat) (a:α),as[i]?=some a->∃b,bs[i]?=some b/\F a b
 | _,_,.nil,i,a,h=>by cases i <;> cases h
 | _,_,.cons f _,0,a,h=>by
  cases h
  exact ⟨_,rfl,f⟩
 | _,_,.cons _ r,i+1,a,h=>by
  obtain ⟨b,hb,f⟩:=o0 r i a (by simpa using h)
  exact ⟨b,by simpa using hb,f⟩
theorem zb9 {as:List Addr}{i:Nat}{y:V}(h:(as.map V.ref)[i]?=some y):∃b,as[i]?=some b/\y=V.ref b:=by
 rw [ag] at h
 cases e:as[i]? with
 | none=>rw [e] at h;cases h
 | some b=>rw [e] at h;exact ⟨b,rfl,(Option.some.inj h).symm⟩
end Tb
namespace Tb
open PySem L2
def top (i:Nat):Stmt:=PySem.Challenge.pw_turnbase_k40_whole_small_groups.main.body.getD i (.Pass ⟨0,0,0,0⟩)
abbrev A1:Stmt:=top 3
abbrev K3:Stmt:=top 4
abbrev Q3:Stmt:=top 5
abbrev zw9:Stmt:=top 6
abbrev zm9:Stmt:=top 7
abbrev yj1:Stmt:=top 8
abbrev K4:Stmt:=top 23
abbrev F7:Stmt:=top 26
abbrev K2:Stmt:=top 27
abbrev N3:Stmt:=top 28
abbrev P7:Stmt:=top 29
abbrev E2:Stmt:=top 30
abbrev N6:Stmt:=top 31
abbrev N5:Stmt:=top 32
abbrev F9:Stmt:=top 33
abbrev K0:Stmt:=top 34
abbrev N4:Stmt:=top 35
abbrev K1:Stmt:=top 36
abbrev B9:Stmt:=top 37
abbrev E1:Stmt:=top 38
abbrev Q7:Stmt:=top 39
abbrev Q8:Stmt:=top 40
abbrev zg5:Stmt:=top 41
def Y2 (i j:Nat):Stmt:=match top i with | .ClassDef _ _ _ b _ _ _ _ _ _ _=>b.getD j (.Pass ⟨0,0,0,0⟩)|s=>s
abbrev R8:Stmt:=Y2 11 0
abbrev B8:Stmt:=Y2 11 1
abbrev V9:Stmt:=Y2 11 2
abbrev W2:Stmt:=Y2 11 3
abbrev Q0:Stmt:=Y2 12 0
abbrev T5:Stmt:=Y2 12 1
abbrev X4:Stmt:=Y2 12 2
abbrev T4:Stmt:=Y2 12 3
abbrev U9:Stmt:=Y2 13 0
abbrev U0:Stmt:=Y2 13 4
abbrev N2:Stmt:=Y2 13 5
abbrev b7:Stmt:=Y2 13 3
abbrev P5:Stmt:=Y2 13 2
abbrev L8:Stmt:=Y2 13 1
abbrev L7:Stmt:=Y2 13 8
abbrev T0:Stmt:=Y2 24 0
abbrev L9:Stmt:=Y2 24 3
abbrev R5:Stmt:=Y2 24 8
abbrev Z4:Stmt:=Y2 13 6
abbrev W8:Stmt:=Y2 13 7
abbrev R9:Stmt:=Y2 24 9
abbrev F6:Stmt:=Y2 24 11
abbrev T3:Stmt:=Y2 24 12
abbrev P6:Stmt:=Y2 24 13
section
variable {P:Program}{w:World}{K:W.Frag}{mg:Str->Option Value}{base:Heap}{f:Addr}{fd:FuncData}
def xk0:PyData->Bool
 | .int _=>true
 | .bool _=>true
 | _=>false
def xd5:PyData->Bool
 | .bool _=>true
 | _=>false
def xk1:PyData->Bool
 | .tuple _=>true
 | _=>false
def isW:PyData->Bool
 | .int _=>true
 | _=>false
theorem xk6:∀d:PyData,d9 (tyD d) "int"=some (xk0 d)
 | .none=>(by decide +kernel:d9 "NoneType" "int"=some false)
 | .bool _=>(by decide +kernel:d9 "bool" "int"=some true)
 | .int _=>(by decide +kernel:d9 "int" "int"=some true)
 | .str _=>(by decide +kernel:d9 "str" "int"=some false)
 | .list _=>(by decide +kernel:d9 "list" "int"=some false)
 | .tuple _=>(by decide +kernel:d9 "tuple" "int"=some false)
 | .dict _=>(by decide +kernel:d9 "dict" "int"=some false)
theorem ym1:∀d:PyData,d9 (tyD d) "bool"=some (xd5 d)
 | .none=>(by decide +kernel:d9 "NoneType" "bool"=some false)
 | .bool _=>(by decide +kernel:d9 "bool" "bool"=some true)
 | .int _=>(by decide +kernel:d9 "int" "bool"=some false)
 | .str _=>(by decide +kernel:d9 "str" "bool"=some false)
 | .list _=>(by decide +kernel:d9 "list" "bool"=some false)
 | .tuple _=>(by decide +kernel:d9 "tuple" "bool"=some false)
 | .dict _=>(by decide +kernel:d9 "dict" "bool"=some false)
theorem xk7:∀d:PyData,d9 (tyD d) "tuple"=some (xk1 d)
 | .none=>(by decide +kernel:d9 "NoneType" "tuple"=some false)
 | .bool _=>(by decide +kernel:d9 "bool" "tuple"=some false)
 | .int _=>(by decide +kernel:d9 "int" "tuple"=some false)
 | .str _=>(by decide +kernel:d9 "str" "tuple"=some false)
 | .list _=>(by decide +kernel:d9 "list" "tuple"=some false)
 | .tuple _=>(by decide +kernel:d9 "tuple" "tuple"=some true)
 | .dict _=>(by decide +kernel:d9 "dict" "tuple"=some false)
theorem scq {N P:List Str}{sc:Scope}(a:sc.kind=.function:=by rfl)(b:sc.isCoroutine=false:=by rfl)(c:sc.isGenerator=false:=by rfl)(d:N.Nodup:=by decide +kernel)(e:N.take P.length=P:=by rfl)(f:∀x∈P,sc.names.lookup x=some .local∨sc.names.lookup x=some .cell:=by decide +kernel)(g:∀y∈sc.names,y.2≠.free:=by decide +kernel):v1 N P sc:=⟨a,b,c,d,e,f,g⟩
theorem yd7:v1 ["thing"] ["thing"] (y6 A1):=scq
def zd1:Sp:=λvs H Q _=>∃(x:V) (d:PyData),vs=[x]/\Dt H x d/\Q (.bl (isW d)) H
theorem yc0 (D:Def K mg "is_whole" A1 ["thing"] f fd) (B:Blt mg):p6 P w K mg base CX0 1 f fd ["thing"] zd1:=by
 refine D.F.ok yd7 (λvs H Q E h=>?_) (λcdv A outer s H vs Q E hr h=>?_)
 ·obtain ⟨x,d,rfl,_⟩:=h
  rfl
 obtain ⟨x,d,rfl,hd,q⟩:=h
 refine ⟨_,z9 (v7 (L3 (v8 Z2 rfl B.isinstance i5 (z0 (pv 0) (z0 (O4 (v:=.ty "int") rfl B.int yu1 rfl) z4)))
  (G7 (yy8 (v8 Z2 rfl B.isinstance i5 (z0 (pv 0) (z0 (O4 (v:=.ty "bool") rfl B.bool yk7 rfl) z4))))))),?_⟩
 refine ⟨_,rfl,_,_,_,_,rfl,hd.ty,M8 (xk6 d),_,rfl,?_⟩
 cases d with
 | int i=>exact b6 ⟨_,rfl,_,_,_,_,rfl,hd.ty,M8 (ym1 _),_,rfl,q⟩
 | bool b=>exact b6 ⟨_,rfl,_,_,_,_,rfl,hd.ty,M8 (ym1 _),_,rfl,q⟩
 | none=>exact k9 q
 | str _=>exact k9 q
 | list _=>exact k9 q
 | tuple _=>exact k9 q
 | dict _=>exact k9 q
def C6:List PyData->List Int
 | .int i::r=>i::C6 r
 | _::r=>C6 r
 | []=>[]
def yn1 (l:List Int):List Int:=l.mergeSort λa b=>decide (a<=b)
theorem yd9 {l m:List Int}(p:m.Perm l)(h:m.Pairwise (·<=·)):m=yn1 l:=by
 refine List.Perm.eq_of_pairwise (λa b _ _ h1 h2=>eT h1 h2) h ?_ (p.trans (List.mergeSort_perm l _).symm)
 exact (List.pairwise_mergeSort (le:=λa b:Int=>decide (a<=b)) (λa b c h1 h2=>decide_eq_true (ci (of_decide_eq_true h1) (of_decide_eq_true h2))) (λa b=>by
  show (decide (a<=b) || decide (b<=a))=true
  rw [fJ,decide_eq_true_eq,decide_eq_true_eq]
  exact Int.le_total a b) l).imp λh=>of_decide_eq_true h
def yd4 (n:Nat):List Int:=(List.range n).map λ(i:Nat)=>(i:Int)
theorem xm6 (n:Nat):tI (List.range n)=(yd4 n).map V.int:=yo3 _
theorem G2:∀(ms rs:List Int),PyData.eqvAll (ms.map PyData.int) (rs.map PyData.int)=decide (ms=rs)
 | [],[]=>by simp [PyData.eqvAll]
 | [],_::_=>by simp [PyData.eqvAll]
 | _::_,[]=>by simp [PyData.eqvAll]
 | a::as,b::bs=>by
  rw [aR,aR,PyData.eqvAll,G2 as bs]
  by_cases h:a=b
  ·subst h;simp [PyData.eqv]
  ·simp [PyData.eqv,h]
theorem yp8 (ms rs:List Int):PyData.eqv (.list (ms.map PyData.int)) (.list (rs.map PyData.int))=decide (ms=rs):=by rw [PyData.eqv,G2]
theorem ya5:∀ns:List Int,PyData.canLayAll0 (ns.map PyData.int)=true/\PyData.depthAll (ns.map PyData.int)<=1
 | []=>by simp [PyData.canLayAll0,PyData.depthAll]
 | n::r=>by
  obtain ⟨h1,h2⟩:=ya5 r
  refine ⟨by simp [PyData.canLayAll0,PyData.canLay0,h1],?_⟩
  simp only [aR,PyData.depthAll,PyData.depth]
  lia
theorem zg6 (ns:List Int):PySem.SeqAt.shaped (.list (ns.map PyData.int))=true:=by
 obtain ⟨h1,h2⟩:=ya5 ns
 unfold PySem.SeqAt.shaped
 rw [bN]
 refine ⟨by simp only [PyData.canLay0];exact h1,decide_eq_true ?_⟩
 simp only [PyData.depth]
 lia
def d6:PyData->Bool
 | .tuple ds=>(decide (1<=ds.length)&&decide (ds.length<=60))&&(ds.all isW&&decide (yn1 (C6 ds)=yd4 ds.length))
 | _=>false
theorem yl9 {H:Hp}:∀{xs:List V} {ds:List PyData},Dts H xs ds->ds.all isW=true->xs=(C6 ds).map V.int/\(C6 ds).length=ds.length
 | _,_,.nil,_=>⟨rfl,rfl⟩
 | _,_,.cons h r,e=>by
  rw [fg,bN] at e
  obtain ⟨h1,h2⟩:=yl9 r e.2
  cases h with
  | int i=>exact ⟨by rw [h1];rfl,by show (i::C6 _).length=_;rw [az,h2];rfl⟩
  | non=>cases e.1
  | bl _=>cases e.1
  | str _=>cases e.1
  | lst _ _=>cases e.1
  | tup _ _=>cases e.1
  | dct _=>cases e.1
def yo1:Sp:=λvs H Q _=>∃(x:V) (d:PyData),vs=[x]/\Dt H x d/\(∀ds,d=.tuple ds->ds.length<=100)/\∀H':Hp,y4 H H'->Q (.bl (d6 d)) H'
theorem zp7:v1 ["thing"] ["thing"] (y6 K3):=scq
theorem zp1 (D:Def K mg "is_turning" K3 ["thing"] f fd) (B:Blt mg) (KW:r8 P w K mg base 1 "is_whole" ["thing"] zd1) (GM:zg8 mg "MOST_PLACES" (.int 60)):p6 P w K mg base CX0 2 f fd ["thing"] yo1:=by
 refine D.F.ok zp7 (λvs H Q E h=>?_) (λcdv A outer s H vs Q E hr h=>?_)
 ·obtain ⟨x,d,rfl,_⟩:=h
  rfl
 obtain ⟨x,d,rfl,hd,hlen,q⟩:=h
 refine ⟨_,z6 (k8 (PW.pt (J2 (Y0 (Y1 (v8 Z2 rfl B.isinstance i5 (z0 (pv 0) (z0 (O4 (v:=.ty "tuple") rfl B.tuple Z6 rfl) z4))))) (N1 (Y0 (zm6 yc4 yc4 z8 (v8 u6 rfl B.len g7 (z0 (pv 0) z4)) (zb7 GM rfl)))))) (z9 (v7 X6)) u8)
  (z6 (k8 (Y0 (Y1 (v8 (zd7 rfl) rfl B.all yf8 (z0 (f9 [] ["place"] rfl (zw1 (pv 0)) (λ_ _ _ _=>u4 KW hr rfl (z0 (pv 0) z4))) z4)))) (z9 (v7 X6)) u8)
  (z9 (v7 (S9 (zv4 hr.units) (v8 zt3 rfl B.sorted zd6 (z0 (pv 0) z4)) (v9 (c8 rfl) rfl B.list Y7 (z0 (v9 Y8 rfl B.range X9 (z0 (v8 u6 rfl B.len g7 (z0 (pv 0) z4)) z4)) z4)) (p7 _))))),?_⟩
 refine ⟨_,rfl,_,_,_,_,rfl,hd.ty,M8 (xk7 d),_,rfl,?_⟩
 cases hd with
 | non=>exact b6 (q H (y4.refl _))
 | bl b=>exact b6 (q H (y4.refl _))
 | int i=>exact b6 (q H (y4.refl _))
 | str t=>exact b6 (q H (y4.refl _))
 | lst _ _=>exact b6 (q H (y4.refl _))
 | dct _=>exact b6 (q H (y4.refl _))
 | @tup b xs ds hb hs =>
 have hxl:=hs.length
 have hl100:=hlen ds rfl
 refine k9 ⟨_,rfl,b,_,rfl,.inr (SqT.of hb),_,_,rfl,rfl,_,rfl,?_⟩
 by_cases h1:1<=ds.length
 case neg =>
  rw [decide_eq_false (show ¬(1:Int)<=((xs.length:Nat):Int) by lia)]
  refine k9 ⟨_,rfl,b6 ?_⟩
  have e:d6 (.tuple ds)=false:=by simp only [d6];rw [decide_eq_false h1];rfl
  exact e ▸ q H (y4.refl _)
 rw [decide_eq_true (show (1:Int)<=((xs.length:Nat):Int) by lia)]
 refine b6 ⟨_,_,rfl,rfl,_,rfl,?_⟩
 by_cases h2:ds.length<=60
 case neg =>
  rw [decide_eq_false (show ¬((xs.length:Nat):Int)<=(60:Int) by lia)]
  refine b6 ?_
  have e:d6 (.tuple ds)=false:=by simp only [d6];rw [decide_eq_false h2,eX];rfl
  exact e ▸ q H (y4.refl _)
 rw [decide_eq_true (show ((xs.length:Nat):Int)<=(60:Int) by lia)]
 refine k9 ?_
 refine ⟨_,rfl,b,rfl,⟨_,SqT.of hb⟩,A7 (SqT.of hb) ((ds.map isW).map V.bl) (by rw [ae,ae,hxl]) (by rw [hxl];exact small (by lia)) ?_ ?_⟩
 ·intro j H' x hx s' _ _ _ _
  obtain ⟨dj,hdj,hxj⟩:=hs.get hx
  refine ⟨_,rfl,_,dj,rfl,hxj.same s',y4.refl _,?_⟩
  rw [ag,ag,hdj]
  rfl
 intro nm H4 _ s4 hnm
 refine ⟨nm,_,rfl,SqL.of hnm,_,rfl,?_⟩
 have eall:(ds.map isW).all id=ds.all isW:=by rw [fP];rfl
 rw [eall]
 cases hall:ds.all isW with
 | false =>
  have e:d6 (.tuple ds)=false:=by simp only [d6];rw [hall,eW,eX]
  exact b6 (e ▸ q H4 s4)
 | true =>
  refine k9 ?_
  obtain ⟨ex,el⟩:=yl9 hs hall
  have hb4:=s4 _ _ hb
  refine ⟨_,rfl,b,C6 ds,rfl,SqT.of (by rw [←ex];exact hb4),by lia,λl ms hl hp hw=>?_⟩
  have s5:=y8 hl (.lst (ms.map V.int))
  have e5:(upd H4 l (.lst (ms.map V.int))) l=some (.lst (ms.map V.int)):=z5
  generalize upd H4 l (.lst (ms.map V.int))=H5 at s5 e5 ⊢
  refine ⟨_,rfl,b,_,rfl,.inr (SqT.of (s5 _ _ hb4)),_,rfl,λp hp'=>⟨p,0,_,rfl,z5,⟨by lia,by lia,by lia,by lia,by lia⟩,λr hr'=>?_⟩⟩
  have s6:y4 H5 (upd (upd H5 p (.rng 0 ((xs.length:Nat):Int))) r (.lst (X7 0 (((xs.length:Nat):Int)-0).toNat))):=(y8 hp' _).trans (y8 hr' _)
  have e6:(upd (upd H5 p (.rng 0 ((xs.length:Nat):Int))) r (.lst (X7 0 (((xs.length:Nat):Int)-0).toNat))) r=some (.lst ((yd4 ds.length).map V.int)):=by
   rw [z5,show (((xs.length:Nat):Int)-0).toNat=ds.length by lia,U3,xm6]
  generalize upd (upd H5 p (.rng 0 ((xs.length:Nat):Int))) r (.lst (X7 0 (((xs.length:Nat):Int)-0).toNat))=H6 at s6 e6 ⊢
  refine ⟨.list (ms.map PyData.int),.list ((yd4 ds.length).map PyData.int),.lst (SqL.of (s6 _ _ e5)) (J7.ints _),.lst (SqL.of e6) (J7.ints _),zg6 _,zg6 _,?_⟩
  have e:d6 (.tuple ds)=PyData.eqv (.list (ms.map PyData.int)) (.list ((yd4 ds.length).map PyData.int)):=by
   simp only [d6]
   rw [yp8,hall,decide_eq_true h1,decide_eq_true h2,yd9 hp hw]
   rfl
  rw [←e]
  exact q H6 (s4.trans (s5.trans s6))
def O0:Sp:=λvs H Q _=>∃(x:V) (d:PyData) (n:Nat),vs=[x,.int n]/\Dt H x d/\(∀ds,d=.tuple ds->ds.length<=100)/\∀H':Hp,y4 H H'->Q (.bl (d6 d&&match d with | .tuple ds=>decide (ds.length=n)|_=>false)) H'
theorem zf3:v1 ["thing","many"] ["thing","many"] (y6 Q3):=scq
theorem ys9 {d:PyData}(h:d6 d=true):∃ds,d=.tuple ds:=by
 cases d with
 | tuple ds=>exact ⟨ds,rfl⟩
 | _=>cases h
theorem ze7 (D:Def K mg "is_turning_of" Q3 ["thing","many"] f fd) (B:Blt mg) (KT:r8 P w K mg base 2 "is_turning" ["thing"] yo1):p6 P w K mg base CX0 3 f fd ["thing","many"] O0:=by
 refine D.F.ok zf3 (λvs H Q E h=>?_) (λcdv A outer s H vs Q E hr h=>?_)
 ·obtain ⟨x,d,n,rfl,_⟩:=h
  rfl
 obtain ⟨x,d,n,rfl,hd,hl,q⟩:=h
 refine ⟨_,z9 (v7 (L3 (u4 KT hr rfl (z0 (pv 0) z4)) (G7 (S9 O3 (v8 u6 rfl B.len g7 (z0 (pv 0) z4)) (pv 1) (p7 _))))),?_⟩
 refine ⟨_,rfl,x,d,rfl,hd,hl,λH1 s1=>?_⟩
 cases ht:d6 d with
 | false =>
  have:=q H1 s1
  rw [ht,eW] at this
  exact ⟨_,rfl,k9 this⟩
 | true =>
  obtain ⟨ds,rfl⟩:=ys9 ht
  have q':=q H1 s1
  rw [ht,Bool.true_and] at q'
  have hd1:=hd.same s1
  cases hd1 with
  | @tup a xs _ e r =>
   refine ⟨_,rfl,b6 ⟨_,rfl,a,_,rfl,.inr (SqT.of e),_,rfl,rfl,?_⟩⟩
   rw [o7,r.length]
   rw [show decide (((ds.length:Nat):Int)=(n:Int))=decide (ds.length=n) from decide_eq_decide.mpr (by lia)]
   exact q'
def zc9:Sp:=λvs H Q _=>∃n:Nat,vs=[.int n]/\n<=1000/\∀(r:Addr) (H':Hp),H r=none->y4 H H'->H' r=some (.tup (tI (List.range n)))->Q (.ref r) H'
theorem xa2:v1 ["many"] ["many"] (y6 zw9):=scq
theorem yy3 (D:Def K mg "still" zw9 ["many"] f fd) (B:Blt mg):p6 P w K mg base CX0 1 f fd ["many"] zc9:=by
 refine D.F.ok xa2 (λvs H Q E h=>?_) (λcdv A outer s H vs Q E hr h=>?_)
 ·obtain ⟨n,rfl,_⟩:=h
  rfl
 obtain ⟨n,rfl,hn,q⟩:=h
 refine ⟨_,z9 (v7 (v9 (P1 rfl) rfl B.tuple Z6 (z0 (v9 Y8 rfl B.range X9 (z0 (pv 0) z4)) z4))),?_⟩
 refine ⟨_,rfl,_,rfl,λp hp=>⟨p,0,(n:Int),rfl,z5,⟨by omega,by omega,by omega,by omega,by omega⟩,λr hr'=>?_⟩⟩
 rw [show ((n:Int)-0).toNat=n by omega,U3]
 have pr:p≠r:=y0 z5 hr'
 have hr0:H r=none:=by
  have:=hr'
  rwa [z7 (Ne.symm pr)] at this
 exact q r _ hr0 (p0 (y8 hp _) hr0 _) z5
def M2 (K:W.Frag):Sp:=λvs H Q _=>∃(a b:Addr) (one other:List Nat),vs=[.ref a,.ref b]/\SqT K H a (tI one)/\SqT K H b (tI other)/\one.length<=1000/\(∀x∈one,x<other.length) /\
 ∀(r:Addr) (H':Hp),H r=none->y4 H H'->H' r=some (.tup (tI (one.map λx=>other.getD x 0)))->Q (.ref r) H'
theorem ys6:v1 ["one","other"] ["one","other"] (y6 zm9):=scq
theorem yr4 (D:Def K mg "behind" zm9 ["one","other"] f fd) (B:Blt mg):p6 P w K mg base CX0 1 f fd ["one","other"] (M2 K):=by
 refine D.F.ok ys6 (λvs H Q E h=>?_) (λcdv A outer s H vs Q E hr h=>?_)
 ·obtain ⟨a,b,one,other,rfl,_⟩:=h
  rfl
 obtain ⟨a,b,one,other,rfl,ha,hb,hl,hlt,q⟩:=h
 refine ⟨_,z9 (v7 (v9 c9 rfl B.tuple Z6 (z0 (f9 [1] ["place","other"] rfl (zw1 (pv 0)) (λ_ _ _ _=>l9 N0 (pv 1) (pv 0) (λ_ _=>rfl))) z4))),?_⟩
 refine ⟨_,rfl,a,rfl,⟨_,ha⟩,A7 ha (tI (one.map λx=>other.getD x 0)) (by rw [u5,u5,ae]) (by rw [u5];exact small hl) ?_ ?_⟩
 ·intro i H1 x hx s1 _ _ _ _
  obtain ⟨p,hp,rfl⟩:=D6 hx
  have hpl:p<other.length:=hlt p (ax hp)
  have hg:other[p]?=some other[p]:=aa hpl
  refine ⟨_,rfl,_,rfl,b,_,_,_,rfl,rfl,s1.seqT hb,O6 hg,y4.refl _,?_⟩
  rw [zx8,ag,hp]
  simp [ar,hg]
 ·intro Dl H1 hD s1 hl1
  exact ⟨Dl,_,rfl,.inl ⟨SqL.of hl1,λl hl2=>q l _ (s1.free hl2) (p0 s1 (s1.free hl2) _) z5⟩⟩
def yj5 (K:W.Frag):Sp:=λvs H Q _=>∃(a:Addr) (n:Nat) (one:List Nat),vs=[.ref a]/\SqT K H a (tI one)/\TM.IsT n one/\n<=1000 /\
 ∀(r:Addr) (H':Hp) (b:List Nat),H r=none->y4 H H'->TM.Back n one n b->H' r=some (.tup (tI b))->Q (.ref r) H'
theorem zi3:v1 ["one","goes","place","to"] ["one"] (y6 yj1):=scq
theorem xe3 (D:Def K mg "back" yj1 ["one"] f fd) (B:Blt mg):p6 P w K mg base CX0 1 f fd ["one"] (yj5 K):=by
 refine D.F.ok zi3 (λvs H Q E h=>?_) (λcdv A outer s H vs Q E hr h=>?_)
 ·obtain ⟨a,n,one,rfl,_⟩:=h
  rfl
 obtain ⟨a,n,one,rfl,ha,hT,hn,q⟩:=h
 refine ⟨_,z6 (y9 (i:=1) zi3.nd rfl (Or.inl rfl) (v9 Q5 rfl B.list Y7 (z0 (pv 0) z4)))
  (z6 (W7 PassesOwn.never rfl (yc7 rfl B.enumerate (z0 (pv 0) z4)) (yi4 rfl (V7 (m7 (i:=2) zi3.nd rfl (Or.inl rfl)) (V7 (m7 (i:=3) zi3.nd rfl (Or.inl rfl)) zi1)))
   (z9 (zw5 (pv 2) (zv9 (pv 1) (pv 3) zc6))))
  (z9 (v7 (v9 c9 rfl B.tuple Z6 (z0 (pv 1) z4))))),?_⟩
 refine ⟨_,rfl,a,tI one,rfl,.inr ha,λg hg=>?_⟩
 have s0:y4 H (upd H g (.lst (tI one))):=y8 hg _
 refine ⟨_,rfl,a,rfl,⟨_,s0.seqT ha⟩,zz8 (xs:=tI one) (λi σ H2=>∃(b:List Nat) (v2 v3:Option V),σ=[some (.ref a),some (.ref g),v2,v3]/\y4 H H2/\H2 g=some (.lst (tI b))/\TM.Back n one i b)
  ⟨one,none,none,rfl,s0,z5,TM.Back.start hT.length⟩ (λi σ H2 _ ⟨_,_,_,_,s2,_⟩=>s2.seqT ha) ?_ ?_⟩
 ·rintro i x σ H2 T hx ⟨b,v2,v3,rfl,s2,hg2,bk⟩ hT2
  obtain ⟨y,hy,rfl⟩:=D6 hx
  have hTg:g≠T:=y0 hg2 hT2
  have hyn:y<b.length:=by rw [bk.len];exact hT.get_lt hy
  refine ⟨T,_,rfl,SqT.of z5,rfl,_,_,rfl,_,_,rfl,rfl,?_⟩
  refine ⟨_,rfl,_,rfl,_,rfl,g,tI b,_,y,rfl,rfl,by rw [z7 hTg];exact hg2,by rw [u5];exact za4 hyn,?_⟩
  refine ⟨b.set y i,_,_,rfl,p0 (p0 s2 (s2.free hT2) _) hg _,by rw [z5,zf5],bk.step hT hy⟩
 ·rintro σ H2 ⟨b,v2,v3,rfl,s2,hg2,bk⟩
  rw [u5,hT.length] at bk
  exact ⟨_,rfl,g,tI b,rfl,.inl ⟨SqL.of hg2,λl hl=>q l _ b (s2.free hl) (p0 s2 (s2.free hl) _) bk z5⟩⟩
structure h8 (K:W.Frag) (C:Addr) (xs:List Str):Prop where
 cls:Cls K C
 no:∀x∈xs,J6 K C x
def x9 (F:List Addr)(H H':Hp):Prop:=∀b o,b∉F->H b=some o->H' b=some o
theorem x9.refl {F:List Addr}{H:Hp}:x9 F H H:=λ_ _ _ h=>h
theorem x9.trans {F:List Addr}{H H1 H2:Hp}(a:x9 F H H1)(b:x9 F H1 H2):x9 F H H2:=λc o hc h=>b c o hc (a c o hc h)
theorem y4.frame {F:List Addr}{H H':Hp}(s:y4 H H'):x9 F H H':=λb o _ h=>s b o h
theorem x9.upd {F:List Addr}{H H':Hp}(s:x9 F H H'){a:Addr}(ha:a∈F)(o:HO):x9 F H (L2.upd H' a o):=λb u hb h=>by
 rw [z7 (λe=>hb (by rw [e];exact ha))]
 exact s b u hb h
theorem x9.more {F G:List Addr}{H H':Hp}(s:x9 F H H')(h:∀a∈F,a∈G):x9 G H H':=λb o hb e=>s b o (λz=>hb (h b z)) e
def kI (l:List (Nat×Nat)):List (Key×V):=l.map λx=>(Sum.inl (x.1:Int),V.int (x.2:Int))
theorem R7 (l:List (Nat×Nat)):(kI l).length=l.length:=ae _
def atN {α:Type}(l:List (Nat×α))(k:Nat):Option α:=(l.find? λx=>decide (x.1=k)).map (·.2)
theorem R1 (l:List (Nat×Nat))(k:Nat):J5 (kI l) (Sum.inl (k:Int))=(atN l k).map λx=>V.int x:=by
 induction l with
 | nil=>rfl
 | cons x r ih =>
  by_cases h:x.1=k
  ·have e:atN (x::r) k=some x.2:=by unfold atN;rw [dq (by simpa using h)];rfl
   rw [e]
   exact M4 (p:=(Sum.inl (x.1:Int),V.int (x.2:Int))) (by show (Sum.inl (x.1:Int):Key)=Sum.inl (k:Int);rw [h])
  ·have e:atN (x::r) k=atN r k:=by unfold atN;rw [dr (by simpa using h)]
   rw [e,←ih]
   exact O1 (p:=(Sum.inl (x.1:Int),V.int (x.2:Int))) λz=>h (by have:=Sum.inl.inj z;lia)
structure StS where
 mv:List Nat
 to:List (Nat×Nat)
 wt:List (Nat×Nat)
 lk:Nat
structure ChS where
 ln:List TM.Ln
 md:List (List Nat)
 bl:List (Nat×Nat)
 st:List StS
 src:Nat->List Nat
structure StA where
 a:Addr
 m:Addr
 lt:Addr
 bf:Addr
 w:Addr
structure ChA where
 c:Addr
 b:Addr
 ll:Addr
 lm:Addr
 d:Addr
 l:Addr
 st:List StA
def StA.all (s:StA):List Addr:=[s.a,s.m,s.lt,s.bf,s.w]
def ChA.all (A:ChA):List Addr:=[A.c,A.b,A.ll,A.lm,A.d,A.l]++(A.st.map StA.all).flatten
structure U5 (cB:Addr) (H:Hp) (A:ChA) (S:ChS):Prop where
 b:∃dx,H A.b=some (.ins cB dx [("lines",.ref A.ll),("made",.ref A.lm),("back_lines",.ref A.d)])
 ll:∃as,H A.ll=some (.lst (as.map V.ref))/\zi6 H as S.ln
 lm:∃as,H A.lm=some (.lst (as.map V.ref))/\Z5 H as S.md
 d:H A.d=some (.dK (kI S.bl))
 len:S.ln.length=S.md.length
theorem Z5.upd {H:Hp}{as:List Addr}{ts:List (List Nat)}{a:Addr}{o:HO}(h:Z5 H as ts)(ha:∀xs,H a≠some (.tup xs)):Z5 (L2.upd H a o) as ts:=Paired.imp' (λb t e=>by
 rw [z7 (λz=>by subst z;exact ha _ e)];exact e) h
theorem zi6.upd {H:Hp}{as:List Addr}{ls:List TM.Ln}{a:Addr}{o:HO}(h:zi6 H as ls)(ha:∀xs,H a≠some (.tup xs)):zi6 (L2.upd H a o) as ls:=Paired.imp' (λb t e=>by
 rw [z7 (λz=>by subst z;exact ha _ e)];exact e) h
def ChS.put (S:ChS)(l:TM.Ln)(t:List Nat):ChS:={ S with ln:=S.ln++[l],md:=S.md++[t] }
def zf9:List Str:=["lines","made","back_lines"]
def yn9 (cB:Addr):Sp:=λvs H Q _=>∃(A:ChA) (S:ChS) (lr tr:Addr) (l:TM.Ln) (t:List Nat),vs=[.ref A.b,.ref lr,.ref tr]/\U5 cB H A S/\A.ll≠A.lm/\H lr=some (.tup (lnV l))/\H tr=some (.tup (tI t))/\S.ln.length<10000000 /\
 ∀H':Hp,x9 [A.ll,A.lm] H H'->U5 cB H' A (S.put l t)->Q (.int (S.ln.length:Int)) H'
theorem yd6:v1 ["self","line","turning"] ["self","line","turning"] (y6 B8):=scq
theorem W3:10000000<sizeLine:=by decide
theorem yb8 {cB:Addr}(F:Fun K "put" "Book.put" B8 f fd) (B:Blt mg) (cb:h8 K cB zf9):p6 P w K mg base CX0 1 f fd ["self","line","turning"] (yn9 cB):=by
 refine F.ok yd6 (λvs H Q E h=>?_) (λcdv Ar outer s H vs Q E hr h=>?_)
 ·obtain ⟨A,S,lr,tr,l,t,rfl,_⟩:=h
  rfl
 obtain ⟨A,S,lr,tr,l,t,rfl,bk,hne,hl,ht,hlen,q⟩:=h
 obtain ⟨⟨dx,hb⟩,⟨las,hll,hln⟩,⟨mas,hlm,hmd⟩,hd,hlen2⟩:=bk
 have hz:=W3
 have nL:=cb.no "lines" (by decide)
 have nM:=cb.no "made" (by decide)
 refine ⟨_,z6 (h9 (J1 PySem.F.plainAttrs_list PySem.F.slot_list_append PySem.F.type_list_append b8 (w6 (pv 0) rfl) (z0 (pv 1) z4)))
  (z6 (h9 (J1 PySem.F.plainAttrs_list PySem.F.slot_list_append PySem.F.type_list_append b8 (w6 (pv 0) rfl) (z0 (pv 2) z4)))
  (z9 (v7 (v0 zv5 (v8 u6 rfl B.len g7 (z0 (w6 (pv 0) rfl) z4)) z8)))),?_⟩
 have las_l:las.length=S.ln.length:=Paired.length hln
 have mas_l:mas.length=S.md.length:=Paired.length hmd
 refine ⟨_,rfl,A.b,cB,dx,_,_,rfl,hb,cb.cls,nL,rfl,.inl ⟨rfl,_,SqL.of hll⟩,_,rfl,A.ll,_,_,rfl,rfl,hll,by rw [ae];lia,?_⟩
 have b1:A.b≠A.ll:=i8 hb hll (by intro z;cases z)
 have e1:(upd H A.ll (.lst (las.map V.ref++[V.ref lr]))) A.b=some (.ins cB dx [("lines",.ref A.ll),("made",.ref A.lm),("back_lines",.ref A.d)]):=by rw [z7 b1];exact hb
 have e2:(upd H A.ll (.lst (las.map V.ref++[V.ref lr]))) A.lm=some (.lst (mas.map V.ref)):=by rw [z7 (Ne.symm hne)];exact hlm
 refine ⟨_,rfl,A.b,cB,dx,_,_,rfl,e1,cb.cls,nM,rfl,.inl ⟨rfl,_,SqL.of e2⟩,_,rfl,A.lm,_,_,rfl,rfl,e2,by rw [ae];lia,?_⟩
 have b2:A.b≠A.lm:=i8 hb hlm (by intro z;cases z)
 have e3:(upd (upd H A.ll (.lst (las.map V.ref++[V.ref lr]))) A.lm (.lst (mas.map V.ref++[V.ref tr]))) A.b=some (.ins cB dx [("lines",.ref A.ll),("made",.ref A.lm),("back_lines",.ref A.d)]):=by rw [z7 b2];exact e1
 have e4:(upd (upd H A.ll (.lst (las.map V.ref++[V.ref lr]))) A.lm (.lst (mas.map V.ref++[V.ref tr]))) A.ll=some (.lst ((las++[lr]).map V.ref)):=by rw [z7 hne,z5,aV];rfl
 refine ⟨_,rfl,A.b,cB,dx,_,_,rfl,e3,cb.cls,nL,rfl,A.ll,_,rfl,.inl (SqL.of e4),_,_,rfl,rfl,?_⟩
 have hv:((((las++[lr]).map V.ref).length:Nat):Int)-1=(S.ln.length:Int):=by
  rw [ae,aq,bn,las_l]
  lia
 show Q (.int _) _
 rw [hv]
 have nt1:∀xs,H A.ll≠some (.tup xs):=λxs z=>by rw [hll] at z;cases z
 have nt2:∀xs,(upd H A.ll (.lst (las.map V.ref++[V.ref lr]))) A.lm≠some (.tup xs):=λxs z=>by rw [e2] at z;cases z
 have d1:A.d≠A.ll:=i8 hd hll (by intro z;cases z)
 have d2:A.d≠A.lm:=i8 hd hlm (by intro z;cases z)
 refine q _ (x9.upd (x9.upd x9.refl (by simp) _) (by simp) _) ⟨⟨dx,e3⟩,⟨las++[lr],e4,?_⟩,⟨mas++[tr],by rw [z5,aV];rfl,?_⟩,by rw [z7 d2,z7 d1];exact hd,by show (S.ln++[l]).length=(S.md++[t]).length;rw [aq,aq,hlen2];rfl⟩
 ·refine Paired.snoc ((hln.upd nt1).upd nt2) ?_
  rw [z7 (i8 hl hlm (by intro z;cases z)),z7 (i8 hl hll (by intro z;cases z))]
  exact hl
 ·refine Paired.snoc ((hmd.upd nt1).upd nt2) ?_
  rw [z7 (i8 ht hlm (by intro z;cases z)),z7 (i8 ht hll (by intro z;cases z))]
  exact ht
theorem U5.same {cB:Addr}{H H':Hp}{A:ChA}{S:ChS}(h:U5 cB H A S)(s:y4 H H'):U5 cB H' A S :=
 ⟨h.b.imp λ_ e=>s _ _ e,h.ll.imp λ_ e=>⟨s _ _ e.1,e.2.same s⟩,h.lm.imp λ_ e=>⟨s _ _ e.1,e.2.same s⟩,s _ _ h.d,h.len⟩
def ChS.putB (S:ChS)(i j:Nat):Nat×ChS:=if i=0 then (j,S) else if j=0 then (i,S) else (S.ln.length,S.put (.behind i j) (TM.beh (S.md.getD i []) (S.md.getD j [])))
def xa6 (cB:Addr):Sp:=λvs H Q _=>∃(A:ChA) (S:ChS) (n i j:Nat),vs=[.ref A.b,.int i,.int j]/\U5 cB H A S/\A.ll≠A.lm/\i<S.md.length/\j<S.md.length/\(∀t∈S.md,TM.IsT n t)/\n<=60/\S.ln.length<10000000 /\
 ∀H':Hp,x9 [A.ll,A.lm] H H'->U5 cB H' A (S.putB i j).2->Q (.int ((S.putB i j).1:Int)) H'
theorem A2:v1 ["self","one","other"] ["self","one","other"] (y6 V9):=scq
theorem T9 {α:Type}{l:List α}{i:Nat}(d:α)(h:i<l.length):l[i]?=some (l.getD i d):=by
 rw [ar,aa h];rfl
theorem B6 {cB:Addr}(F:Fun K "put_behind" "Book.put_behind" V9 f fd) (B:Blt mg) (cb:h8 K cB zf9) (MP:Z1 P w K mg base 1 cB "put" ["self","line","turning"] (yn9 cB)) (KB:r8 P w K mg base 1 "behind" ["one","other"] (M2 K)) (GS:zg8 mg "STILL_LINE" (.int 0)):p6 P w K mg base CX0 2 f fd ["self","one","other"] (xa6 cB):=by
 refine F.ok A2 (λvs H Q E h=>?_) (λcdv Ar outer s H vs Q E hr h=>?_)
 ·obtain ⟨A,S,n,i,j,rfl,_⟩:=h
  rfl
 obtain ⟨A,S,n,i,j,rfl,bk,hne,hi,hj,hT,hn,hlen,q⟩:=h
 refine ⟨_,z6 (k8 (o4 O3 (pv 1) (zb7 GS rfl) (p7 _)) (z9 (v7 (pv 2))) u8)
  (z6 (k8 (o4 O3 (pv 2) (zb7 GS rfl) (p7 _)) (z9 (v7 (pv 1))) u8)
  (z9 (v7 (c5 cb.cls MP hr (pv 0) (z0 (B7 (z0 zm3 (z0 (pv 1) (z0 (pv 2) z4)))) (z0 (u4 KB hr rfl (z0 (l9 p8 (w6 (pv 0) rfl) (pv 1) (λ_ _=>rfl)) (z0 (l9 p8 (w6 (pv 0) rfl) (pv 2) (λ_ _=>rfl)) z4))) z4)))))),?_⟩
 refine ⟨_,rfl,rfl,_,rfl,yw4 (λc=>?_) (λc=>⟨_,rfl,rfl,_,rfl,yw4 (λc2=>?_) (λc2=>?_)⟩)⟩
 ·rw [o7] at c
  have e:i=0:=by have:=of_decide_eq_true c;lia
  have r:=q H x9.refl
  unfold ChS.putB at r
  rw [if_pos e] at r
  exact ⟨_,rfl,r bk⟩
 ·rw [o7] at c c2
  have e:¬i=0:=by have:=of_decide_eq_false (cE.mpr c);lia
  have e2:j=0:=by have:=of_decide_eq_true c2;lia
  have r:=q H x9.refl
  unfold ChS.putB at r
  rw [if_neg e,if_pos e2] at r
  exact ⟨_,rfl,r bk⟩
 ·rw [o7] at c c2
  have e:¬i=0:=by have:=of_decide_eq_false (cE.mpr c);lia
  have e2:¬j=0:=by have:=of_decide_eq_false (cE.mpr c2);lia
  unfold ChS.putB at q
  rw [if_neg e,if_neg e2] at q
  obtain ⟨dx,hb⟩:=bk.b
  obtain ⟨mas,hlm,hmd⟩:=bk.lm
  have hz:=W3
  refine ⟨_,rfl,A.b,dx,_,rfl,hb,rfl,_,rfl,_,rfl,(by show 3<=sizeLine;lia),λlr hlr=>?_⟩
  have s1:=y8 hlr (.tup [V.str "behind",V.int i,V.int j])
  have el:(upd H lr (.tup [V.str "behind",V.int i,V.int j])) lr=some (.tup (lnV (.behind i j))):=z5
  generalize upd H lr (.tup [V.str "behind",V.int i,V.int j])=H1 at s1 el ⊢
  have ti:TM.IsT n (S.md.getD i []):=hT _ (ax (T9 [] hi))
  have tj:TM.IsT n (S.md.getD j []):=hT _ (ax (T9 [] hj))
  obtain ⟨ai,hai,hti⟩:=X0 hmd i _ (T9 [] hi)
  obtain ⟨aj,haj,htj⟩:=X0 hmd j _ (T9 [] hj)
  have gi:atI (mas.map V.ref) ((i:Nat):Int)=some (V.ref ai):=i4 (by rw [ag,hai];rfl)
  have gj:atI (mas.map V.ref) ((j:Nat):Int)=some (V.ref aj):=i4 (by rw [ag,haj];rfl)
  refine ⟨_,rfl,A.b,cB,dx,_,_,rfl,s1 _ _ hb,cb.cls,cb.no "made" (by decide),rfl,_,rfl,A.lm,_,_,_,rfl,rfl,SqL.of (s1 _ _ hlm),gi,_,rfl,A.b,cB,dx,_,_,rfl,s1 _ _ hb,cb.cls,cb.no "made" (by decide),rfl,_,rfl,A.lm,_,_,_,rfl,rfl,SqL.of (s1 _ _ hlm),gj,ai,aj,_,_,rfl,SqT.of (s1 _ _ hti),SqT.of (s1 _ _ htj),by rw [ti.length];lia,λx hx=>?_,λtr H2 htr s2 ht2=>?_⟩
  ·rw [tj.length]
   exact ti.lt hx
  exact ⟨A,S,lr,tr,.behind i j,_,rfl,bk.same (s1.trans s2),hne,s2 _ _ el,ht2,hlen,λH3 fr bk3=>q H3 (λb o hb' e=>fr b o hb' ((s1.trans s2) _ _ e)) bk3⟩
def ChS.putK (n:Nat)(S:ChS)(i:Nat):Nat×ChS:=match atN S.bl i with
 | some k=>(k,S)
 | none=>(S.ln.length,{ S.put (.back i) (TM.bk n (S.md.getD i [])) with bl:=S.bl++[(i,S.ln.length)] })
def xa7 (cB:Addr):Sp:=λvs H Q _=>∃(A:ChA) (S:ChS) (n i:Nat),vs=[.ref A.b,.int i]/\U5 cB H A S/\A.ll≠A.lm/\i<S.md.length/\(∀t∈S.md,TM.IsT n t)/\n<=60/\S.ln.length<10000000/\S.bl.length<10000000 /\
 ∀H':Hp,x9 [A.ll,A.lm,A.d] H H'->U5 cB H' A (S.putK n i).2->Q (.int ((S.putK n i).1:Int)) H'
theorem zf0:v1 ["self","one"] ["self","one"] (y6 W2):=scq
theorem zy0 {l:List (Nat×Nat)}{k:Nat}(h:atN l k=none):J5 (kI l) (Sum.inl (k:Int))=none:=by rw [R1,h];rfl
theorem zm8 {l:List (Nat×Nat)}{k v:Nat}(h:atN l k=none):putK (kI l) (Sum.inl (k:Int)) (V.int v)=kI (l++[(k,v)]):=by
 have e:=zy0 h
 unfold putK
 rw [M3,e]
 show kI l++[(Sum.inl (k:Int),V.int v)]=kI (l++[(k,v)])
 unfold kI
 rw [aV]
 rfl
theorem zi9 {l:List (Nat×Nat)}{k v:Nat}(h:atN l k=none):atN (l++[(k,v)]) k=some v:=by
 have h':l.find? (λx=>decide (x.1=k))=none:=by
  unfold atN at h
  cases e:l.find? (λx=>decide (x.1=k)) with
  | none=>rfl
  | some x=>rw [e] at h;cases h
 unfold atN
 rw [eJ,h']
 simp
theorem ze5 {cB:Addr}(F:Fun K "put_back" "Book.put_back" W2 f fd) (B:Blt mg) (cb:h8 K cB zf9) (MP:Z1 P w K mg base 1 cB "put" ["self","line","turning"] (yn9 cB)) (KB:r8 P w K mg base 1 "back" ["one"] (yj5 K)):p6 P w K mg base CX0 2 f fd ["self","one"] (xa7 cB):=by
 refine F.ok zf0 (λvs H Q E h=>?_) (λcdv Ar outer s H vs Q E hr h=>?_)
 ·obtain ⟨A,S,n,i,rfl,_⟩:=h
  rfl
 obtain ⟨A,S,n,i,rfl,bk,hne,hi,hT,hn,hlen,hbl,q⟩:=h
 have hu:(Ar.deeper (PyProof.Rows.envOfC "Book.put_back" (y6 W2) s.heap.objs.size f cdv)).units+1<cLine:=by have:=hr.units;lia
 refine ⟨_,z6 (k8 (zm7 (D2 hu (pv 1) (w6 (pv 0) rfl))) (z9 (zi2 hu (w6 (pv 0) rfl) (pv 1) (c5 cb.cls MP hr (pv 0) (z0 (B7 (z0 zm3 (z0 (pv 1) z4))) (z0 (u4 KB hr rfl (z0 (l9 p8 (w6 (pv 0) rfl) (pv 1) (λ_ _=>rfl)) z4)) z4))) rfl)) u8)
  (z9 (v7 (L4 hu (w6 (pv 0) rfl) (pv 1) (λ_ _=>rfl)))),?_⟩
 obtain ⟨dx,hb⟩:=bk.b
 obtain ⟨mas,hlm,hmd⟩:=bk.lm
 have hz:=W3
 have nB:=cb.no "back_lines" (by decide)
 refine ⟨_,rfl,_,rfl,A.b,cB,dx,_,_,rfl,hb,cb.cls,nB,rfl,A.d,_,rfl,U6.k (k:=Sum.inl (i:Int)) bk.d,_,rfl,?_⟩
 rw [R1]
 cases ea:atN S.bl i with
 | some k =>
  have e1:S.putK n i=(k,S):=by unfold ChS.putK;rw [ea]
  rw [e1] at q
  refine k9 ⟨_,rfl,A.b,cB,dx,_,_,rfl,hb,cb.cls,nB,rfl,_,rfl,A.d,V.int k,rfl,?_,q H x9.refl bk⟩
  have g:=U6.k (k:=Sum.inl (i:Int)) bk.d
  rwa [R1,ea] at g
 | none =>
  have e1:S.putK n i=(S.ln.length,{ S.put (.back i) (TM.bk n (S.md.getD i [])) with bl:=S.bl++[(i,S.ln.length)] }):=by unfold ChS.putK;rw [ea]
  rw [e1] at q
  refine b6 ?_
  refine ⟨_,rfl,A.b,dx,_,rfl,hb,rfl,_,rfl,(by show 2<=sizeLine;lia),λlr hlr=>?_⟩
  have s1:=y8 hlr (.tup [V.str "back",V.int i])
  have el:(upd H lr (.tup [V.str "back",V.int i])) lr=some (.tup (lnV (.back i))):=z5
  generalize upd H lr (.tup [V.str "back",V.int i])=H1 at s1 el ⊢
  have ti:TM.IsT n (S.md.getD i []):=hT _ (ax (T9 [] hi))
  obtain ⟨ai,hai,hti⟩:=X0 hmd i _ (T9 [] hi)
  have gi:atI (mas.map V.ref) ((i:Nat):Int)=some (V.ref ai):=i4 (by rw [ag,hai];rfl)
  refine ⟨_,rfl,A.b,cB,dx,_,_,rfl,s1 _ _ hb,cb.cls,cb.no "made" (by decide),rfl,_,rfl,A.lm,_,_,_,rfl,rfl,SqL.of (s1 _ _ hlm),gi,ai,n,_,rfl,SqT.of (s1 _ _ hti),ti,by lia,λtr H2 bq htr s2 hbq ht2=>?_⟩
  have ebq:bq=TM.bk n (S.md.getD i []):=hbq.uniq ti (TM.bk_back ti)
  subst ebq
  refine ⟨A,S,lr,tr,.back i,_,rfl,bk.same (s1.trans s2),hne,s2 _ _ el,ht2,hlen,λH3 fr bk3=>?_⟩
  obtain ⟨dx3,hb3⟩:=bk3.b
  have hd3:H3 A.d=some (.dK (kI S.bl)):=bk3.d
  have kd:(kI S.bl).length<sizeLine:=by rw [R7];lia
  refine ⟨_,rfl,A.b,cB,dx3,_,_,rfl,hb3,cb.cls,nB,rfl,_,rfl,A.d,_,rfl,zn8.k (k:=Sum.inl (i:Int)) hd3 kd,?_⟩
  rw [zm8 ea]
  have b3:A.b≠A.d:=i8 hb3 hd3 (by intro z;cases z)
  have eb4:(upd H3 A.d (.dK (kI (S.bl++[(i,S.ln.length)])))) A.b=some (.ins cB dx3 [("lines",.ref A.ll),("made",.ref A.lm),("back_lines",.ref A.d)]):=by rw [z7 b3];exact hb3
  refine ⟨_,rfl,A.b,cB,dx3,_,_,rfl,eb4,cb.cls,nB,rfl,_,rfl,A.d,V.int (S.ln.length:Int),rfl,?_,?_⟩
  ·have g:=U6.k (k:=Sum.inl (i:Int)) (kvs:=kI (S.bl++[(i,S.ln.length)])) (H:=upd H3 A.d (.dK (kI (S.bl++[(i,S.ln.length)])))) z5
   rwa [R1,zi9 ea] at g
  ·obtain ⟨las3,hll3,hln3⟩:=bk3.ll
   obtain ⟨mas3,hlm3,hmd3⟩:=bk3.lm
   have nt:∀xs,H3 A.d≠some (.tup xs):=λxs z=>by rw [hd3] at z;cases z
   refine q _ ?_ ⟨⟨dx3,eb4⟩,⟨las3,by rw [z7 (i8 hll3 hd3 (by intro z;cases z))];exact hll3,hln3.upd nt⟩,⟨mas3,by rw [z7 (i8 hlm3 hd3 (by intro z;cases z))];exact hlm3,hmd3.upd nt⟩,z5,bk3.len⟩
   exact x9.upd (x9.trans (y4.frame (s1.trans s2)) (fr.more (λa ha=>by simp at ha ⊢;rcases ha with h|h <;> simp [h]))) (by simp) _
theorem M0 {α β:Type}{F G:α->β->Prop}:∀{as:List α} {bs:List β},Paired F as bs->(∀a∈as,∀b,F a b->G a b)->Paired G as bs
 | _,_,.nil,_=>.nil
 | _,_,.cons f r,h=>.cons (h _ au _ f) (M0 r λa ha b q=>h a (ao _ ha) b q)
theorem yp3 {K:W.Frag}{a:Addr}{xs:List V}{fr:List Nat}{te:CT TE}{σ:St}{H1:Hp}{Q:Addr->Hp->Prop}{α:Type}(g:α->HO)(ys:List α)(hS:SqL K H1 a xs)(hn:ys.length=xs.length)(hz:xs.length<=sizeLine)
  (turn:∀(i:Nat) H x y,xs[i]?=some x->ys[i]?=some y->y4 H1 H->∀C₀ s₀ H₀ fp,te C₀ s₀ H₀ fp (some x::fr.map λj=>(σ[j]?).getD none) H λv H4=>y4 H H4/\∃b,v=.ref b/\H b=none/\H4 b=some (g y))
  (fin:∀D H as,H1 D=none->y4 H1 H->H D=some (.lst (as.map V.ref))->Paired (λb y=>H b=some (g y)) as ys->(∀b∈as,H1 b=none)->Q D H) :
  ∀D,H1 D=none->∃W:Nat->Nat->St->Hp->Prop,(∃m,W 0 m (V0 1 fr σ) (upd H1 D (.lst [])))/\∀i m σ' H',W i m σ' H' ->
  ((Itl K a).stop i H'/\Q D H')∨((Itl K a).go i H'/\∀x H2,(Itl K a).yld i H' x H2->∀C₀ s₀ H₀ fp,p3 0 x σ' H2 λσ3 H3=>∃N:VK,te C₀ s₀ H₀ fp σ3 H3 N/\∀y H4,N y H4 ->
   ∃ys m',H4 D=some (.lst ys)/\ys.length<sizeLine/\m'<m/\W (i+1) m' σ3 (upd H4 D (.lst (ys++[y])))):=by
 intro D hD
 refine ⟨λi m σ' H'=>m=xs.length-i/\i<=xs.length/\y4 H1 H'/\(∃as:List Addr,H' D=some (.lst (as.map V.ref))/\Paired (λb y=>H' b=some (g y)) as (ys.take i)/\(∀b∈as,b≠D)/\∀b∈as,H1 b=none)/\∃z,σ'=z::fr.map λj=>(σ[j]?).getD none,
  ⟨xs.length,rfl,aQ _,y8 hD _,⟨[],z5,.nil,λ_ h=>(by cases h),λ_ h=>(by cases h)⟩,none,rfl⟩,?_⟩
 rintro i m σ' H' ⟨rfl,hi,sm,⟨as,hl,hP,hne,hnw⟩,z,rfl⟩
 by_cases hlt:i<xs.length
 ·refine .inr ⟨⟨xs,xs[i],sm.seq hS,by simp [hlt]⟩,λx H2 yl C₀ s₀ H₀ fp=>?_⟩
  obtain ⟨e,hx⟩:=yl
  subst e
  have hxi:=hx xs (sm.seq hS)
  have hyi:ys[i]?=some ys[i]:=aa (by lia)
  refine ⟨_,turn i _ x _ hxi hyi sm C₀ s₀ H₀ fp,λv H4 ⟨s4,b,hv,hb0,hG⟩=>?_⟩
  subst hv
  have hasl:as.length=i:=by rw [Paired.length hP,aT];lia
  have hD4:=s4 _ _ hl
  have hbD:b≠D:=Ne.symm (y0 hl hb0)
  refine ⟨as.map V.ref,xs.length-(i+1),hD4,by rw [ae,hasl];lia,by lia,rfl,hlt,λc o e=>?_,⟨as++[b],by rw [z5,aV];rfl,?_,λc hc=>?_,λc hc=>?_⟩,_,rfl⟩
  ·rw [z7 (y0 e hD)]
   exact s4 _ _ (sm _ _ e)
  ·rw [bO,hyi]
   refine Paired.snoc (M0 hP λc hc y e=>by rw [z7 (hne c hc)];exact s4 _ _ e) ?_
   rw [z7 hbD]
   exact hG
  ·rcases aE.mp hc with w|w
   ·exact hne c w
   ·rw [ah.mp w];exact hbD
  ·rcases aE.mp hc with w|w
   ·exact hnw c w
   ·rw [ah.mp w];exact sm.free hb0
 ·have e:i=xs.length:=by lia
  subst e
  refine .inl ⟨⟨xs,sm.seq hS,af _⟩,fin D H' as hD sm hl ?_ hnw⟩
  rw [bF (by lia)] at hP
  exact hP
theorem yg0 {J:It}{fr:List Nat}{te:CT TE}{σ:St}{H1:Hp}{Q:Addr->Hp->Prop}{α:Type}(g:α->HO)(ys:List α){n:Nat}(hn:ys.length=n)(hz:n<=sizeLine)
  (hstop:∀H,y4 H1 H->J.stop n H) (hgo:∀i H,i<n->y4 H1 H->J.go i H)
  (turn:∀(i:Nat) H x H2 y,i<n->y4 H1 H->J.yld i H x H2->ys[i]?=some y->H2=H/\∀C₀ s₀ H₀ fp,te C₀ s₀ H₀ fp (some x::fr.map λj=>(σ[j]?).getD none) H λv H4=>y4 H H4/\∃b,v=.ref b/\H b=none/\H4 b=some (g y))
  (fin:∀D H as,H1 D=none->y4 H1 H->H D=some (.lst (as.map V.ref))->Paired (λb y=>H b=some (g y)) as ys->(∀b∈as,H1 b=none)->(∀b∈as,b≠D)->Q D H) :
  ∀D,H1 D=none->∃W:Nat->Nat->St->Hp->Prop,(∃m,W 0 m (V0 1 fr σ) (upd H1 D (.lst [])))/\∀i m σ' H',W i m σ' H' ->
  (J.stop i H'/\Q D H')∨(J.go i H'/\∀x H2,J.yld i H' x H2->∀C₀ s₀ H₀ fp,p3 0 x σ' H2 λσ3 H3=>∃N:VK,te C₀ s₀ H₀ fp σ3 H3 N/\∀y H4,N y H4 ->
   ∃ys m',H4 D=some (.lst ys)/\ys.length<sizeLine/\m'<m/\W (i+1) m' σ3 (upd H4 D (.lst (ys++[y])))):=by
 intro D hD
 refine ⟨λi m σ' H'=>m=n-i/\i<=n/\y4 H1 H'/\(∃as:List Addr,H' D=some (.lst (as.map V.ref))/\Paired (λb y=>H' b=some (g y)) as (ys.take i)/\(∀b∈as,b≠D)/\∀b∈as,H1 b=none)/\∃z,σ'=z::fr.map λj=>(σ[j]?).getD none,
  ⟨n,rfl,aQ _,y8 hD _,⟨[],z5,.nil,λ_ h=>(by cases h),λ_ h=>(by cases h)⟩,none,rfl⟩,?_⟩
 rintro i m σ' H' ⟨rfl,hi,sm,⟨as,hl,hP,hne,hnw⟩,z,rfl⟩
 by_cases hlt:i<n
 ·refine .inr ⟨hgo i H' hlt sm,λx H2 yl C₀ s₀ H₀ fp=>?_⟩
  have hyi:ys[i]?=some ys[i]:=aa (by lia)
  obtain ⟨e,tn⟩:=turn i H' x H2 _ hlt sm yl hyi
  subst e
  refine ⟨_,tn C₀ s₀ H₀ fp,λv H4 ⟨s4,b,hv,hb0,hG⟩=>?_⟩
  subst hv
  have hasl:as.length=i:=by rw [Paired.length hP,aT];lia
  have hD4:=s4 _ _ hl
  have hbD:b≠D:=Ne.symm (y0 hl hb0)
  refine ⟨as.map V.ref,n-(i+1),hD4,by rw [ae,hasl];lia,by lia,rfl,hlt,λc o e=>?_,⟨as++[b],by rw [z5,aV];rfl,?_,λc hc=>?_,λc hc=>?_⟩,_,rfl⟩
  ·rw [z7 (y0 e hD)]
   exact s4 _ _ (sm _ _ e)
  ·rw [bO,hyi]
   refine Paired.snoc (M0 hP λc hc y e=>by rw [z7 (hne c hc)];exact s4 _ _ e) ?_
   rw [z7 hbD]
   exact hG
  ·rcases aE.mp hc with w|w
   ·exact hne c w
   ·rw [ah.mp w];exact hbD
  ·rcases aE.mp hc with w|w
   ·exact hnw c w
   ·rw [ah.mp w];exact sm.free hb0
 ·have e:i=n:=by lia
  subst e
  refine .inl ⟨hstop H' sm,fin D H' as hD sm hl ?_ hnw hne⟩
  rw [bF (by lia)] at hP
  exact hP
abbrev zi7 (H:Hp) (ws:List Addr) (ps:List (Nat×Nat)):Prop:=Paired (λa (x:Nat×Nat)=>H a=some (.tup [.int (x.1:Int),.int (x.2:Int)])) ws ps
theorem zi7.same {H H':Hp}{ws:List Addr}{ps:List (Nat×Nat)}(h:zi7 H ws ps)(s:y4 H H'):zi7 H' ws ps:=Paired.imp' (λ_ _ e=>s _ _ e) h
theorem zi7.upd {H:Hp}{ws:List Addr}{ps:List (Nat×Nat)}{a:Addr}{o:HO}(h:zi7 H ws ps)(ha:∀xs,H a≠some (.tup xs)):zi7 (L2.upd H a o) ws ps:=Paired.imp' (λb t e=>by
 rw [z7 (λz=>by subst z;exact ha _ e)];exact e) h
theorem M9 {α β:Type}{F:α->β->Prop}:∀{as cs:List α} {bs ds:List β},Paired F as bs->Paired F cs ds->Paired F (as++cs) (bs++ds)
 | _,_,_,_,.nil,q=>q
 | _,_,_,_,.cons f r,q=>.cons f (M9 r q)
def kR (to:List (Nat×Nat))(bs:List Addr):List (Key×V):=(to.zip bs).map λp=>(Sum.inl (p.1.1:Int),V.ref p.2)
structure Z3 (cS:Addr) (n:Nat) (md:List (List Nat)) (H:Hp) (A:StA) (i:Nat) (s:StS):Prop where
 a:∃dx,H A.a=some (.ins cS dx [("place",.int i),("movers",.ref A.m),("line_to",.ref A.lt),("back_from",.ref A.bf),("waiting",.ref A.w),("looked_at",.int (s.lk:Int))])
 m:H A.m=some (.lst (tI s.mv))
 lt:H A.lt=some (.dK (kI s.to))
 bf:∃bs:List Addr,H A.bf=some (.dK (kR s.to bs))/\Paired (λ(x:Nat×Nat) b=>H b=some (.tup (tI (TM.bk n (md.getD x.2 []))))) s.to bs
 w:∃ws:List Addr,H A.w=some (.lst (ws.map V.ref))/\zi7 H ws s.wt
def O5:List Str:=["place","movers","line_to","back_from","waiting","looked_at"]
theorem ze8 {H H':Hp}{d:Addr}{o u:HO}(hd:H d=some u)(s:y4 (upd H d o) H'):y4 H (upd H' d u):=λb v h=>by
 by_cases e:b=d
 ·subst e
  rw [z5,←hd,h]
 ·rw [z7 e]
  exact s _ _ (by rw [z7 e];exact h)
def StS.putM (s:StS)(k:Nat):StS:={ s with mv:=s.mv++[k],wt:=s.wt++s.to.map λx=>(x.1,k) }
def yj6 (cS:Addr):Sp:=λvs H Q _=>∃(A:StA) (n:Nat) (md:List (List Nat)) (i k:Nat) (s:StS),vs=[.ref A.a,.int k]/\Z3 cS n md H A i s/\A.m≠A.w/\s.mv.length<1000000/\s.to.length<=1000000/\s.wt.length<=1000000 /\
 ∀H':Hp,x9 [A.m,A.w] H H'->Z3 cS n md H' A i (s.putM k)->Q .non H'
theorem zc3:v1 ["self","mover"] ["self","mover"] (y6 T5):=scq
theorem zb4 {cS:Addr}(F:Fun K "put_mover" "Step.put_mover" T5 f fd) (B:Blt mg) (cs:h8 K cS O5):p6 P w K mg base CX0 1 f fd ["self","mover"] (yj6 cS):=by
 refine F.ok zc3 (λvs H Q E h=>?_) (λcdv Ar outer s H vs Q E hr h=>?_)
 ·obtain ⟨A,n,md,i,k,s,rfl,_⟩:=h
  rfl
 obtain ⟨A,n,md,i,k,s,rfl,⟨⟨dx,ha⟩,hm,hlt,⟨bs,hbf,hbs⟩,⟨ws,hw,hws⟩⟩,hne,hml,htl,hwl,q⟩:=h
 have hz:=W3
 have hwsl:ws.length=s.wt.length:=Paired.length hws
 refine ⟨_,z6 (h9 (J1 PySem.F.plainAttrs_list PySem.F.slot_list_append PySem.F.type_list_append b8 (w6 (pv 0) rfl) (z0 (pv 1) z4)))
  (z9 (h9 (J1 PySem.F.plainAttrs_list PySem.F.slot_list_extend PySem.F.type_list_extend zr5 (w6 (pv 0) rfl) (z0 (ym6 (f9 [1] ["place","mover"] rfl (zw0 (w6 (pv 0) rfl)) (λ_ _ _ _=>B7 (z0 (pv 0) (z0 (pv 1) z4))))) z4)))),?_⟩
 refine ⟨_,rfl,A.a,cS,dx,_,_,rfl,ha,cs.cls,cs.no "movers" (by decide),rfl,.inl ⟨rfl,_,SqL.of hm⟩,_,rfl,A.m,_,_,rfl,rfl,hm,by rw [u5];lia,?_⟩
 have am:A.a≠A.m:=i8 ha hm (by intro z;cases z)
 have lm:A.lt≠A.m:=i8 hlt hm (by intro z;cases z)
 have bm:A.bf≠A.m:=i8 hbf hm (by intro z;cases z)
 have nt1:∀xs,H A.m≠some (.tup xs):=λxs z=>by rw [hm] at z;cases z
 have ha1:(upd H A.m (.lst (tI s.mv++[V.int k]))) A.a=some (.ins cS dx [("place",.int i),("movers",.ref A.m),("line_to",.ref A.lt),("back_from",.ref A.bf),("waiting",.ref A.w),("looked_at",.int (s.lk:Int))]):=by rw [z7 am];exact ha
 have hm1:(upd H A.m (.lst (tI s.mv++[V.int k]))) A.m=some (.lst (tI (s.mv++[k]))):=by rw [z5,zf4];rfl
 have hlt1:(upd H A.m (.lst (tI s.mv++[V.int k]))) A.lt=some (.dK (kI s.to)):=by rw [z7 lm];exact hlt
 have hbf1:(upd H A.m (.lst (tI s.mv++[V.int k]))) A.bf=some (.dK (kR s.to bs)):=by rw [z7 bm];exact hbf
 have hw1:(upd H A.m (.lst (tI s.mv++[V.int k]))) A.w=some (.lst (ws.map V.ref)):=by rw [z7 (Ne.symm hne)];exact hw
 have hws1:=zi7.upd (o:=.lst (tI s.mv++[V.int k])) hws nt1
 have hbs1:Paired (λ(x:Nat×Nat) b=>(upd H A.m (.lst (tI s.mv++[V.int k]))) b=some (.tup (tI (TM.bk n (md.getD x.2 []))))) s.to bs:=Paired.imp' (λx b e=>by rw [z7 (λz=>by subst z;exact nt1 _ e)];exact e) hbs
 have fr1:x9 [A.m,A.w] H (upd H A.m (.lst (tI s.mv++[V.int k]))):=x9.upd x9.refl (by simp) _
 generalize upd H A.m (.lst (tI s.mv++[V.int k]))=H1 at ha1 hm1 hlt1 hbf1 hw1 hws1 hbs1 fr1 ⊢
 refine ⟨_,rfl,A.a,cS,dx,_,_,rfl,ha1,cs.cls,cs.no "waiting" (by decide),rfl,.inl ⟨rfl,_,SqL.of hw1⟩,?_⟩
 refine ⟨A.lt,kI s.to,hlt1,_,rfl,A.a,cS,dx,_,_,rfl,ha1,cs.cls,cs.no "line_to" (by decide),rfl,A.lt,_,rfl,hlt1,λob=>?_⟩
 refine yg0 (λ(y:Nat×Nat)=>HO.tup [.int (y.1:Int),.int (y.2:Int)]) (s.to.map λx=>(x.1,k)) (n:=(kI s.to).length) (by rw [ae,R7]) (by rw [R7];lia) (λH2 s2=>⟨s2 _ _ z5,af _⟩) (λj H2 hj s2=>⟨s2 _ _ z5,hj⟩) ?_ ?_
 ·rintro j H2 x H3 y hj s2 ⟨rfl,kk,vv,hk,rfl⟩ hy
  refine ⟨rfl,λ_ _ _ _=>?_⟩
  rw [ag] at hy
  unfold kI at hk
  rw [ag] at hk
  cases e:s.to[j]? with
  | none=>rw [e] at hk;cases hk
  | some p =>
   rw [e] at hk hy
   cases hk
   cases hy
   exact ⟨_,rfl,_,rfl,(by show 2<=sizeLine;lia),λr hr'=>⟨y8 hr' _,r,rfl,hr',z5⟩⟩
 ·intro Dl H2 as hD s2 hl2 hP hnw hnD
  have s3:=ze8 hlt1 s2
  have hDl:H1 Dl=none:=by
   cases e:H1 Dl with
   | none=>rfl
   | some u=>exact absurd hD (by rw [z7 (λz=>by subst z;rw [z5] at hD;cases hD),e];intro z;cases z)
  have dne:Dl≠A.lt:=λz=>by subst z;rw [hlt1] at hDl;cases hDl
  refine ⟨⟨ob,s2 _ _ z5⟩,?_⟩
  have hl3:(upd H2 A.lt (.dK (kI s.to))) Dl=some (.lst (as.map V.ref)):=by rw [z7 dne];exact hl2
  have hP3:zi7 (upd H2 A.lt (.dK (kI s.to))) as (s.to.map λx=>(x.1,k)):=M0 hP λb hb y e=>by
   rw [z7 (λz=>by
    have:=hnw b hb
    rw [z,z5] at this
    cases this)]
   exact e
  generalize upd H2 A.lt (.dK (kI s.to))=H3 at s3 hl3 hP3 ⊢
  refine ⟨A.w,Dl,_,_,rfl,rfl,s3 _ _ hw1,hl3,?_,?_⟩
  ·rw [ae,ae,hwsl,Paired.length hP3,ae]
   lia
  ·have wa:A.a≠A.w:=i8 ha1 hw1 (by intro z;cases z)
   have wm:A.m≠A.w:=hne
   have wl:A.lt≠A.w:=i8 hlt1 hw1 (by intro z;cases z)
   have wb:A.bf≠A.w:=i8 hbf1 hw1 (by intro z;cases z)
   have nt3:∀xs,H3 A.w≠some (.tup xs):=λxs z=>by rw [s3 _ _ hw1] at z;cases z
   refine q _ (x9.upd (x9.trans fr1 (y4.frame s3)) (by simp) _) ⟨⟨dx,by rw [z7 wa];exact s3 _ _ ha1⟩,by rw [z7 wm];exact s3 _ _ hm1,by rw [z7 wl];exact s3 _ _ hlt1,⟨bs,by rw [z7 wb];exact s3 _ _ hbf1,?_⟩,⟨ws++as,by rw [z5,aV],?_⟩⟩
   ·exact Paired.imp' (λx b e=>by
     have e':=s3 _ _ e
     rw [z7 (λz=>by subst z;exact nt3 _ e')];exact e') hbs1
   ·exact M9 ((hws1.same s3).upd nt3) (hP3.upd nt3)
def StS.putP (s:StS)(p k:Nat):StS:={ s with to:=s.to++[(p,k)],wt:=s.wt++s.mv.map λm=>(p,m) }
def xa8 (cS:Addr):Sp:=λvs H Q _=>∃(A:StA) (n:Nat) (md:List (List Nat)) (i p k:Nat) (s:StS) (tr:Addr) (t:List Nat),vs=[.ref A.a,.int p,.int k,.ref tr]/\Z3 cS n md H A i s/\H tr=some (.tup (tI t))/\md.getD k []=t/\TM.IsT n t/\n<=60/\atN s.to p=none/\A.m≠A.w/\A.lt≠A.bf/\s.mv.length<1000000/\s.to.length<1000000/\s.wt.length<=1000000 /\
 ∀H':Hp,x9 [A.lt,A.bf,A.w] H H'->Z3 cS n md H' A i (s.putP p k)->Q .non H'
theorem zc4:v1 ["self","place","line","turning"] ["self","place","line","turning"] (y6 X4):=scq
theorem xk5 {to:List (Nat×Nat)}{bs:List Addr}(h:to.length=bs.length):(kR to bs).length=to.length:=by
 unfold kR
 rw [ae,List.length_zip,←h,Nat.min_self]
theorem yo7:∀{to:List (Nat×Nat)} {bs:List Addr},to.length=bs.length->∀{p:Nat},atN to p=none->J5 (kR to bs) (Sum.inl (p:Int))=none
 | [],[],_,p,_=>rfl
 | x::to,b::bs,hl,p,h=>by
  have hx:¬x.1=p:=λe=>by unfold atN at h;rw [dq (by simpa using e)] at h;cases h
  have h':atN to p=none:=by unfold atN at h ⊢;rwa [dr (by simpa using hx)] at h
  have e:kR (x::to) (b::bs)=(Sum.inl (x.1:Int),V.ref b)::kR to bs:=rfl
  rw [e,O1 (λz=>hx (by have:=Sum.inl.inj z;lia))]
  exact yo7 (by simpa using hl) h'
theorem xf4 {to:List (Nat×Nat)}{bs:List Addr}{p k:Nat}{r:Addr}(hl:to.length=bs.length)(h:atN to p=none):putK (kR to bs) (Sum.inl (p:Int)) (V.ref r)=kR (to++[(p,k)]) (bs++[r]):=by
 have e:=yo7 hl h
 unfold putK
 rw [M3,e]
 show kR to bs++[(Sum.inl (p:Int),V.ref r)]=_
 unfold kR
 rw [List.zip_append hl,aV]
 rfl
theorem zv6 {α β:Type}{F:α->β->Prop}{as:List α}{bs:List β}{a:α}{b:β}(h:Paired F as bs)(f:F a b):Paired F (as++[a]) (bs++[b]):=M9 h (.cons f .nil)
theorem zb5 {cS:Addr}(F:Fun K "put_place" "Step.put_place" X4 f fd) (B:Blt mg) (cs:h8 K cS O5) (KB:r8 P w K mg base 1 "back" ["one"] (yj5 K)):p6 P w K mg base CX0 2 f fd ["self","place","line","turning"] (xa8 cS):=by
 refine F.ok zc4 (λvs H Q E h=>?_) (λcdv Ar outer sh H vs Q E hr h=>?_)
 ·obtain ⟨A,n,md,i,p,k,s,tr,t,rfl,_⟩:=h
  rfl
 obtain ⟨A,n,md,i,p,k,s,tr,t,rfl,⟨⟨dx,ha⟩,hm,hlt,⟨bs,hbf,hbs⟩,⟨ws,hw,hws⟩⟩,htr,hmd,hT,hn,hp,hne,hne2,hml,htl,hwl,q⟩:=h
 have hz:=W3
 have hwsl:ws.length=s.wt.length:=Paired.length hws
 have hbsl:s.to.length=bs.length:=Paired.length hbs
 have hu:(Ar.deeper (PyProof.Rows.envOfC "Step.put_place" (y6 X4) sh.heap.objs.size f cdv)).units+1<cLine:=by have:=hr.units;lia
 refine ⟨_,z6 (zi2 hu (w6 (pv 0) rfl) (pv 1) (pv 2) rfl)
  (z6 (zi2 hu (w6 (pv 0) rfl) (pv 1) (u4 KB hr rfl (z0 (pv 3) z4)) rfl)
  (z9 (h9 (J1 PySem.F.plainAttrs_list PySem.F.slot_list_extend PySem.F.type_list_extend zr5 (w6 (pv 0) rfl) (z0 (f9 [1] ["mover","place"] rfl (W1 (w6 (pv 0) rfl)) (λ_ _ _ _=>B7 (z0 (pv 1) (z0 (pv 0) z4)))) z4))))),?_⟩
 refine ⟨_,rfl,_,rfl,A.a,cS,dx,_,_,rfl,ha,cs.cls,cs.no "line_to" (by decide),rfl,_,rfl,A.lt,_,rfl,zn8.k (k:=Sum.inl (p:Int)) hlt (by rw [R7];lia),?_⟩
 rw [zm8 hp]
 have k1:∀{b:Addr} {o:HO},H b=some o->o≠.dK (kI s.to)->(upd H A.lt (.dK (kI (s.to++[(p,k)])))) b=some o:=λ{b o} h d=>by rw [z7 (i8 h hlt d)];exact h
 have ha1:=k1 ha (by intro z;cases z)
 have hm1:=k1 hm (by intro z;cases z)
 have htr1:=k1 htr (by intro z;cases z)
 have hw1:=k1 hw (by intro z;cases z)
 have hbf1:(upd H A.lt (.dK (kI (s.to++[(p,k)])))) A.bf=some (.dK (kR s.to bs)):=by rw [z7 (Ne.symm hne2)];exact hbf
 have hlt1:(upd H A.lt (.dK (kI (s.to++[(p,k)])))) A.lt=some (.dK (kI (s.to++[(p,k)]))):=z5
 have hws1:zi7 (upd H A.lt (.dK (kI (s.to++[(p,k)])))) ws s.wt:=Paired.imp' (λx b e=>k1 e (by intro z;cases z)) hws
 have hbs1:Paired (λ(x:Nat×Nat) b=>(upd H A.lt (.dK (kI (s.to++[(p,k)])))) b=some (.tup (tI (TM.bk n (md.getD x.2 []))))) s.to bs:=Paired.imp' (λx b e=>k1 e (by intro z;cases z)) hbs
 have fr1:x9 [A.lt,A.bf,A.w] H (upd H A.lt (.dK (kI (s.to++[(p,k)])))):=x9.upd x9.refl (by simp) _
 clear k1
 generalize upd H A.lt (.dK (kI (s.to++[(p,k)])))=H1 at ha1 hm1 htr1 hw1 hbf1 hlt1 hws1 hbs1 fr1 ⊢
 refine ⟨_,rfl,tr,n,t,rfl,SqT.of htr1,hT,by lia,λr H2 b hr2 s2 hb hrr=>?_⟩
 have eb:b=TM.bk n t:=hb.uniq hT (TM.bk_back hT)
 subst eb
 have hbf2:=s2 _ _ hbf1
 refine ⟨_,rfl,A.a,cS,dx,_,_,rfl,s2 _ _ ha1,cs.cls,cs.no "back_from" (by decide),rfl,_,rfl,A.bf,_,rfl,zn8.k (k:=Sum.inl (p:Int)) hbf2 (by rw [xk5 hbsl];lia),?_⟩
 rw [xf4 (k:=k) hbsl hp]
 have k2:∀{b:Addr} {o:HO},H1 b=some o->b≠A.bf->(upd H2 A.bf (.dK (kR (s.to++[(p,k)]) (bs++[r])))) b=some o:=λ{b o} h d=>by rw [z7 d];exact s2 _ _ h
 have nbf:∀{b:Addr} {o:HO},H1 b=some o->o≠.dK (kR s.to bs)->b≠A.bf:=λ{b o} h d=>i8 h hbf1 d
 have ha3:=k2 ha1 (nbf ha1 (by intro z;cases z))
 have hm3:=k2 hm1 (nbf hm1 (by intro z;cases z))
 have hw3:=k2 hw1 (nbf hw1 (by intro z;cases z))
 have hlt3:=k2 hlt1 hne2
 have hbf3:(upd H2 A.bf (.dK (kR (s.to++[(p,k)]) (bs++[r])))) A.bf=some (.dK (kR (s.to++[(p,k)]) (bs++[r]))):=z5
 have hws3:zi7 (upd H2 A.bf (.dK (kR (s.to++[(p,k)]) (bs++[r])))) ws s.wt:=Paired.imp' (λx b e=>k2 e (nbf e (by intro z;cases z))) hws1
 have hr3:(upd H2 A.bf (.dK (kR (s.to++[(p,k)]) (bs++[r])))) r=some (.tup (tI (TM.bk n t))):=by rw [z7 (i8 hrr hbf2 (by intro z;cases z))];exact hrr
 have hbs3:Paired (λ(x:Nat×Nat) b=>(upd H2 A.bf (.dK (kR (s.to++[(p,k)]) (bs++[r])))) b=some (.tup (tI (TM.bk n (md.getD x.2 []))))) (s.to++[(p,k)]) (bs++[r]) :=
  zv6 (Paired.imp' (λx b e=>k2 e (nbf e (by intro z;cases z))) hbs1) (by show _=some (HO.tup (tI (TM.bk n (md.getD k []))));rw [hmd];exact hr3)
 have fr3:x9 [A.lt,A.bf,A.w] H (upd H2 A.bf (.dK (kR (s.to++[(p,k)]) (bs++[r])))):=x9.upd (x9.trans fr1 (y4.frame s2)) (by simp) _
 clear k2 nbf
 generalize upd H2 A.bf (.dK (kR (s.to++[(p,k)]) (bs++[r])))=H3 at ha3 hm3 hw3 hlt3 hbf3 hws3 hr3 hbs3 fr3 ⊢
 refine ⟨_,rfl,A.a,cS,dx,_,_,rfl,ha3,cs.cls,cs.no "waiting" (by decide),rfl,.inl ⟨rfl,_,SqL.of hw3⟩,?_⟩
 refine ⟨_,rfl,A.a,cS,dx,_,_,rfl,ha3,cs.cls,cs.no "movers" (by decide),rfl,A.m,rfl,⟨_,SqL.of hm3⟩,?_⟩
 refine yp3 (λ(y:Nat×Nat)=>HO.tup [.int (y.1:Int),.int (y.2:Int)]) (s.mv.map λm=>(p,m)) (SqL.of hm3) (by rw [ae,u5]) (by rw [u5];lia) ?_ ?_
 ·intro j H4 x y hx hy s4 _ _ _ _
  obtain ⟨m,hm',rfl⟩:=D6 hx
  rw [ag,hm'] at hy
  cases hy
  exact ⟨_,rfl,_,rfl,(by show 2<=sizeLine;lia),λr' hr'=>⟨y8 hr' _,r',rfl,hr',z5⟩⟩
 ·intro Dl H4 as hD s4 hl4 hP4 hnw
  refine ⟨A.w,Dl,_,_,rfl,rfl,s4 _ _ hw3,hl4,?_,?_⟩
  ·rw [ae,ae,hwsl,Paired.length hP4,ae]
   lia
  ·have hw4:=s4 _ _ hw3
   have k4:∀{b:Addr} {o:HO},H4 b=some o->b≠A.w->(upd H4 A.w (.lst (ws.map V.ref++as.map V.ref))) b=some o:=λ{b o} h d=>by rw [z7 d];exact h
   have nw:∀{b:Addr} {o:HO},H4 b=some o->o≠.lst (ws.map V.ref)->b≠A.w:=λ{b o} h d=>i8 h hw4 d
   refine q _ (x9.upd (x9.trans fr3 (y4.frame s4)) (by simp) _) ⟨⟨dx,k4 (s4 _ _ ha3) (nw (s4 _ _ ha3) (by intro z;cases z))⟩,k4 (s4 _ _ hm3) hne,k4 (s4 _ _ hlt3) (nw (s4 _ _ hlt3) (by intro z;cases z)),⟨bs++[r],k4 (s4 _ _ hbf3) (nw (s4 _ _ hbf3) (by intro z;cases z)),Paired.imp' (λx b e=>k4 (s4 _ _ e) (nw (s4 _ _ e) (by intro z;cases z))) hbs3⟩,⟨ws++as,by rw [z5,aV],?_⟩⟩
   exact M9 (Paired.imp' (λx b e=>k4 (s4 _ _ e) (nw (s4 _ _ e) (by intro z;cases z))) hws3) (Paired.imp' (λx b e=>k4 e (nw e (by intro z;cases z))) hP4)
def xa5 (cS:Addr):Sp:=λvs H Q _=>∃(A:StA) (n:Nat) (md:List (List Nat)) (i:Nat) (s:StS),vs=[.ref A.a]/\Z3 cS n md H A i s/\s.lk<=s.wt.length/\s.wt.length<=1000000 /\
 (s.lk=s.wt.length->Q .non H)/\∀(x:Nat×Nat) (r:Addr) (H':Hp),s.wt[s.lk]?=some x->H' r=some (.tup [.int (x.1:Int),.int (x.2:Int)])->x9 [A.a] H H'->Z3 cS n md H' A i { s with lk:=s.lk+1 }->Q (.ref r) H'
theorem zc2:v1 ["self"] ["self"] (y6 T4):=scq
theorem zb3 {cS:Addr}(F:Fun K "next_pair" "Step.next_pair" T4 f fd) (B:Blt mg) (cs:h8 K cS O5):p6 P w K mg base CX0 1 f fd ["self"] (xa5 cS):=by
 refine F.ok zc2 (λvs H Q E h=>?_) (λcdv Ar outer s H vs Q E hr h=>?_)
 ·obtain ⟨A,n,md,i,s,rfl,_⟩:=h
  rfl
 obtain ⟨A,n,md,i,s,rfl,st,hlk,hwl,q1,q2⟩:=h
 obtain ⟨⟨dx,ha⟩,hm,hlt,⟨bs,hbf,hbs⟩,⟨ws,hw,hws⟩⟩:=id st
 have hz:=W3
 have hwsl:ws.length=s.wt.length:=Paired.length hws
 refine ⟨_,z6 (k8 (o4 O3 (w6 (pv 0) rfl) (v8 u6 rfl B.len g7 (z0 (w6 (pv 0) rfl) z4)) (p7 _)) (z9 (v7 yi3)) u8)
  (z6 (ys1 (pv 0) z8 xd4)
  (z9 (v7 (l9 p8 (w6 (pv 0) rfl) (v0 zv5 (w6 (pv 0) rfl) z8) (λ_ _=>rfl))))),?_⟩
 refine ⟨_,rfl,A.a,cS,dx,_,_,rfl,ha,cs.cls,cs.no "looked_at" (by decide),rfl,_,rfl,A.a,cS,dx,_,_,rfl,ha,cs.cls,cs.no "waiting" (by decide),rfl,A.w,_,rfl,.inl (SqL.of hw),rfl,_,rfl,yw4 (λc=>?_) (λc=>?_)⟩
 ·rw [o7,ae,hwsl] at c
  exact q1 (by have:=of_decide_eq_true c;lia)
 ·rw [o7,ae,hwsl] at c
  have hlt':s.lk<s.wt.length:=by have:=of_decide_eq_false (cE.mpr c);lia
  refine ⟨_,rfl,A.a,cS,dx,_,_,rfl,ha,cs.cls,cs.no "looked_at" (by decide),rfl,_,_,rfl,rfl,dx,_,ha,(by show 6<1000;decide),?_⟩
  have e1:(upd H A.a (.ins cS dx (X2 "looked_at" (V.int ((s.lk:Int)+1)) [("place",.int i),("movers",.ref A.m),("line_to",.ref A.lt),("back_from",.ref A.bf),("waiting",.ref A.w),("looked_at",.int (s.lk:Int))]))) A.a=some (.ins cS dx [("place",.int i),("movers",.ref A.m),("line_to",.ref A.lt),("back_from",.ref A.bf),("waiting",.ref A.w),("looked_at",.int ((s.lk+1:Nat):Int))]):=by
   rw [z5,show ((s.lk+1:Nat):Int)=(s.lk:Int)+1 by lia]
   rfl
  have fr:x9 [A.a] H (upd H A.a (.ins cS dx (X2 "looked_at" (V.int ((s.lk:Int)+1)) [("place",.int i),("movers",.ref A.m),("line_to",.ref A.lt),("back_from",.ref A.bf),("waiting",.ref A.w),("looked_at",.int (s.lk:Int))]))):=x9.upd x9.refl (by simp) _
  generalize upd H A.a (.ins cS dx (X2 "looked_at" (V.int ((s.lk:Int)+1)) [("place",.int i),("movers",.ref A.m),("line_to",.ref A.lt),("back_from",.ref A.bf),("waiting",.ref A.w),("looked_at",.int (s.lk:Int))]))=H1 at e1 fr ⊢
  have k:∀{b:Addr} {o:HO},H b=some o->o≠.ins cS dx [("place",.int i),("movers",.ref A.m),("line_to",.ref A.lt),("back_from",.ref A.bf),("waiting",.ref A.w),("looked_at",.int (s.lk:Int))]->H1 b=some o:=λ{b o} h d=>fr b o (by simpa using i8 h ha d) h
  have hx:s.wt[s.lk]?=some s.wt[s.lk]:=aa hlt'
  obtain ⟨r,hr1,hr2⟩:=X0 hws s.lk _ hx
  have hw1:=k hw (by intro z;cases z)
  have gi:atI (ws.map V.ref) ((s.lk:Nat):Int)=some (V.ref r):=i4 (by rw [ag,hr1];rfl)
  refine ⟨_,rfl,A.a,cS,dx,_,_,rfl,e1,cs.cls,cs.no "waiting" (by decide),rfl,_,rfl,A.a,cS,dx,_,_,rfl,e1,cs.cls,cs.no "looked_at" (by decide),rfl,_,_,rfl,rfl,A.w,_,_,_,rfl,rfl,SqL.of hw1,?_,q2 _ r H1 hx (k hr2 (by intro z;cases z)) fr ⟨⟨dx,e1⟩,k hm (by intro z;cases z),k hlt (by intro z;cases z),⟨bs,k hbf (by intro z;cases z),Paired.imp' (λx b e=>k e (by intro z;cases z)) hbs⟩,⟨ws,hw1,Paired.imp' (λx b e=>k e (by intro z;cases z)) hws⟩⟩⟩
  rw [show ((s.lk+1:Nat):Int)-1=((s.lk:Nat):Int) by lia]
  exact gi
structure r6 (cC cB cS:Addr) (n:Nat) (H:Hp) (A:ChA) (S:ChS):Prop where
 nd:A.all.Nodup
 c:∃dx,H A.c=some (.ins cC dx [("book",.ref A.b),("steps",.ref A.l)])
 bk:U5 cB H A S
 l:H A.l=some (.lst (A.st.map λs=>V.ref s.a))
 len:A.st.length=n/\S.st.length=n
 st:∀i a s,A.st[i]?=some a->S.st[i]?=some s->Z3 cS n S.md H a i s
def Y4:List Str:=["book","steps"]
theorem Z3.same {cS:Addr}{n:Nat}{md:List (List Nat)}{H H':Hp}{A:StA}{i:Nat}{s:StS}(h:Z3 cS n md H A i s)(k:y4 H H'):Z3 cS n md H' A i s :=
 ⟨h.a.imp λ_ e=>k _ _ e,k _ _ h.m,k _ _ h.lt,h.bf.imp λ_ e=>⟨k _ _ e.1,Paired.imp' (λ_ _ z=>k _ _ z) e.2⟩,h.w.imp λ_ e=>⟨k _ _ e.1,e.2.same k⟩⟩
theorem r6.same {cC cB cS:Addr}{n:Nat}{H H':Hp}{A:ChA}{S:ChS}(h:r6 cC cB cS n H A S)(k:y4 H H'):r6 cC cB cS n H' A S :=
 ⟨h.nd,h.c.imp λ_ e=>k _ _ e,h.bk.same k,k _ _ h.l,h.len,λi a s ha hs=>(h.st i a s ha hs).same k⟩
def M1 (n:Nat)(md:List (List Nat)):List StS->Nat->List Nat->List Nat->Option (List Nat)
 | [],_,_,acc=>some acc
 | s::r,j,x,acc=>match atN s.to (x.getD j 0) with
  | none=>none
  | some k=>if x.getD j 0=j then M1 n md r (j+1) x acc else M1 n md r (j+1) (TM.beh x (TM.bk n (md.getD k []))) (acc++[k])
structure ChS.Well (n:Nat) (S:ChS):Prop where
 md:∀t∈S.md,TM.IsT n t
 to:∀s∈S.st,∀x∈s.to,x.1<n/\x.2<S.md.length
 mv:∀s∈S.st,∀k∈s.mv,k<S.md.length
theorem T8 {α:Type}{l:List (Nat×α)}{p:Nat}{k:α}(h:atN l p=some k):(p,k)∈l:=by
 unfold atN at h
 cases e:l.find? (λx=>decide (x.1=p)) with
 | none=>rw [e] at h;cases h
 | some x =>
  rw [e] at h
  have h1:=List.find?_some e
  have h2:=List.mem_of_find?_eq_some e
  have e1:x.1=p:=by simpa using h1
  have e2:x.2=k:=by simpa using h
  rw [←e1,←e2]
  exact h2
theorem ChS.Well.at {n:Nat}{S:ChS}(h:S.Well n){k:Nat}(hk:k<S.md.length):TM.IsT n (S.md.getD k []):=h.md _ (ax (T9 [] hk))
theorem K8 {F:Nat×Nat->Addr->Prop}:∀{to:List (Nat×Nat)} {bs:List Addr},Paired F to bs->∀{p k:Nat},atN to p=some k->∃b,J5 (kR to bs) (Sum.inl (p:Int))=some (V.ref b)/\F (p,k) b
 | _,_,.nil,p,k,h=>by cases h
 | x::to,b::bs,.cons f r,p,k,h=>by
  by_cases hx:x.1=p
  ·have e:atN (x::to) p=some x.2:=by unfold atN;rw [dq (by simpa using hx)];rfl
   rw [e] at h
   have hk:x.2=k:=Option.some.inj h
   refine ⟨b,M4 (p:=(Sum.inl (x.1:Int),V.ref b)) (by show (Sum.inl (x.1:Int):Key)=_;rw [hx]),?_⟩
   rw [←hx,←hk]
   exact f
  ·have e:atN (x::to) p=atN to p:=by unfold atN;rw [dr (by simpa using hx)]
   rw [e] at h
   obtain ⟨b',h1,h2⟩:=K8 r h
   refine ⟨b',?_,h2⟩
   rw [←h1]
   exact O1 (p:=(Sum.inl (x.1:Int),V.ref b)) λz=>hx (by have:=Sum.inl.inj z;lia)
def yj7 (cC cB cS:Addr):Sp:=λvs H Q _=>∃(A:ChA) (S:ChS) (n lv:Nat) (tr:Addr) (x:List Nat),vs=[.ref A.c,.ref tr,.int lv]/\r6 cC cB cS n H A S/\S.Well n/\H tr=some (.tup (tI x))/\TM.IsT n x/\lv<=n/\n<=60 /\
 (M1 n S.md (S.st.drop lv) lv x []=none->∀H':Hp,y4 H H'->Q .non H')/\∀(ls:List Nat) (r:Addr) (H':Hp),M1 n S.md (S.st.drop lv) lv x []=some ls->H r=none->y4 H H'->H' r=some (.lst (tI ls))->Q (.ref r) H'
theorem d0:v1 ["self","turning","level","lines","here","step","to"] ["self","turning","level"] (y6 U0):=scq
theorem zz1 {xs:List V}{k:Nat}(hk:k<=xs.length):A8 xs (some (k:Int)) none=xs.drop k:=by
 unfold A8
 rw [HT.sIx_none,HT.sIx_nat,eA hk,bF (by rw [be];exact af _)]
theorem zh3 {cC cB cS:Addr}(F:Fun K "sifted" "Chain.sifted" U0 f fd) (B:Blt mg) (cc:h8 K cC Y4) (cs:h8 K cS O5) (KB:r8 P w K mg base 1 "behind" ["one","other"] (M2 K)):p6 P w K mg base CX0 2 f fd ["self","turning","level"] (yj7 cC cB cS):=by
 refine F.ok d0 (λvs H Q E h=>?_) (λcdv Ar outer sh H vs Q E hr h=>?_)
 ·obtain ⟨A,S,n,lv,tr,x,rfl,_⟩:=h
  rfl
 obtain ⟨A,S,n,lv,tr,x,rfl,ch,wl,htr,hx,hlv,hn,q1,q2⟩:=h
 have hz:=W3
 have hu:(Ar.deeper (PyProof.Rows.envOfC "Chain.sifted" (y6 U0) sh.heap.objs.size f cdv)).units+1<cLine:=by have:=hr.units;lia
 obtain ⟨dx,hc⟩:=ch.c
 refine ⟨_,z6 (y9 (i:=3) d0.nd rfl (Or.inl rfl) (b9 z4))
  (z6 (y9 (i:=4) d0.nd rfl (Or.inl rfl) (pv 1))
  (z6 (W7 PassesOwn.never rfl (W1 (G8 zc7 (w6 (pv 0) rfl) (L5 (pv 2)) zw3)) (m7 (i:=5) d0.nd rfl (Or.inl rfl))
   (z6 (y9 (i:=6) d0.nd rfl (Or.inl rfl) (l9 N0 (pv 4) (w6 (pv 5) rfl) (λ_ _=>rfl)))
   (z6 (k8 (zm7 (D2 hu (pv 6) (w6 (pv 5) rfl))) (z9 (v7 yi3)) u8)
   (z9 (k8 (o4 yc5 (pv 6) (w6 (pv 5) rfl) (p7 _))
    (z6 (h9 (J1 PySem.F.plainAttrs_list PySem.F.slot_list_append PySem.F.type_list_append b8 (pv 3) (z0 (L4 hu (w6 (pv 5) rfl) (pv 6) (λ_ _=>rfl)) z4)))
    (z9 (y9 (i:=4) d0.nd rfl (Or.inl rfl) (u4 KB hr rfl (z0 (pv 4) (z0 (L4 hu (w6 (pv 5) rfl) (pv 6) (λ_ _=>rfl)) z4)))))) u8)))))
  (z9 (v7 (pv 3))))),?_⟩
 refine ⟨(by show 0<=sizeLine;lia),λl hl=>?_⟩
 have s0:=y8 hl (.lst [])
 have el:(upd H l (.lst [])) l=some (.lst (tI [])):=z5
 generalize upd H l (.lst [])=H1 at s0 el ⊢
 have hstl:(A.st.map λs=>V.ref s.a).length=n:=by rw [ae];exact ch.len.1
 refine ⟨_,rfl,_,rfl,A.c,cC,dx,_,_,rfl,s0 _ _ hc,cc.cls,cc.no "steps" (by decide),rfl,_,rfl,_,rfl,A.l,_,rfl,SqL.of (s0 _ _ ch.l),λp hp=>?_⟩
 rw [zz1 (by rw [hstl];exact hlv)]
 have s1:=s0.trans (y8 hp (.lst ((A.st.map λs=>V.ref s.a).drop lv)))
 have ep:(upd H1 p (.lst ((A.st.map λs=>V.ref s.a).drop lv))) p=some (.lst ((A.st.map λs=>V.ref s.a).drop lv)):=z5
 have el1:=y8 hp (.lst ((A.st.map λs=>V.ref s.a).drop lv)) _ _ el
 generalize upd H1 p (.lst ((A.st.map λs=>V.ref s.a).drop lv))=H2 at s1 ep el1 ⊢
 have hpl:p≠l:=λz=>by
  subst z
  rw [el] at hp
  cases hp
 have hplace:∀j,j<n->∃a s,A.st[j]?=some a/\S.st[j]?=some s:=λj hj=>⟨_,_,aa (by rw [ch.len.1];exact hj),aa (by rw [ch.len.2];exact hj)⟩
 refine ⟨p,rfl,⟨_,SqL.of ep⟩,R4 (xs:=(A.st.map λs=>V.ref s.a).drop lv) (λi σ Hh=>∃(ls:List Nat) (ha:Addr) (y:List Nat) (v5 v6:Option V),σ=[some (.ref A.c),some (.ref tr),some (.int lv),some (.ref l),some (.ref ha),v5,v6]/\y4 H Hh/\Hh p=some (.lst ((A.st.map λs=>V.ref s.a).drop lv))/\Hh l=some (.lst (tI ls))/\Hh ha=some (.tup (tI y))/\TM.IsT n y/\M1 n S.md (S.st.drop (lv+i)) (lv+i) y ls=M1 n S.md (S.st.drop lv) lv x []/\ls.length<=i)
  ⟨[],tr,x,none,none,rfl,s1,ep,el1,s1 _ _ htr,hx,rfl,af _⟩ (λi σ Hh _ ⟨_,_,_,_,_,_,_,hpp,_⟩=>SqL.of hpp) ?_ ?_⟩
 ·rintro i v σ Hh hv ⟨ls,ha,y,v5,v6,rfl,ss,hpp,hll,hha,hy,hsf,hls⟩
  rw [cY,ag] at hv
  have hj:lv+i<n:=by
   cases e:A.st[lv+i]? with
   | none=>rw [e] at hv;cases hv
   | some a=>have:=(ap.mp e).1;rwa [ch.len.1] at this
  obtain ⟨a,s,hA,hs⟩:=hplace (lv+i) hj
  rw [hA] at hv
  cases hv
  have st:=(ch.st _ _ _ hA hs).same ss
  obtain ⟨dxs,hsa⟩:=st.a
  obtain ⟨bs,hbf,hbs⟩:=st.bf
  have hsm:s∈S.st:=ax hs
  have hdrop:S.st.drop (lv+i)=s::S.st.drop (lv+i+1):=by
   have:=bp (l:=S.st) (i:=lv+i) (by rw [ch.len.2];exact hj)
   rw [this]
   congr 1
   exact Option.some.inj ((aa (by rw [ch.len.2];exact hj)).symm.trans hs)
  rw [hdrop,M1] at hsf
  refine ⟨_,rfl,_,rfl,a.a,cS,dxs,_,_,rfl,hsa,cs.cls,cs.no "place" (by decide),rfl,ha,_,_,_,rfl,rfl,SqT.of hha,O6 (hy.get_step hj),?_⟩
  refine ⟨_,rfl,_,rfl,a.a,cS,dxs,_,_,rfl,hsa,cs.cls,cs.no "line_to" (by decide),rfl,a.lt,_,rfl,U6.k (k:=Sum.inl ((y.getD (lv+i) 0:Nat):Int)) st.lt,_,rfl,?_⟩
  rw [R1]
  cases ea:atN s.to (y.getD (lv+i) 0) with
  | none =>
   rw [ea] at hsf
   refine b6 ?_
   exact q1 hsf.symm Hh ss
  | some k =>
   rw [ea] at hsf
   dsimp only at hsf
   refine k9 ?_
   have hk:k<S.md.length:=(wl.to s hsm _ (T8 ea)).2
   have hkT:=wl.at hk
   refine ⟨_,rfl,_,rfl,a.a,cS,dxs,_,_,rfl,hsa,cs.cls,cs.no "place" (by decide),rfl,rfl,_,rfl,?_⟩
   rw [o7]
   by_cases hto:y.getD (lv+i) 0=lv+i
   ·rw [decide_eq_true (by rw [hto])]
    rw [if_pos hto] at hsf
    exact k9 ⟨ls,ha,y,_,_,rfl,ss,hpp,hll,hha,hy,hsf,by lia⟩
   ·rw [decide_eq_false (by lia)]
    rw [if_neg hto] at hsf
    refine b6 ?_
    have g1:U6 Hh a.lt (kV (Sum.inl ((y.getD (lv+i) 0:Nat):Int))) (some (V.int k)):=by
     have g:=U6.k (k:=Sum.inl ((y.getD (lv+i) 0:Nat):Int)) st.lt
     rwa [R1,ea] at g
    refine ⟨_,rfl,.inl ⟨rfl,_,SqL.of hll⟩,_,rfl,a.a,cS,dxs,_,_,rfl,hsa,cs.cls,cs.no "line_to" (by decide),rfl,_,rfl,a.lt,_,rfl,g1,l,_,_,rfl,rfl,hll,by rw [u5];lia,?_⟩
    have kk:∀{b:Addr} {o:HO},H b=some o->(upd Hh l (.lst (tI ls++[V.int k]))) b=some o:=λ{b o} h=>by rw [z7 (y0 h hl)];exact ss _ _ h
    have ss2:y4 H (upd Hh l (.lst (tI ls++[V.int k]))):=λb o h=>kk h
    have hll2:(upd Hh l (.lst (tI ls++[V.int k]))) l=some (.lst (tI (ls++[k]))):=by rw [z5,zf4];rfl
    have hpp2:(upd Hh l (.lst (tI ls++[V.int k]))) p=some (.lst ((A.st.map λs=>V.ref s.a).drop lv)):=by rw [z7 hpl];exact hpp
    have hha2:(upd Hh l (.lst (tI ls++[V.int k]))) ha=some (.tup (tI y)):=by rw [z7 (i8 hha hll (by intro z;cases z))];exact hha
    generalize upd Hh l (.lst (tI ls++[V.int k]))=H4 at ss2 hll2 hpp2 hha2 ⊢
    have st2:=(ch.st _ _ _ hA hs).same ss2
    obtain ⟨dxs2,hsa2⟩:=st2.a
    obtain ⟨bs2,hbf2,hbs2⟩:=st2.bf
    obtain ⟨bb,hv2,hbb⟩:=K8 hbs2 ea
    have g2:U6 H4 a.bf (kV (Sum.inl ((y.getD (lv+i) 0:Nat):Int))) (some (V.ref bb)):=by
     have g:=U6.k (k:=Sum.inl ((y.getD (lv+i) 0:Nat):Int)) hbf2
     rwa [hv2] at g
    refine ⟨_,rfl,_,rfl,a.a,cS,dxs2,_,_,rfl,hsa2,cs.cls,cs.no "back_from" (by decide),rfl,_,rfl,a.bf,_,rfl,g2,ha,bb,y,_,rfl,SqT.of hha2,SqT.of hbb,by rw [hy.length];lia,λz hz'=>by rw [hkT.bk.length];exact hy.lt hz',λr H5 hr5 s5 hrr=>?_⟩
    exact ⟨ls++[k],r,_,_,_,rfl,ss2.trans s5,s5 _ _ hpp2,s5 _ _ hll2,hrr,hy.beh hkT.bk,hsf,by rw [aq,bn];lia⟩
 ·rintro σ Hh ⟨ls,ha,y,v5,v6,rfl,ss,hpp,hll,hha,hy,hsf,hls⟩
  rw [be,hstl,show lv+(n-lv)=n by lia,dw (by rw [ch.len.2];exact af _),M1] at hsf
  exact ⟨_,rfl,q2 ls l Hh hsf.symm hl ss hll⟩
def D4 (cC cB cS:Addr):Sp:=λvs H Q _=>∃(A:ChA) (S:ChS) (n lv:Nat) (tr:Addr) (x:List Nat),vs=[.ref A.c,.ref tr,.int lv]/\r6 cC cB cS n H A S/\S.Well n/\H tr=some (.tup (tI x))/\TM.IsT n x/\lv<=n/\n<=60 /\
 ∀H':Hp,y4 H H'->Q (.bl (M1 n S.md (S.st.drop lv) lv x []).isSome) H'
theorem zn0:v1 ["self","turning","level"] ["self","turning","level"] (y6 N2):=scq
theorem zl5 {cC cB cS:Addr}(F:Fun K "holds" "Chain.holds" N2 f fd) (B:Blt mg) (cc:h8 K cC Y4) (MS:Z1 P w K mg base 2 cC "sifted" ["self","turning","level"] (yj7 cC cB cS)):p6 P w K mg base CX0 3 f fd ["self","turning","level"] (D4 cC cB cS):=by
 refine F.ok zn0 (λvs H Q E h=>?_) (λcdv Ar outer sh H vs Q E hr h=>?_)
 ·obtain ⟨A,S,n,lv,tr,x,rfl,_⟩:=h
  rfl
 obtain ⟨A,S,n,lv,tr,x,rfl,ch,wl,htr,hx,hlv,hn,q⟩:=h
 obtain ⟨dx,hc⟩:=ch.c
 refine ⟨_,z9 (v7 (S9 xe7 (c5 cc.cls MS hr (pv 0) (z0 (pv 1) (z0 (pv 2) z4))) yi3 (p7 _))),?_⟩
 refine ⟨_,rfl,A.c,dx,_,rfl,hc,rfl,_,rfl,_,rfl,A,S,n,lv,tr,x,rfl,ch,wl,htr,hx,hlv,hn,λe H' s'=>⟨rfl,?_⟩,λls r H' e hr' s' hrr=>⟨rfl,?_⟩⟩
 ·have:=q H' s'
  rw [e] at this
  exact this
 ·have:=q H' s'
  rw [e] at this
  exact this
theorem ChA.head_ne {A:ChA}(h:A.all.Nodup){i:Nat}{a:StA}(ha:A.st[i]?=some a){x y:Addr}(hx:x∈[A.c,A.b,A.ll,A.lm,A.d,A.l])(hy:y∈a.all):x≠y:=by
 unfold ChA.all at h
 exact (bj.mp h).2.2 x hx y (cO.mpr ⟨a.all,aw.mpr ⟨a,ax ha,rfl⟩,hy⟩)
theorem ChA.step_nd {A:ChA}(h:A.all.Nodup){i:Nat}{a:StA}(ha:A.st[i]?=some a):a.all.Nodup:=by
 unfold ChA.all at h
 exact (List.pairwise_flatten.mp (bj.mp h).2.1).1 a.all (aw.mpr ⟨a,ax ha,rfl⟩)
theorem ChA.step_ne {A:ChA}(h:A.all.Nodup){i j:Nat}{a b:StA}(ha:A.st[i]?=some a)(hb:A.st[j]?=some b)(hij:i≠j){x y:Addr}(hx:x∈a.all)(hy:y∈b.all):x≠y:=by
 unfold ChA.all at h
 have p:=(List.pairwise_flatten.mp (bj.mp h).2.1).2
 have hai:(A.st.map StA.all)[i]?=some a.all:=by rw [ag,ha];rfl
 have hbj:(A.st.map StA.all)[j]?=some b.all:=by rw [ag,hb];rfl
 obtain ⟨li,ei⟩:=ap.mp hai
 obtain ⟨lj,ej⟩:=ap.mp hbj
 rcases Nat.lt_or_gt_of_ne hij with q|q
 ·have r:=aX.mp p i j li lj q
  rw [ei,ej] at r
  exact r x hx y hy
 ·have r:=aX.mp p j i lj li q
  rw [ei,ej] at r
  exact Ne.symm (r y hy x hx)
theorem ChA.head_nd {A:ChA}(h:A.all.Nodup):[A.c,A.b,A.ll,A.lm,A.d,A.l].Nodup:=by
 unfold ChA.all at h
 exact (bj.mp h).1
theorem Z3.frame {cS:Addr}{n:Nat}{md:List (List Nat)}{F:List Addr}{H H':Hp}{a:StA}{i:Nat}{s:StS}(h:Z3 cS n md H a i s)(fr:x9 F H H')(hF:∀x∈F,x∉a.all/\∀xs,H x≠some (.tup xs)):Z3 cS n md H' a i s:=by
 have k:∀{b:Addr} {o:HO},H b=some o->b∈a.all->H' b=some o:=λ{b o} e hb=>fr b o (λz=>(hF b z).1 hb) e
 have kt:∀{b:Addr} {xs:List V},H b=some (.tup xs)->H' b=some (.tup xs):=λ{b xs} e=>fr b _ (λz=>(hF b z).2 xs e) e
 exact ⟨h.a.imp λ_ e=>k e (by simp [StA.all]),k h.m (by simp [StA.all]),k h.lt (by simp [StA.all]),h.bf.imp λ_ e=>⟨k e.1 (by simp [StA.all]),Paired.imp' (λ_ _ z=>kt z) e.2⟩,h.w.imp λ_ e=>⟨k e.1 (by simp [StA.all]),Paired.imp' (λ_ _ z=>kt z) e.2⟩⟩
theorem Z3.more {cS:Addr}{n:Nat}{md md':List (List Nat)}{H:Hp}{a:StA}{i:Nat}{s:StS}(h:Z3 cS n md H a i s)(hm:∀x∈s.to,md'.getD x.2 []=md.getD x.2 []):Z3 cS n md' H a i s:=by
 obtain ⟨ha,hm',hlt,⟨bs,hbf,hbs⟩,hw⟩:=h
 refine ⟨ha,hm',hlt,⟨bs,hbf,?_⟩,hw⟩
 have all:∀{to:List (Nat×Nat)} {bs:List Addr},(∀x∈to,md'.getD x.2 []=md.getD x.2 [])->Paired (λ(x:Nat×Nat) b=>H b=some (.tup (tI (TM.bk n (md.getD x.2 []))))) to bs->Paired (λ(x:Nat×Nat) b=>H b=some (.tup (tI (TM.bk n (md'.getD x.2 []))))) to bs:=by
  intro to bs hx p
  induction p with
  | nil=>exact .nil
  | cons f _ ih=>exact .cons (by rw [hx _ au];exact f) (ih λx h=>hx x (ao _ h))
 exact all hm hbs
theorem r6.book {cC cB cS:Addr}{n:Nat}{H H':Hp}{A:ChA}{S S':ChS}(h:r6 cC cB cS n H A S)(fr:x9 [A.ll,A.lm,A.d] H H')(bk:U5 cB H' A S')(hst:S'.st=S.st)(hmd:∀s∈S.st,∀x∈s.to,S'.md.getD x.2 []=S.md.getD x.2 []):r6 cC cB cS n H' A S':=by
 obtain ⟨las,hll,_⟩:=h.bk.ll
 obtain ⟨mas,hlm,_⟩:=h.bk.lm
 have hd:=h.bk.d
 obtain ⟨dx,hc⟩:=h.c
 have nd:=ChA.head_nd h.nd
 simp only [aK,ay,aP,not_or,or_false] at nd
 have nt:∀x∈[A.ll,A.lm,A.d],∀xs,H x≠some (.tup xs):=λx hx xs z=>by
  rcases ay.mp hx with e|hx
  ·rw [e,hll] at z;cases z
  ·rcases ay.mp hx with e|hx
   ·rw [e,hlm] at z;cases z
   ·rw [ah.mp hx,hd] at z;cases z
 refine ⟨h.nd,⟨dx,fr _ _ (λz=>by
   rcases ay.mp z with e|z
   ·exact i8 hc hll (by intro q;cases q) e
   ·rcases ay.mp z with e|z
    ·exact i8 hc hlm (by intro q;cases q) e
    ·exact i8 hc hd (by intro q;cases q) (ah.mp z)) hc⟩,bk,fr _ _ ?_ h.l,⟨h.len.1,by rw [hst];exact h.len.2⟩,λi a s ha hs=>?_⟩
 ·intro z
  rcases ay.mp z with e|z
  ·exact nd.2.2.1.2.2 e.symm
  ·rcases ay.mp z with e|z
   ·exact nd.2.2.2.1.2 e.symm
   ·exact nd.2.2.2.2.1 (ah.mp z).symm
 ·rw [hst] at hs
  refine ((h.st i a s ha hs).more (hmd s (ax hs))).frame fr λx hx=>⟨λhy=>?_,nt x hx⟩
  refine ChA.head_ne h.nd ha (x:=x) (y:=x) ?_ hy rfl
  simp at hx ⊢
  rcases hx with e|e|e <;> simp [e]
theorem r6.step {cC cB cS:Addr}{n:Nat}{H H':Hp}{A:ChA}{S:ChS}{F:List Addr}{j:Nat}{aj:StA}{s':StS}(h:r6 cC cB cS n H A S)(ha:A.st[j]?=some aj)(hF:∀x∈F,x∈aj.all/\∀xs,H x≠some (.tup xs))(fr:x9 F H H')(st:Z3 cS n S.md H' aj j s'):r6 cC cB cS n H' A { S with st:=S.st.set j s' }:=by
 have kh:∀{b:Addr} {o:HO},H b=some o->b∈[A.c,A.b,A.ll,A.lm,A.d,A.l]->H' b=some o:=λ{b o} e hb=>fr b o (λz=>ChA.head_ne h.nd ha hb (hF b z).1 rfl) e
 have kt:∀{b:Addr} {xs:List V},H b=some (.tup xs)->H' b=some (.tup xs):=λ{b xs} e=>fr b _ (λz=>(hF b z).2 xs e) e
 obtain ⟨dx,hc⟩:=h.c
 refine ⟨h.nd,⟨dx,kh hc (by simp)⟩,⟨h.bk.b.imp λ_ e=>kh e (by simp),h.bk.ll.imp λ_ e=>⟨kh e.1 (by simp),Paired.imp' (λ_ _ z=>kt z) e.2⟩,h.bk.lm.imp λ_ e=>⟨kh e.1 (by simp),Paired.imp' (λ_ _ z=>kt z) e.2⟩,kh h.bk.d (by simp),h.bk.len⟩,kh h.l (by simp),⟨h.len.1,by show (S.st.set j s').length=n;rw [bE];exact h.len.2⟩,λi a s hi hs=>?_⟩
 have hs:(S.st.set j s')[i]?=some s:=hs
 by_cases e:i=j
 ·subst e
  rw [ha] at hi
  cases hi
  rw [cf (by rw [h.len.2,←h.len.1];exact (ap.mp ha).1)] at hs
  cases hs
  exact st
 ·rw [bM (Ne.symm e)] at hs
  exact (h.st i a s hi hs).frame fr λx hx=>⟨λhy=>ChA.step_ne h.nd hi ha e hy (hF x hx).1 rfl,(hF x hx).2⟩
structure ChS.Fine (n:Nat) (S:ChS):Prop where
 wl:S.Well n
 md0:S.md.getD 0 []=List.range n
 pos:0<S.md.length
 lnl:S.ln.length=S.md.length
def ChS.atS (S:ChS)(j:Nat):StS:=S.st.getD j ⟨[],[],[],0⟩
def ChS.found (n:Nat)(S:ChS)(j p m:Nat):ChS×Bool :=
 let s:=S.atS j
 let k:=(atN s.to p).getD 0
 let t:=TM.beh (S.md.getD k []) (S.md.getD m [])
 match atN s.to (t.getD j 0) with
 | none=>({ (S.putB k m).2 with st:=S.st.set j (s.putP (t.getD j 0) (S.putB k m).1) },false)
 | some k2=>if (M1 n S.md (S.st.drop (j+1)) (j+1) (TM.beh t (TM.bk n (S.md.getD k2 []))) []).isSome then (S,false)
  else
   let S1:=(S.putB k m).2
   let S2:=(S1.putK n k2).2
   let S3:=(S2.putB (S.putB k m).1 (S1.putK n k2).1).2
   ({ S3 with st:=S.st.set (j+1) ((S.atS (j+1)).putM (S2.putB (S.putB k m).1 (S1.putK n k2).1).1) },true)
structure O8 (n:Nat) (S S':ChS) (k:Nat) (t:List Nat):Prop where
 st:S'.st=S.st
 md:∃l,S'.md=S.md++l
 fine:S'.Fine n
 lt:k<S'.md.length
 at':S'.md.getD k []=t
 len:S'.ln.length<=S.ln.length+1
theorem g9 {α:Type}{l m:List α}{i:Nat}{d:α}(h:i<l.length):(l++m).getD i d=l.getD i d:=by
 rw [ar,ar,aN h]
theorem ChS.Fine.put {n:Nat}{S:ChS}(f:S.Fine n){l:TM.Ln}{t:List Nat}(ht:TM.IsT n t):O8 n S (S.put l t) S.ln.length t:=by
 have el:(S.put l t).md=S.md++[t]:=rfl
 refine ⟨rfl,⟨[t],rfl⟩,⟨⟨λx hx=>?_,λs hs x hx=>?_,λs hs k hk=>?_⟩,?_,?_,?_⟩,?_,?_,?_⟩
 ·rw [el] at hx
  rcases aE.mp hx with h|h
  ·exact f.wl.md x h
  ·rw [ah.mp h];exact ht
 ·have:=f.wl.to s hs x hx
  rw [el,aq]
  exact ⟨this.1,by lia⟩
 ·have:=f.wl.mv s hs k hk
  rw [el,aq]
  lia
 ·rw [el,g9 f.pos];exact f.md0
 ·rw [el,aq];have:=f.pos;lia
 ·show (S.ln++[l]).length=(S.md++[t]).length
  rw [aq,aq,f.lnl]
  rfl
 ·rw [el,aq,f.lnl]
  show S.md.length<S.md.length+1
  lia
 ·rw [el,f.lnl,ar,bd (af _),cz]
  rfl
 ·show (S.ln++[l]).length<=_
  rw [aq]
  exact af _
theorem O8.refl {n:Nat}{S:ChS}(f:S.Fine n){k:Nat}(hk:k<S.md.length):O8 n S S k (S.md.getD k []):=⟨rfl,⟨[],(ca _).symm⟩,f,hk,rfl,bY _⟩
theorem ChS.Fine.putB {n:Nat}{S:ChS}(f:S.Fine n){i j:Nat}(hi:i<S.md.length)(hj:j<S.md.length):O8 n S (S.putB i j).2 (S.putB i j).1 (TM.beh (S.md.getD i []) (S.md.getD j [])):=by
 have ti:=f.wl.at hi
 have tj:=f.wl.at hj
 unfold ChS.putB
 by_cases e1:i=0
 ·rw [if_pos e1]
  have r:=O8.refl f hj
  rw [e1,f.md0,TM.still_beh tj]
  exact r
 ·rw [if_neg e1]
  by_cases e2:j=0
  ·rw [if_pos e2]
   have r:=O8.refl f hi
   rw [e2,f.md0,TM.beh_still ti]
   exact r
  ·rw [if_neg e2]
   exact f.put (ti.beh tj)
def yt6 (n:Nat)(S:ChS)(i:Nat):TM.Ln->List Nat->Prop
 | .still,t=>t=List.range n
 | .told k,t=>t=S.src k
 | .back a,t=>a<i/\t=TM.bk n (S.md.getD a [])
 | .behind a b,t=>a<i/\b<i/\t=TM.beh (S.md.getD a []) (S.md.getD b [])
def ChS.Mks (n:Nat)(S:ChS):Prop:=∀(i:Nat) (l:TM.Ln) (t:List Nat),S.ln[i]?=some l->S.md[i]?=some t->yt6 n S i l t
theorem yt6.more {n:Nat}{S S':ChS}{i:Nat}{l:TM.Ln}{t:List Nat}(h:yt6 n S i l t)(hi:i<=S.md.length)(hs:S'.src=S.src)(hm:∃m,S'.md=S.md++m):yt6 n S' i l t:=by
 obtain ⟨m,hm⟩:=hm
 cases l with
 | still=>exact h
 | told k=>exact h.trans (by rw [hs])
 | back a=>exact ⟨h.1,by rw [hm,g9 (aO h.1 hi)];exact h.2⟩
 | behind a b=>exact ⟨h.1,h.2.1,by rw [hm,g9 (aO h.1 hi),g9 (aO h.2.1 hi)];exact h.2.2⟩
theorem ChS.Mks.put {n:Nat}{S:ChS}(h:S.Mks n)(f:S.ln.length=S.md.length){l:TM.Ln}{t:List Nat}(hl:yt6 n S S.md.length l t):(S.put l t).Mks n:=by
 intro i l' t' h1 h2
 have h1:(S.ln++[l])[i]?=some l':=h1
 have h2:(S.md++[t])[i]?=some t':=h2
 by_cases c:i<S.md.length
 ·rw [aN (by lia)] at h1
  rw [aN c] at h2
  exact (h i l' t' h1 h2).more (bu c) rfl ⟨[t],rfl⟩
 ·have hi:i<(S.md++[t]).length:=(ap.mp h2).1
  rw [aq,bn] at hi
  have e:i=S.md.length:=by lia
  subst e
  rw [bd (by lia),show S.md.length-S.ln.length=0 by lia] at h1
  rw [bd (af _),cz] at h2
  cases h1
  cases h2
  exact hl.more (af _) rfl ⟨[t],rfl⟩
structure ChS.Backs (n:Nat) (S:ChS):Prop where
 bk:∀i k,atN S.bl i=some k->i<S.md.length/\k<S.md.length/\S.md.getD k []=TM.bk n (S.md.getD i [])
 mks:S.Mks n
theorem ChS.Backs.of {n:Nat}{S S':ChS}(b:S.Backs n)(hl:S'.ln=S.ln)(hm:S'.md=S.md)(hb:S'.bl=S.bl)(hs:S'.src=S.src):S'.Backs n:=by
 refine ⟨λi k h=>?_,λi l t h1 h2=>?_⟩
 ·rw [hb] at h
  rw [hm]
  exact b.bk i k h
 ·rw [hl] at h1
  rw [hm] at h2
  exact (b.mks i l t h1 h2).more (bu (ap.mp h2).1) hs ⟨[],by rw [hm,ca]⟩
theorem ChS.putB_src {S:ChS}(i j:Nat):(S.putB i j).2.src=S.src:=by
 unfold ChS.putB
 by_cases e1:i=0
 ·rw [if_pos e1]
 ·rw [if_neg e1]
  by_cases e2:j=0
  ·rw [if_pos e2]
  ·rw [if_neg e2];rfl
theorem ChS.putK_src {S:ChS}(n i:Nat):(S.putK n i).2.src=S.src:=by
 unfold ChS.putK
 cases e:atN S.bl i with
 | some k=>rfl
 | none=>rfl
theorem ChS.Backs.putB {n:Nat}{S:ChS}(b:S.Backs n)(f:S.ln.length=S.md.length){k m:Nat}(hk:k<S.md.length)(hm:m<S.md.length):(S.putB k m).2.Backs n/\(S.putB k m).2.bl=S.bl:=by
 unfold ChS.putB
 by_cases e1:k=0
 ·rw [if_pos e1];exact ⟨b,rfl⟩
 ·rw [if_neg e1]
  by_cases e2:m=0
  ·rw [if_pos e2];exact ⟨b,rfl⟩
  ·rw [if_neg e2]
   refine ⟨⟨λi' k' h=>?_,b.mks.put f ⟨hk,hm,rfl⟩⟩,rfl⟩
   obtain ⟨h1,h2,h3⟩:=b.bk i' k' h
   have hmd':(S.put (.behind k m) (TM.beh (S.md.getD k []) (S.md.getD m []))).md=S.md++[TM.beh (S.md.getD k []) (S.md.getD m [])]:=rfl
   refine ⟨by rw [hmd',aq];lia,by rw [hmd',aq];lia,?_⟩
   rw [hmd',g9 h2,g9 h1,h3]
theorem ChS.Fine.putK {n:Nat}{S:ChS}(f:S.Fine n)(b:S.Backs n){i:Nat}(hi:i<S.md.length):O8 n S (S.putK n i).2 (S.putK n i).1 (TM.bk n (S.md.getD i []))/\(S.putK n i).2.Backs n:=by
 unfold ChS.putK
 cases e:atN S.bl i with
 | some k =>
  obtain ⟨h1,h2,h3⟩:=b.bk i k e
  rw [←h3]
  exact ⟨O8.refl f h2,b⟩
 | none =>
  have m:=f.put (l:=.back i) (f.wl.at hi).bk
  have mks:=b.mks.put f.lnl (l:=.back i) (t:=TM.bk n (S.md.getD i [])) ⟨hi,rfl⟩
  refine ⟨⟨m.st,m.md,⟨⟨m.fine.wl.md,m.fine.wl.to,m.fine.wl.mv⟩,m.fine.md0,m.fine.pos,m.fine.lnl⟩,m.lt,m.at',m.len⟩,⟨λi' k' h=>?_,mks⟩⟩
  have h:atN (S.bl++[(i,S.ln.length)]) i'=some k':=h
  have hmd:(S.put (.back i) (TM.bk n (S.md.getD i []))).md=S.md++[TM.bk n (S.md.getD i [])]:=rfl
  show i'<(S.put (.back i) (TM.bk n (S.md.getD i []))).md.length/\k'<(S.put (.back i) (TM.bk n (S.md.getD i []))).md.length/\(S.put (.back i) (TM.bk n (S.md.getD i []))).md.getD k' []=TM.bk n ((S.put (.back i) (TM.bk n (S.md.getD i []))).md.getD i' [])
  by_cases ei:i'=i
  ·subst ei
   rw [zi9 e] at h
   cases h
   refine ⟨by rw [hmd,aq];lia,m.lt,?_⟩
   rw [m.at',hmd,g9 hi]
  ·have h':atN S.bl i'=some k':=by
    unfold atN at h ⊢
    rw [eJ] at h
    cases q:S.bl.find? (λx=>decide (x.1=i')) with
    | some x=>rw [q] at h;exact h
    | none =>
     rw [q] at h
     simp [Ne.symm ei] at h
   obtain ⟨h1,h2,h3⟩:=b.bk i' k' h'
   refine ⟨by rw [hmd,aq];lia,by rw [hmd,aq];lia,?_⟩
   rw [hmd,g9 h2,g9 h1,h3]
structure ChS.Few (S:ChS):Prop where
 ln:S.ln.length<9999000
 bl:S.bl.length<9999000
 st:∀s∈S.st,s.mv.length<100000/\s.to.length<=60/\s.wt.length<=900000
def yn4 (cC cB cS:Addr):Sp:=λvs H Q _=>∃(A:ChA) (S:ChS) (n j p m k:Nat),vs=[.ref A.c,.int j,.int p,.int m]/\r6 cC cB cS n H A S/\S.Fine n/\S.Backs n/\S.Few/\n<=60/\j<n/\atN (S.atS j).to p=some k/\m<S.md.length /\
 ∀H':Hp,x9 A.all H H'->r6 cC cB cS n H' A (S.found n j p m).1->Q (.bl (S.found n j p m).2) H'
theorem m4:v1 ["self","level","place","mover","step","line","made","to","ahead"] ["self","level","place","mover"] (y6 b7):=scq
theorem ChS.atS_of {S:ChS}{j:Nat}{s:StS}(h:S.st[j]?=some s):S.atS j=s:=by unfold ChS.atS;rw [ar,h];rfl
theorem x9.all {A:ChA}{F:List Addr}{H H':Hp}(h:x9 F H H')(hF:∀x∈F,x∈[A.c,A.b,A.ll,A.lm,A.d,A.l]):x9 A.all H H':=h.more λx hx=>by unfold ChA.all;exact aJ _ (hF x hx)
theorem x9.allS {A:ChA}{F:List Addr}{H H':Hp}{j:Nat}{a:StA}(h:x9 F H H')(ha:A.st[j]?=some a)(hF:∀x∈F,x∈a.all):x9 A.all H H':=h.more λx hx=>by
 unfold ChA.all
 exact aD _ (cO.mpr ⟨a.all,aw.mpr ⟨a,ax ha,rfl⟩,hF x hx⟩)
theorem G6 {cC cB cS:Addr}(F:Fun K "found_mover" "Chain.found_mover" b7 f fd) (B:Blt mg) (cc:h8 K cC Y4) (cb:h8 K cB zf9) (cs:h8 K cS O5) (KB:r8 P w K mg base 1 "behind" ["one","other"] (M2 K))
  (MPP:Z1 P w K mg base 2 cS "put_place" ["self","place","line","turning"] (xa8 cS)) (MPB:Z1 P w K mg base 2 cB "put_behind" ["self","one","other"] (xa6 cB)) (MPK:Z1 P w K mg base 2 cB "put_back" ["self","one"] (xa7 cB)) (MPM:Z1 P w K mg base 1 cS "put_mover" ["self","mover"] (yj6 cS)) (MH:Z1 P w K mg base 3 cC "holds" ["self","turning","level"] (D4 cC cB cS)):p6 P w K mg base CX0 4 f fd ["self","level","place","mover"] (yn4 cC cB cS):=by
 refine F.ok m4 (λvs H Q E h=>?_) (λcdv Ar outer sh H vs Q E hr h=>?_)
 ·obtain ⟨A,S,n,j,p,m,k,rfl,_⟩:=h
  rfl
 obtain ⟨A,S,n,j,p,m,k,rfl,ch,fn,bks,few,hn,hj,hp,hm,q⟩:=h
 have hz:=W3
 have hu:(Ar.deeper (PyProof.Rows.envOfC "Chain.found_mover" (y6 b7) sh.heap.objs.size f cdv)).units+1<cLine:=by have:=hr.units;lia
 refine ⟨_,z6 (y9 (i:=4) m4.nd rfl (Or.inl rfl) (l9 p8 (w6 (pv 0) rfl) (pv 1) (λ_ _=>rfl)))
  (z6 (y9 (i:=5) m4.nd rfl (Or.inl rfl) (L4 hu (w6 (pv 4) rfl) (pv 2) (λ_ _=>rfl)))
  (z6 (y9 (i:=6) m4.nd rfl (Or.inl rfl) (u4 KB hr rfl (z0 (l9 p8 (w6 (w6 (pv 0) rfl) rfl) (pv 5) (λ_ _=>rfl)) (z0 (l9 p8 (w6 (w6 (pv 0) rfl) rfl) (pv 3) (λ_ _=>rfl)) z4))))
  (z6 (y9 (i:=7) m4.nd rfl (Or.inl rfl) (l9 N0 (pv 6) (pv 1) (λ_ _=>rfl)))
  (z6 (k8 (zm7 (D2 hu (pv 7) (w6 (pv 4) rfl)))
   (z6 (h9 (c5 cs.cls MPP hr (pv 4) (z0 (pv 7) (z0 (c5 cb.cls MPB hr (w6 (pv 0) rfl) (z0 (pv 5) (z0 (pv 3) z4))) (z0 (pv 6) z4))))) (z9 (v7 X6))) u8)
  (z6 (k8 (Y1 (c5 cc.cls MH hr (pv 0) (z0 (u4 KB hr rfl (z0 (pv 6) (z0 (L4 hu (w6 (pv 4) rfl) (pv 7) (λ_ _=>rfl)) z4))) (z0 (v0 i9 (pv 1) z8) z4)))) (z9 (v7 X6)) u8)
  (z6 (y9 (i:=8) m4.nd rfl (Or.inl rfl) (c5 cb.cls MPB hr (w6 (pv 0) rfl) (z0 (pv 5) (z0 (pv 3) z4))))
  (z6 (h9 (c5 cs.cls MPM hr (l9 p8 (w6 (pv 0) rfl) (v0 i9 (pv 1) z8) (λ_ _=>rfl)) (z0 (c5 cb.cls MPB hr (w6 (pv 0) rfl) (z0 (pv 8) (z0 (c5 cb.cls MPK hr (w6 (pv 0) rfl) (z0 (L4 hu (w6 (pv 4) rfl) (pv 7) (λ_ _=>rfl)) z4)) z4))) z4)))
  (z9 (v7 X6))))))))),?_⟩
 obtain ⟨dxc,hc⟩:=ch.c
 obtain ⟨dxb,hb⟩:=ch.bk.b
 obtain ⟨mas,hlm,hmd⟩:=ch.bk.lm
 obtain ⟨a,hAj⟩:∃a,A.st[j]?=some a:=⟨_,aa (by rw [ch.len.1];exact hj)⟩
 obtain ⟨s,hs⟩:∃s,S.st[j]?=some s:=⟨_,aa (by rw [ch.len.2];exact hj)⟩
 have hsm:s∈S.st:=ax hs
 rw [ChS.atS_of hs] at hp
 have st:=ch.st j a s hAj hs
 obtain ⟨dxs,hsa⟩:=st.a
 have hk:k<S.md.length:=(fn.wl.to s hsm _ (T8 hp)).2
 have tk:=fn.wl.at hk
 have tm:=fn.wl.at hm
 obtain ⟨ak,hak,htk⟩:=X0 hmd k _ (T9 [] hk)
 obtain ⟨am,ham,htm⟩:=X0 hmd m _ (T9 [] hm)
 have gk:atI (mas.map V.ref) ((k:Nat):Int)=some (V.ref ak):=i4 (by rw [ag,hak];rfl)
 have gm:atI (mas.map V.ref) ((m:Nat):Int)=some (V.ref am):=i4 (by rw [ag,ham];rfl)
 have ga:atI (A.st.map λs=>V.ref s.a) ((j:Nat):Int)=some (V.ref a.a):=i4 (by rw [ag,hAj];rfl)
 have g1:U6 H a.lt (kV (Sum.inl (p:Int))) (some (V.int k)):=by
  have g:=U6.k (k:=Sum.inl (p:Int)) st.lt
  rwa [R1,hp] at g
 refine ⟨_,rfl,A.c,cC,dxc,_,_,rfl,hc,cc.cls,cc.no "steps" (by decide),rfl,_,rfl,A.l,_,_,_,rfl,rfl,SqL.of ch.l,ga,?_⟩
 refine ⟨_,rfl,a.a,cS,dxs,_,_,rfl,hsa,cs.cls,cs.no "line_to" (by decide),rfl,_,rfl,a.lt,_,rfl,g1,?_⟩
 refine ⟨_,rfl,A.c,cC,dxc,_,_,rfl,hc,cc.cls,cc.no "book" (by decide),rfl,A.b,cB,dxb,_,_,rfl,hb,cb.cls,cb.no "made" (by decide),rfl,_,rfl,A.lm,_,_,_,rfl,rfl,SqL.of hlm,gk,_,rfl,A.c,cC,dxc,_,_,rfl,hc,cc.cls,cc.no "book" (by decide),rfl,A.b,cB,dxb,_,_,rfl,hb,cb.cls,cb.no "made" (by decide),rfl,_,rfl,A.lm,_,_,_,rfl,rfl,SqL.of hlm,gm,ak,am,_,_,rfl,SqT.of htk,SqT.of htm,by rw [tk.length];lia,λx hx=>by rw [tm.length];exact tk.lt hx,λtr H1 htr0 s1 htr=>?_⟩
 have tT:TM.IsT n (TM.beh (S.md.getD k []) (S.md.getD m [])):=tk.beh tm
 have htr:H1 tr=some (.tup (tI (TM.beh (S.md.getD k []) (S.md.getD m [])))):=htr
 obtain ⟨R,ef⟩:∃R,R=S.found n j p m:=⟨_,rfl⟩
 rw [←ef] at q
 unfold ChS.found at ef
 simp only [ChS.atS_of hs,hp,dC] at ef
 have mb:=fn.putB hk hm
 have ndh:=ChA.head_nd ch.nd
 simp only [aK,ay,aP,not_or,or_false] at ndh
 have lne:A.ll≠A.lm:=ndh.2.2.1.1
 have nda:=ChA.step_nd ch.nd hAj
 simp only [StA.all,aK,ay,aP,not_or,or_false] at nda
 have mw:a.m≠a.w:=nda.2.1.2.2
 have ltbf:a.lt≠a.bf:=nda.2.2.1.1
 have fw:=few.st s hsm
 have few1:=few.ln
 have few2:=few.bl
 have ch1:=ch.same s1
 generalize htt:TM.beh (S.md.getD k []) (S.md.getD m [])=t at tT htr ef mb
 refine ⟨_,rfl,_,rfl,tr,_,_,_,rfl,rfl,SqT.of htr,O6 (tT.get_step hj),?_⟩
 refine ⟨_,rfl,_,rfl,a.a,cS,dxs,_,_,rfl,s1 _ _ hsa,cs.cls,cs.no "line_to" (by decide),rfl,a.lt,_,rfl,U6.k (k:=Sum.inl ((t.getD j 0:Nat):Int)) (s1 _ _ st.lt),_,rfl,?_⟩
 rw [R1]
 have mdS:∀(S':ChS),(∃l,S'.md=S.md++l)->∀s∈S.st,∀x∈s.to,S'.md.getD x.2 []=S.md.getD x.2 []:=λS' ⟨l,e⟩ s hs x hx=>by rw [e,g9 (fn.wl.to s hs x hx).2]
 cases ea:atN s.to (t.getD j 0) with
 | none =>
  rw [ea] at ef
  dsimp only at ef
  rw [ef] at q
  refine b6 ?_
  refine ⟨_,rfl,a.a,dxs,_,rfl,s1 _ _ hsa,rfl,_,rfl,_,rfl,A.c,cC,dxc,_,_,rfl,s1 _ _ hc,cc.cls,cc.no "book" (by decide),rfl,A.b,dxb,_,rfl,s1 _ _ hb,rfl,_,rfl,_,rfl,A,S,n,k,m,rfl,ch1.bk,lne,hk,hm,fn.wl.md,hn,by lia,λH2 fr2 bk2=>?_⟩
  have ch2:r6 cC cB cS n H2 A (S.putB k m).2:=ch1.book (fr2.more λx hx=>by simp at hx ⊢;rcases hx with e|e <;> simp [e]) bk2 mb.st (mdS _ mb.md)
  have hs2:(S.putB k m).2.st[j]?=some s:=by rw [mb.st];exact hs
  have st2:=ch2.st j a s hAj hs2
  have htr2:H2 tr=some (.tup (tI t)):=fr2 _ _ (λz=>by
   obtain ⟨las,hll1,_⟩:=ch1.bk.ll
   obtain ⟨mas1,hlm1,_⟩:=ch1.bk.lm
   rcases ay.mp z with e|z
   ·exact i8 htr hll1 (by intro q;cases q) e
   ·exact i8 htr hlm1 (by intro q;cases q) (ah.mp z)) htr
  refine ⟨_,rfl,a,n,(S.putB k m).2.md,j,t.getD j 0,(S.putB k m).1,s,tr,t,rfl,st2,htr2,mb.at',tT,hn,ea,mw,ltbf,by lia,by lia,by lia,λH3 fr3 st3=>?_⟩
  have nt:∀x∈[a.lt,a.bf,a.w],x∈a.all/\∀xs,H2 x≠some (.tup xs):=λx hx=>by
   obtain ⟨bs2,hbf2,_⟩:=st2.bf
   obtain ⟨ws2,hw2,_⟩:=st2.w
   rcases ay.mp hx with e|hx
   ·rw [e];exact ⟨by simp [StA.all],λxs z=>by rw [st2.lt] at z;cases z⟩
   ·rcases ay.mp hx with e|hx
    ·rw [e];exact ⟨by simp [StA.all],λxs z=>by rw [hbf2] at z;cases z⟩
    ·rw [ah.mp hx];exact ⟨by simp [StA.all],λxs z=>by rw [hw2] at z;cases z⟩
  have ch3:=ch2.step hAj nt fr3 st3
  rw [mb.st] at ch3
  refine q H3 ?_ ch3
  exact x9.trans (y4.frame s1) (x9.trans (fr2.all λx hx=>by simp at hx ⊢;rcases hx with e|e <;> simp [e]) (fr3.allS hAj λx hx=>(nt x hx).1))
 | some k2 =>
  rw [ea] at ef
  dsimp only at ef
  refine k9 ?_
  have hk2:k2<S.md.length:=(fn.wl.to s hsm _ (T8 ea)).2
  have tk2:=fn.wl.at hk2
  obtain ⟨bs1,hbf1,hbs1⟩:=(ch1.st j a s hAj hs).bf
  obtain ⟨bb,hv2,hbb⟩:=K8 hbs1 ea
  have g2:U6 H1 a.bf (kV (Sum.inl ((t.getD j 0:Nat):Int))) (some (V.ref bb)):=by
   have g:=U6.k (k:=Sum.inl ((t.getD j 0:Nat):Int)) hbf1
   rwa [hv2] at g
  refine ⟨_,rfl,A.c,dxc,_,rfl,s1 _ _ hc,rfl,_,rfl,_,rfl,a.a,cS,dxs,_,_,rfl,s1 _ _ hsa,cs.cls,cs.no "back_from" (by decide),rfl,_,rfl,a.bf,_,rfl,g2,tr,bb,t,_,rfl,SqT.of htr,SqT.of hbb,by rw [tT.length];lia,λx hx=>by rw [tk2.bk.length];exact tT.lt hx,λxr H2 hxr0 s2 hxr=>?_⟩
  refine ⟨_,rfl,_,_,rfl,rfl,A,S,n,j+1,xr,TM.beh t (TM.bk n (S.md.getD k2 [])),?_,ch1.same s2,fn.wl,hxr,tT.beh tk2.bk,by lia,hn,λH3 s3=>?_⟩
  ·show [V.ref A.c,V.ref xr,V.int ((j:Int)+1)]=_
   rw [show ((j+1:Nat):Int)=(j:Int)+1 by lia]
  refine ⟨_,rfl,?_⟩
  have ch3:=(ch1.same s2).same s3
  have s03:=s1.trans (s2.trans s3)
  cases hi:(M1 n S.md (S.st.drop (j+1)) (j+1) (TM.beh t (TM.bk n (S.md.getD k2 []))) []).isSome with
  | true =>
   rw [hi,if_pos rfl] at ef
   rw [ef] at q
   exact b6 (q H3 (y4.frame s03) ch3)
  | false =>
   rw [hi,if_neg (by decide)] at ef
   rw [ef] at q
   refine k9 ?_
   have hj1:j+1<n:=by
    rcases dA (j+1) n with h|h
    ·exact h
    ·rw [dw (by rw [ch.len.2];exact h),M1] at hi
     cases hi
   obtain ⟨a1,hA1⟩:∃a,A.st[j+1]?=some a:=⟨_,aa (by rw [ch.len.1];exact hj1)⟩
   obtain ⟨s',hs'⟩:∃s,S.st[j+1]?=some s:=⟨_,aa (by rw [ch.len.2];exact hj1)⟩
   rw [ChS.atS_of hs'] at q
   have hsm':s'∈S.st:=ax hs'
   have fw':=few.st s' hsm'
   have nda1:=ChA.step_nd ch.nd hA1
   simp only [StA.all,aK,ay,aP,not_or,or_false] at nda1
   have bks1:(S.putB k m).2.Backs n:=(bks.putB fn.lnl hk hm).1
   have bl1:(S.putB k m).2.bl=S.bl:=by
    unfold ChS.putB
    by_cases e1:k=0
    ·rw [if_pos e1]
    ·rw [if_neg e1]
     by_cases e2:m=0
     ·rw [if_pos e2]
     ·rw [if_neg e2];rfl
   obtain ⟨l1,hl1⟩:=mb.md
   have hk2':k2<(S.putB k m).2.md.length:=by rw [hl1,aq];lia
   obtain ⟨mk,bks2⟩:=mb.fine.putK bks1 hk2'
   obtain ⟨l2,hl2⟩:=mk.md
   have len1:=mb.len
   have len2:=mk.len
   have ha':(S.putB k m).1<((S.putB k m).2.putK n k2).2.md.length:=by rw [hl2,aq];have:=mb.lt;lia
   have m3:=mk.fine.putB ha' mk.lt
   obtain ⟨l3,hl3⟩:=m3.md
   obtain ⟨dxc3,hc3⟩:=ch3.c
   obtain ⟨dxb3,hb3⟩:=ch3.bk.b
   refine ⟨_,rfl,A.c,cC,dxc3,_,_,rfl,hc3,cc.cls,cc.no "book" (by decide),rfl,A.b,dxb3,_,rfl,hb3,rfl,_,rfl,_,rfl,A,S,n,k,m,rfl,ch3.bk,lne,hk,hm,fn.wl.md,hn,by lia,λH4 fr4 bk4=>?_⟩
   have ch4:r6 cC cB cS n H4 A (S.putB k m).2:=ch3.book (fr4.more λx hx=>by simp at hx ⊢;rcases hx with e|e <;> simp [e]) bk4 mb.st (mdS _ mb.md)
   obtain ⟨dxc4,hc4⟩:=ch4.c
   obtain ⟨dxb4,hb4⟩:=ch4.bk.b
   have st41:=ch4.st (j+1) a1 s' hA1 (by rw [mb.st];exact hs')
   obtain ⟨dx41,hsa41⟩:=st41.a
   have st4:=ch4.st j a s hAj (by rw [mb.st];exact hs)
   obtain ⟨dx4,hsa4⟩:=st4.a
   have ga1:atI (A.st.map λs=>V.ref s.a) ((j:Int)+1)=some (V.ref a1.a):=by
    rw [show (j:Int)+1=((j+1:Nat):Int) by lia]
    exact i4 (by rw [ag,hA1];rfl)
   have g4:U6 H4 a.lt (kV (Sum.inl ((t.getD j 0:Nat):Int))) (some (V.int k2)):=by
    have g:=U6.k (k:=Sum.inl ((t.getD j 0:Nat):Int)) st4.lt
    rwa [R1,ea] at g
   refine ⟨_,rfl,A.c,cC,dxc4,_,_,rfl,hc4,cc.cls,cc.no "steps" (by decide),rfl,_,rfl,_,_,rfl,rfl,A.l,_,_,_,rfl,rfl,SqL.of ch4.l,ga1,a1.a,dx41,_,rfl,hsa41,rfl,?_⟩
   refine ⟨_,rfl,A.c,cC,dxc4,_,_,rfl,hc4,cc.cls,cc.no "book" (by decide),rfl,A.b,dxb4,_,rfl,hb4,rfl,_,rfl,_,rfl,A.c,cC,dxc4,_,_,rfl,hc4,cc.cls,cc.no "book" (by decide),rfl,A.b,dxb4,_,rfl,hb4,rfl,_,rfl,a.a,cS,dx4,_,_,rfl,hsa4,cs.cls,cs.no "line_to" (by decide),rfl,_,rfl,a.lt,_,rfl,g4,A,(S.putB k m).2,n,k2,rfl,ch4.bk,lne,hk2',mb.fine.wl.md,hn,by lia,by rw [bl1];lia,λH5 fr5 bk5=>?_⟩
   have ch5:r6 cC cB cS n H5 A ((S.putB k m).2.putK n k2).2:=ch4.book fr5 bk5 mk.st (λs hs x hx=>by rw [hl2,g9 (mb.fine.wl.to s hs x hx).2])
   refine ⟨A,((S.putB k m).2.putK n k2).2,n,(S.putB k m).1,((S.putB k m).2.putK n k2).1,rfl,ch5.bk,lne,ha',mk.lt,mk.fine.wl.md,hn,by lia,λH6 fr6 bk6=>?_⟩
   have ch6:r6 cC cB cS n H6 A (((S.putB k m).2.putK n k2).2.putB (S.putB k m).1 ((S.putB k m).2.putK n k2).1).2:=ch5.book (fr6.more λx hx=>by simp at hx ⊢;rcases hx with e|e <;> simp [e]) bk6 m3.st (λs hs x hx=>by rw [hl3,g9 (mk.fine.wl.to s hs x hx).2])
   have e6:(((S.putB k m).2.putK n k2).2.putB (S.putB k m).1 ((S.putB k m).2.putK n k2).1).2.st=S.st:=by rw [m3.st,mk.st,mb.st]
   have st6:=ch6.st (j+1) a1 s' hA1 (by rw [e6];exact hs')
   refine ⟨a1,n,_,j+1,(((S.putB k m).2.putK n k2).2.putB (S.putB k m).1 ((S.putB k m).2.putK n k2).1).1,s',rfl,st6,nda1.2.1.2.2,by lia,by lia,by lia,λH7 fr7 st7=>?_⟩
   have nt:∀x∈[a1.m,a1.w],x∈a1.all/\∀xs,H6 x≠some (.tup xs):=λx hx=>by
    obtain ⟨ws2,hw2,_⟩:=st6.w
    rcases ay.mp hx with e|hx
    ·rw [e];exact ⟨by simp [StA.all],λxs z=>by rw [st6.m] at z;cases z⟩
    ·rw [ah.mp hx];exact ⟨by simp [StA.all],λxs z=>by rw [hw2] at z;cases z⟩
   have ch7:=ch6.step hA1 nt fr7 st7
   rw [e6] at ch7
   refine q H7 ?_ ch7
   exact x9.trans (y4.frame s03) (x9.trans (fr4.all λx hx=>by simp at hx ⊢;rcases hx with e|e <;> simp [e]) (x9.trans (fr5.all λx hx=>by simp at hx ⊢;rcases hx with e|e|e <;> simp [e]) (x9.trans (fr6.all λx hx=>by simp at hx ⊢;rcases hx with e|e <;> simp [e]) (fr7.allS hA1 λx hx=>(nt x hx).1))))
def ChS.chn (S:ChS):TM.Chn where
 mv j s:=∃k∈(S.atS j).mv,S.md.getD k []=s
 ring j:=(S.atS j).to.map Prod.fst
 up j p:=S.md.getD ((atN (S.atS j).to p).getD 0) []
theorem V4 {l:List (Nat×Nat)}{p:Nat}:atN l p=none↔p∉l.map Prod.fst:=by
 unfold atN
 rw [Option.map_eq_none_iff,List.find?_eq_none]
 constructor
 ·intro h z
  obtain ⟨x,hx,e⟩:=aw.mp z
  exact h x hx (by simpa using e)
 ·intro h x hx e
  exact h (aw.mpr ⟨x,hx,by simpa using e⟩)
theorem A5 {l:List (Nat×Nat)}{p k:Nat}(h:atN l p=some k):p∈l.map Prod.fst:=aw.mpr ⟨_,T8 h,rfl⟩
theorem ChS.chn_up {S:ChS}{j p k:Nat}(h:atN (S.atS j).to p=some k):S.chn.up j p=S.md.getD k []:=by
 show S.md.getD ((atN (S.atS j).to p).getD 0) []=_
 rw [h];rfl
theorem ChS.drop_at {S:ChS}{j:Nat}(h:j<S.st.length):S.st.drop j=S.atS j::S.st.drop (j+1):=by
 rw [bp h,ChS.atS_of (aa h)]
theorem zx1 {n:Nat}{S:ChS}(len:S.st.length=n)(ok:S.chn.Ok n):∀(d:Nat) (x acc:List Nat),d<=n->TM.IsT n x->((M1 n S.md (S.st.drop (n-d)) (n-d) x acc).isSome=true↔S.chn.Sif n d x)
 | 0,x,acc,_,_=>by
  rw [dI,dw (by lia),M1]
  exact ⟨λ_=>trivial,λ_=>rfl⟩
 | d+1,x,acc,hd,hx=>by
  have hj:n-(d+1)<n:=by lia
  have e:n-(d+1)+1=n-d:=by lia
  rw [ChS.drop_at (by lia),M1,TM.Chn.Sif]
  cases ea:atN (S.atS (n-(d+1))).to (x.getD (n-(d+1)) 0) with
  | none =>
   have hm:x.getD (n-(d+1)) 0∉S.chn.ring (n-(d+1)):=V4.mp ea
   exact ⟨λh=>(by cases h),λh=>absurd h.1 hm⟩
  | some k =>
   have hm:x.getD (n-(d+1)) 0∈S.chn.ring (n-(d+1)):=A5 ea
   have hu:=ok.upT hj hm
   have eu:=ChS.chn_up ea
   dsimp only
   rw [e]
   by_cases ee:x.getD (n-(d+1)) 0=n-(d+1)
   ·rw [if_pos ee]
    have h0:TM.beh x (TM.bk n (S.chn.up (n-(d+1)) (x.getD (n-(d+1)) 0)))=x:=by
     rw [ee,ok.upOwn _ hj,TM.bk_still,TM.beh_still hx]
    rw [h0,zx1 len ok d x acc (by lia) hx]
    exact ⟨λh=>⟨hm,h⟩,λh=>h.2⟩
   ·rw [if_neg ee,eu,zx1 len ok d _ _ (by lia) (hx.beh (by rw [eu] at hu;exact hu.bk))]
    exact ⟨λh=>⟨hm,h⟩,λh=>h.2⟩
structure ChS.Inv (n:Nat) (S:ChS):Prop where
 fine:S.Fine n
 bks:S.Backs n
 len:S.st.length=n
 ok:S.chn.Ok n
 lk:∀j,(S.atS j).lk<=(S.atS j).wt.length
 wl:∀j,(S.atS j).wt.length=(S.atS j).to.length*(S.atS j).mv.length
 wt:∀j p m,p∈(S.atS j).to.map Prod.fst->m∈(S.atS j).mv->(p,m)∈(S.atS j).wt
 wt':∀j,∀x∈(S.atS j).wt,x.1∈(S.atS j).to.map Prod.fst/\x.2∈(S.atS j).mv
 good:∀j,∀x∈(S.atS j).wt.take (S.atS j).lk,S.chn.Good n j x.1 (S.md.getD x.2 [])
 ind:∀j,TM.Indep n ((S.atS j).mv.map λk=>S.md.getD k [])
def ChS.Done (S:ChS)(j:Nat):Prop:=(S.atS j).lk=(S.atS j).wt.length
theorem ChS.Inv.shut {n:Nat}{S:ChS}(h:S.Inv n){j:Nat}(d:S.Done j):S.chn.Shut n j:=by
 intro p hp s hs
 obtain ⟨m,hm,rfl⟩:=hs
 refine h.good j (p,m) ?_
 rw [d,bz]
 exact h.wt j p m hp hm
theorem ChS.Inv.holds {n:Nat}{S:ChS}(h:S.Inv n){j:Nat}(hj:j<=n)(d:∀i,j<=i->i<n->S.Done i){x:List Nat}(hx:TM.IsT n x)(hf:TM.Fix j x):(M1 n S.md (S.st.drop j) j x []).isSome=true↔TM.Grp n (S.chn.mv j) x:=by
 have e:n-(n-j)=j:=by lia
 have h1:=zx1 h.len h.ok (n-j) x [] (by lia) hx
 have h2:=h.ok.sift (d:=n-j) (by lia) hx (by rw [e];exact hf) (λi hi hin=>h.shut (d i (by lia) hin))
 rw [e] at h1 h2
 exact h1.trans h2
theorem ChS.Inv.few {n:Nat}{S:ChS}(hn:n<=60)(h:S.Inv n)(j:Nat):(S.atS j).mv.length<=354:=by
 have q:=TM.indep_few hn (l:=(S.atS j).mv.map λk=>S.md.getD k []) (λs hs=>by
  obtain ⟨k,hk,e⟩:=aw.mp hs
  exact h.ok.mvT j s ⟨k,hk,e⟩) (h.ind j)
 rwa [ae] at q
theorem ChS.Inv.ring {n:Nat}{S:ChS}(h:S.Inv n){j:Nat}(hj:j<n):(S.atS j).to.length<=n:=by
 have q:=TM.nodup_below (M:=n) (h.ok.nd j hj) λx hx=>h.ok.lt j x hj hx
 have e:(S.chn.ring j).length=(S.atS j).to.length:=ae _
 lia
theorem ChS.atS_set {S S':ChS}{i:Nat}{s':StS}(e:S'.st=S.st.set i s')(hi:i<S.st.length)(h:Nat):S'.atS h=if h=i then s' else S.atS h:=by
 unfold ChS.atS
 rw [e,ar,ar,List.getElem?_set]
 by_cases q:h=i
 ·subst q
  rw [if_pos rfl,if_pos hi,if_pos rfl];rfl
 ·rw [if_neg (Ne.symm q),if_neg q]
theorem ChS.atS_mem {S:ChS}{j:Nat}(h:j<S.st.length):S.atS j∈S.st:=by
 rw [ChS.atS_of (aa h)]
 exact bH h
theorem ChS.atS_out {S:ChS}{j:Nat}(h:¬j<S.st.length):S.atS j=⟨[],[],[],0⟩:=by
 unfold ChS.atS
 rw [ar,aU (by lia)]
 rfl
theorem ChS.Fine.mvlt {n:Nat}{S:ChS}(f:S.Fine n){j k:Nat}(h:k∈(S.atS j).mv):k<S.md.length:=by
 by_cases q:j<S.st.length
 ·exact f.wl.mv _ (ChS.atS_mem q) k h
 ·rw [ChS.atS_out q] at h;cases h
theorem ChS.Fine.tolt {n:Nat}{S:ChS}(f:S.Fine n){j:Nat}{x:Nat×Nat}(h:x∈(S.atS j).to):x.1<n/\x.2<S.md.length:=by
 by_cases q:j<S.st.length
 ·exact f.wl.to _ (ChS.atS_mem q) x h
 ·rw [ChS.atS_out q] at h;cases h
theorem ChS.Fine.set {n:Nat}{S S2:ChS}{k:Nat}{t:List Nat}(m:O8 n S S2 k t){i:Nat}{s':StS}(hto:∀x∈s'.to,x.1<n/\x.2<S2.md.length)(hmv:∀k∈s'.mv,k<S2.md.length):ChS.Fine n { S2 with st:=S.st.set i s' }:=by
 have f:=m.fine
 refine ⟨⟨f.wl.md,λs hs=>?_,λs hs=>?_⟩,f.md0,f.pos,f.lnl⟩
 ·rcases eY hs with h|h
  ·exact f.wl.to s (by rw [m.st];exact h)
  ·rw [h];exact hto
 ·rcases eY hs with h|h
  ·exact f.wl.mv s (by rw [m.st];exact h)
  ·rw [h];exact hmv
theorem O8.at_ {n:Nat}{S S2:ChS}{k:Nat}{t:List Nat}(m:O8 n S S2 k t){i:Nat}(h:i<S.md.length):S2.md.getD i []=S.md.getD i []:=by
 obtain ⟨l,e⟩:=m.md
 rw [e,g9 h]
theorem O8.lift {n:Nat}{S S2:ChS}{k:Nat}{t:List Nat}(m:O8 n S S2 k t){i:Nat}(h:i<S.md.length):i<S2.md.length:=by
 obtain ⟨l,e⟩:=m.md
 rw [e,aq];lia
theorem O8.chn {n:Nat}{S S2 S':ChS}{k:Nat}{t:List Nat}(f:S.Fine n)(m:O8 n S S2 k t)(e:S'.md=S2.md){h:Nat}:((S'.atS h).mv=(S.atS h).mv->S'.chn.mv h=S.chn.mv h)/\((S'.atS h).to=(S.atS h).to->S'.chn.ring h=S.chn.ring h/\S'.chn.up h=S.chn.up h):=by
 refine ⟨λq=>?_,λq=>⟨?_,?_⟩⟩
 ·funext s
  show (∃k∈(S'.atS h).mv,S'.md.getD k []=s)=(∃k∈(S.atS h).mv,S.md.getD k []=s)
  rw [q,e]
  refine propext ⟨λ⟨k,hk,z⟩=>⟨k,hk,?_⟩,λ⟨k,hk,z⟩=>⟨k,hk,?_⟩⟩
  ·rw [←m.at_ (f.mvlt hk)];exact z
  ·rw [m.at_ (f.mvlt hk)];exact z
 ·show (S'.atS h).to.map Prod.fst=_
  rw [q];rfl
 ·funext p
  show S'.md.getD ((atN (S'.atS h).to p).getD 0) []=S.md.getD ((atN (S.atS h).to p).getD 0) []
  rw [q,e]
  cases ea:atN (S.atS h).to p with
  | none=>exact m.at_ f.pos
  | some k=>exact m.at_ (f.tolt (T8 ea)).2
def ChS.look (S:ChS)(j:Nat):ChS:={ S with st:=S.st.set j { S.atS j with lk:=(S.atS j).lk+1 } }
theorem ChS.look_at {S:ChS}{j:Nat}(hj:j<S.st.length)(h:Nat):(S.look j).atS h=if h=j then { S.atS j with lk:=(S.atS j).lk+1 } else S.atS h:=ChS.atS_set (S':=S.look j) rfl hj h
theorem ChS.look_mv {S:ChS}{j:Nat}(hj:j<S.st.length)(h:Nat):((S.look j).atS h).mv=(S.atS h).mv/\((S.look j).atS h).to=(S.atS h).to/\((S.look j).atS h).wt=(S.atS h).wt:=by
 rw [ChS.look_at hj]
 by_cases q:h=j
 ·subst q;rw [if_pos rfl];exact ⟨rfl,rfl,rfl⟩
 ·rw [if_neg q];exact ⟨rfl,rfl,rfl⟩
theorem ChS.look_chn {S:ChS}{j:Nat}(hj:j<S.st.length):(S.look j).chn=S.chn:=by
 have h1:∀h,((S.look j).atS h).mv=(S.atS h).mv:=λh=>(ChS.look_mv hj h).1
 have h2:∀h,((S.look j).atS h).to=(S.atS h).to:=λh=>(ChS.look_mv hj h).2.1
 have h3:(S.look j).md=S.md:=rfl
 unfold ChS.chn
 simp only [h1,h2,h3]
theorem ChS.Inv.look {n:Nat}{S:ChS}(h:S.Inv n){j:Nat}(hj:j<n){x:Nat×Nat}(hx:(S.atS j).wt[(S.atS j).lk]?=some x)(g:S.chn.Good n j x.1 (S.md.getD x.2 [])):(S.look j).Inv n:=by
 have hj':j<S.st.length:=by rw [h.len];exact hj
 have hlt:=(ap.mp hx).1
 have e:=λi=>ChS.look_mv (S:=S) hj' i
 have ec:=ChS.look_chn (S:=S) hj'
 refine ⟨?_,h.bks.of rfl rfl rfl rfl,by show (S.st.set _ _).length=n;rw [bE];exact h.len,by rw [ec];exact h.ok,λi=>?_,λi=>by rw [(e i).1,(e i).2.1,(e i).2.2];exact h.wl i,λi=>by rw [(e i).1,(e i).2.1,(e i).2.2];exact h.wt i,λi=>by rw [(e i).1,(e i).2.1,(e i).2.2];exact h.wt' i,λi y hy=>?_,λi=>by rw [(e i).1];exact h.ind i⟩
 ·have m:=O8.refl h.fine h.fine.pos
  exact ChS.Fine.set m (λy hy=>h.fine.tolt hy) (λy hy=>h.fine.mvlt hy)
 ·rw [ChS.look_at hj']
  by_cases q:i=j
  ·subst q;rw [if_pos rfl];exact hlt
  ·rw [if_neg q];exact h.lk i
 ·rw [ec]
  show S.chn.Good n i y.1 (S.md.getD y.2 [])
  rw [ChS.look_at hj'] at hy
  by_cases q:i=j
  ·subst q
   rw [if_pos rfl] at hy
   have hy:y∈(S.atS i).wt.take ((S.atS i).lk+1):=hy
   rw [bO,hx] at hy
   rcases aE.mp hy with z|z
   ·exact h.good i y z
   ·obtain rfl:y=x:=by simpa using z
    exact g
  ·rw [if_neg q] at hy
   exact h.good i y hy
theorem yf7 {l:List (Nat×Nat)}{p q k:Nat}(h:p≠q):atN (l++[(q,k)]) p=atN l p:=by
 unfold atN
 rw [eJ]
 cases e:l.find? (λx=>decide (x.1=p)) with
 | some x=>rfl
 | none=>simp [Ne.symm h]
theorem zb0 {S S2:ChS}{n k:Nat}{t:List Nat}(f:S.Fine n)(m:O8 n S S2 k t)(j:Nat):((S.atS j).mv.map λk=>S2.md.getD k [])=((S.atS j).mv.map λk=>S.md.getD k []):=bg λx hx=>m.at_ (f.mvlt hx)
theorem ChS.Inv.place {n:Nat}{S S2:ChS}{j q k:Nat}{t:List Nat}(h:S.Inv n)(hj:j<n)(m:O8 n S S2 k t)(b:S2.Backs n)(hq:atN (S.atS j).to q=none)(hqn:q<n)(gt:TM.Grp n (S.chn.mv j) t)(ht:t.getD j 0=q) :
  ChS.Inv n { S2 with st:=S.st.set j ((S.atS j).putP q k) }/\TM.Chn.MoreP n S.chn (ChS.chn { S2 with st:=S.st.set j ((S.atS j).putP q k) }) j q t:=by
 obtain ⟨S',hS'⟩:∃S',S'=({ S2 with st:=S.st.set j ((S.atS j).putP q k) }:ChS):=⟨_,rfl⟩
 rw [←hS']
 have hst:S'.st=S.st.set j ((S.atS j).putP q k):=by rw [hS']
 have hmd:S'.md=S2.md:=by rw [hS']
 have hj':j<S.st.length:=by rw [h.len];exact hj
 have ea:=λi=>ChS.atS_set hst hj' i
 have emv:∀i,(S'.atS i).mv=(S.atS i).mv:=λi=>by
  rw [ea i]
  by_cases e:i=j
  ·subst e;rw [if_pos rfl];rfl
  ·rw [if_neg e]
 have ej:S'.atS j=(S.atS j).putP q k:=by rw [ea j,if_pos rfl]
 have en:∀i,i≠j->S'.atS i=S.atS i:=λi e=>by rw [ea i,if_neg e]
 have mp:TM.Chn.MoreP n S.chn S'.chn j q t:=by
  refine ⟨hj,V4.mp hq,hqn,gt,ht,funext λi=>(m.chn h.fine hmd).1 (emv i),?_,λi e=>((m.chn h.fine hmd).2 (by rw [en i e])).1,λp hp=>?_,?_,λi e=>((m.chn h.fine hmd).2 (by rw [en i e])).2⟩
  ·show (S'.atS j).to.map Prod.fst=(S.atS j).to.map Prod.fst++[q]
   rw [ej]
   show ((S.atS j).to++[(q,k)]).map Prod.fst=_
   rw [aV];rfl
  ·show S'.md.getD ((atN (S'.atS j).to p).getD 0) []=S.md.getD ((atN (S.atS j).to p).getD 0) []
   rw [ej]
   show S'.md.getD ((atN ((S.atS j).to++[(q,k)]) p).getD 0) []=_
   rw [yf7 hp,hmd]
   cases e:atN (S.atS j).to p with
   | none=>exact m.at_ h.fine.pos
   | some k'=>exact m.at_ (h.fine.tolt (T8 e)).2
  ·show S'.md.getD ((atN (S'.atS j).to q).getD 0) []=t
   rw [ej]
   show S'.md.getD ((atN ((S.atS j).to++[(q,k)]) q).getD 0) []=t
   rw [zi9 hq,hmd]
   exact m.at'
 refine ⟨⟨?_,?_,?_,mp.ok h.ok,λi=>?_,λi=>?_,λi p mm hp hm=>?_,λi x hx=>?_,λi x hx=>?_,λi=>?_⟩,mp⟩
 ·rw [hS']
  refine ChS.Fine.set m (λx hx=>?_) (λx hx=>m.lift (h.fine.mvlt hx))
  rcases aE.mp hx with z|z
  ·exact ⟨(h.fine.tolt z).1,m.lift (h.fine.tolt z).2⟩
  ·rw [ah.mp z];exact ⟨hqn,m.lt⟩
 ·rw [hS'];exact b.of rfl rfl rfl rfl
 ·rw [hst,bE];exact h.len
 ·by_cases e:i=j
  ·subst e
   rw [ej]
   have:=h.lk i
   show (S.atS i).lk<=((S.atS i).wt++_).length
   rw [aq];lia
  ·rw [en i e];exact h.lk i
 ·by_cases e:i=j
  ·subst e
   rw [ej]
   have:=h.wl i
   show ((S.atS i).wt++(S.atS i).mv.map λm=>(q,m)).length=((S.atS i).to++[(q,k)]).length*(S.atS i).mv.length
   rw [aq,ae,aq,bn,dF,cM,this]
  ·rw [en i e];exact h.wl i
 ·by_cases e:i=j
  ·subst e
   rw [ej] at hp hm ⊢
   have hp:p∈((S.atS i).to++[(q,k)]).map Prod.fst:=hp
   rw [aV] at hp
   show (p,mm)∈(S.atS i).wt++(S.atS i).mv.map λm=>(q,m)
   rcases aE.mp hp with z|z
   ·exact aJ _ (h.wt i p mm z hm)
   ·have z:p=q:=ah.mp z
    rw [z]
    exact aD _ (aw.mpr ⟨mm,hm,rfl⟩)
  ·rw [en i e] at hp hm ⊢;exact h.wt i p mm hp hm
 ·by_cases e:i=j
  ·subst e
   rw [ej] at hx ⊢
   have hx:x∈(S.atS i).wt++(S.atS i).mv.map λm=>(q,m):=hx
   show x.1∈((S.atS i).to++[(q,k)]).map Prod.fst/\x.2∈(S.atS i).mv
   rw [aV]
   rcases aE.mp hx with z|z
   ·exact ⟨aJ _ (h.wt' i x z).1,(h.wt' i x z).2⟩
   ·obtain ⟨mm,hm,rfl⟩:=aw.mp z
    exact ⟨aD _ (by simp),hm⟩
  ·rw [en i e] at hx ⊢;exact h.wt' i x hx
 ·have hx':x∈(S.atS i).wt.take (S.atS i).lk:=by
   by_cases e:i=j
   ·subst e
    rw [ej] at hx
    have hx:x∈((S.atS i).wt++(S.atS i).mv.map λm=>(q,m)).take (S.atS i).lk:=hx
    rwa [bI (h.lk i)] at hx
   ·rwa [en i e] at hx
  have hw:=h.wt' i x (bh hx')
  have g:=mp.good (i:=i) hw.1 (h.good i x hx')
  rw [hmd,m.at_ (h.fine.mvlt hw.2)]
  exact g
 ·rw [emv i,hmd,zb0 h.fine m]
  exact h.ind i
theorem ChS.Inv.mover {n:Nat}{S S2:ChS}{i k:Nat}{t:List Nat}(h:S.Inv n)(hi:i<n)(m:O8 n S S2 k t)(b:S2.Backs n)(tT:TM.IsT n t)(tF:TM.Fix i t)(dn:∀g,g+1=i->TM.Grp n (S.chn.mv g) t)(ng:¬TM.Grp n (S.chn.mv i) t) :
  ChS.Inv n { S2 with st:=S.st.set i ((S.atS i).putM k) }/\TM.Chn.MoreM n S.chn (ChS.chn { S2 with st:=S.st.set i ((S.atS i).putM k) }) i t:=by
 obtain ⟨S',hS'⟩:∃S',S'=({ S2 with st:=S.st.set i ((S.atS i).putM k) }:ChS):=⟨_,rfl⟩
 rw [←hS']
 have hst:S'.st=S.st.set i ((S.atS i).putM k):=by rw [hS']
 have hmd:S'.md=S2.md:=by rw [hS']
 have hi':i<S.st.length:=by rw [h.len];exact hi
 have ea:=λg=>ChS.atS_set hst hi' g
 have eto:∀g,(S'.atS g).to=(S.atS g).to:=λg=>by
  rw [ea g]
  by_cases e:g=i
  ·subst e;rw [if_pos rfl];rfl
  ·rw [if_neg e]
 have ej:S'.atS i=(S.atS i).putM k:=by rw [ea i,if_pos rfl]
 have en:∀g,g≠i->S'.atS g=S.atS g:=λg e=>by rw [ea g,if_neg e]
 have mp:TM.Chn.MoreM n S.chn S'.chn i t:=by
  refine ⟨hi,tT,tF,dn,λg s=>?_,funext λg=>((m.chn h.fine hmd).2 (eto g)).1,funext λg=>((m.chn h.fine hmd).2 (eto g)).2⟩
  by_cases e:g=i
  ·subst e
   show (∃k'∈(S'.atS g).mv,S'.md.getD k' []=s)↔((∃k'∈(S.atS g).mv,S.md.getD k' []=s)∨(g=g/\s=t))
   rw [ej,hmd]
   constructor
   ·rintro ⟨k',hk,z⟩
    rcases aE.mp hk with y|y
    ·exact .inl ⟨k',y,by rw [←m.at_ (h.fine.mvlt y)];exact z⟩
    ·rw [ah.mp y,m.at'] at z
     exact .inr ⟨rfl,z.symm⟩
   ·rintro (⟨k',hk,z⟩|⟨_,z⟩)
    ·exact ⟨k',aJ _ hk,by rw [m.at_ (h.fine.mvlt hk)];exact z⟩
    ·exact ⟨k,aD _ (by simp),by rw [m.at',z]⟩
  ·rw [(m.chn h.fine hmd).1 (by rw [en g e])]
   exact ⟨.inl,λz=>z.elim id λy=>absurd y.1 e⟩
 refine ⟨⟨?_,?_,?_,mp.ok h.ok,λg=>?_,λg=>?_,λg p mm hp hm=>?_,λg x hx=>?_,λg x hx=>?_,λg=>?_⟩,mp⟩
 ·rw [hS']
  refine ChS.Fine.set m (λx hx=>⟨(h.fine.tolt hx).1,m.lift (h.fine.tolt hx).2⟩) (λx hx=>?_)
  rcases aE.mp hx with z|z
  ·exact m.lift (h.fine.mvlt z)
  ·rw [ah.mp z];exact m.lt
 ·rw [hS'];exact b.of rfl rfl rfl rfl
 ·rw [hst,bE];exact h.len
 ·by_cases e:g=i
  ·subst e
   rw [ej]
   have:=h.lk g
   show (S.atS g).lk<=((S.atS g).wt++_).length
   rw [aq];lia
  ·rw [en g e];exact h.lk g
 ·by_cases e:g=i
  ·subst e
   rw [ej]
   have:=h.wl g
   show ((S.atS g).wt++(S.atS g).to.map λx=>(x.1,k)).length=(S.atS g).to.length*((S.atS g).mv++[k]).length
   rw [aq,ae,aq,bn,Nat.mul_add,eO,this]
  ·rw [en g e];exact h.wl g
 ·by_cases e:g=i
  ·subst e
   rw [ej] at hp hm ⊢
   have hp:p∈(S.atS g).to.map Prod.fst:=hp
   have hm:mm∈(S.atS g).mv++[k]:=hm
   show (p,mm)∈(S.atS g).wt++(S.atS g).to.map λx=>(x.1,k)
   rcases aE.mp hm with z|z
   ·exact aJ _ (h.wt g p mm hp z)
   ·rw [ah.mp z]
    obtain ⟨y,hy,e⟩:=aw.mp hp
    exact aD _ (aw.mpr ⟨y,hy,by rw [e]⟩)
  ·rw [en g e] at hp hm ⊢;exact h.wt g p mm hp hm
 ·by_cases e:g=i
  ·subst e
   rw [ej] at hx ⊢
   have hx:x∈(S.atS g).wt++(S.atS g).to.map λx=>(x.1,k):=hx
   show x.1∈(S.atS g).to.map Prod.fst/\x.2∈(S.atS g).mv++[k]
   rcases aE.mp hx with z|z
   ·exact ⟨(h.wt' g x z).1,aJ _ (h.wt' g x z).2⟩
   ·obtain ⟨y,hy,rfl⟩:=aw.mp z
    exact ⟨aw.mpr ⟨y,hy,rfl⟩,by simp⟩
  ·rw [en g e] at hx ⊢;exact h.wt' g x hx
 ·have hx':x∈(S.atS g).wt.take (S.atS g).lk:=by
   by_cases e:g=i
   ·subst e
    rw [ej] at hx
    have hx:x∈((S.atS g).wt++(S.atS g).to.map λx=>(x.1,k)).take (S.atS g).lk:=hx
    rwa [bI (h.lk g)] at hx
   ·rwa [en g e] at hx
  have hw:=h.wt' g x (bh hx')
  have gd:=mp.good h.ok (h.good g x hx')
  rw [hmd,m.at_ (h.fine.mvlt hw.2)]
  exact gd
 ·by_cases e:g=i
  ·subst e
   rw [ej,hmd]
   show TM.Indep n (((S.atS g).mv++[k]).map λk=>S2.md.getD k [])
   rw [aV,zb0 h.fine m]
   show TM.Indep n (_++[S2.md.getD k []])
   rw [m.at']
   refine (h.ind g).snoc λz=>ng ?_
   refine TM.Grp.mono (h.ok.mvT g) (λs hs=>TM.Grp.of (h.ok.mvT g) ?_) z
   obtain ⟨y,hy,e⟩:=aw.mp hs
   exact ⟨y,hy,e⟩
  ·rw [en g e,hmd,zb0 h.fine m];exact h.ind g
theorem ChS.putK_bl {n:Nat}{S:ChS}(i:Nat):(S.putK n i).2.bl.length<=S.bl.length+1:=by
 unfold ChS.putK
 cases e:atN S.bl i with
 | some k=>exact bY _
 | none =>
  show (S.bl++[_]).length<=_
  rw [aq];exact af _
theorem ChS.atS_st {S S2:ChS}(e:S2.st=S.st)(j:Nat):S2.atS j=S.atS j:=by unfold ChS.atS;rw [e]
theorem ChS.Inv.grow {n:Nat}{S S2:ChS}{k:Nat}{t:List Nat}(h:S.Inv n)(m:O8 n S S2 k t)(b:S2.Backs n):S2.Inv n/\S2.chn=S.chn:=by
 have ea:=λj=>ChS.atS_st m.st j
 have ec:S2.chn=S.chn:=by
  have h1:S2.chn.mv=S.chn.mv:=funext λj=>(m.chn h.fine rfl).1 (by rw [ea j])
  have h2:S2.chn.ring=S.chn.ring:=funext λj=>((m.chn h.fine rfl).2 (by rw [ea j])).1
  have h3:S2.chn.up=S.chn.up:=funext λj=>((m.chn h.fine rfl).2 (by rw [ea j])).2
  show TM.Chn.mk S2.chn.mv S2.chn.ring S2.chn.up=TM.Chn.mk S.chn.mv S.chn.ring S.chn.up
  rw [h1,h2,h3]
 refine ⟨⟨m.fine,b,by rw [m.st];exact h.len,by rw [ec];exact h.ok,λj=>by rw [ea j];exact h.lk j,λj=>by rw [ea j];exact h.wl j,λj=>by rw [ea j];exact h.wt j,λj=>by rw [ea j];exact h.wt' j,λj x hx=>?_,λj=>by rw [ea j,zb0 h.fine m];exact h.ind j⟩,ec⟩
 rw [ea j] at hx
 rw [ec,m.at_ (h.fine.mvlt (h.wt' j x (bh hx)).2)]
 exact h.good j x hx
def ChS.looks (S:ChS):Nat:=(S.st.map StS.lk).sum
theorem zi4 {l:List StS}:∀{j:Nat} {a s:StS},l[j]?=some s->((l.set j a).map StS.lk).sum+s.lk=(l.map StS.lk).sum+a.lk:=by
 induction l with
 | nil=>intro j a s h;cases h
 | cons x r ih =>
  intro j a s h
  cases j with
  | zero =>
   obtain rfl:x=s:=by simpa using h
   simp only [List.set_cons_zero,aR,cT];lia
  | succ j =>
   have h':r[j]?=some s:=by simpa using h
   have:=ih (a:=a) h'
   simp only [List.set_cons_succ,aR,cT];lia
theorem ChS.get_at {S:ChS}{j:Nat}(h:j<S.st.length):S.st[j]?=some (S.atS j):=by rw [ChS.atS_of (aa h)];exact aa h
theorem ChS.look_looks {S:ChS}{j:Nat}(h:j<S.st.length):(S.look j).looks=S.looks+1:=by
 have q:=zi4 (a:={ S.atS j with lk:=(S.atS j).lk+1 }) (ChS.get_at h)
 unfold ChS.looks ChS.look
 dsimp only at q ⊢
 lia
structure ChS.Next (n:Nat) (S S':ChS) (j:Nat) (b:Bool):Prop where
 inv:S'.Inv n
 looks:S'.looks=S.looks+1
 done:∀i,j<i->i<n->(b=true->i≠j+1)->S.Done i->S'.Done i
 more:b=true->j+1<n
 mv0:S'.chn.mv 0=S.chn.mv 0
 src:S'.src=S.src
 ln:S'.ln.length<=S.ln.length+3
 bl:S'.bl.length<=S.bl.length+1
theorem ChS.Inv.found {n:Nat}{S:ChS}{j:Nat}{x:Nat×Nat}(h:S.Inv n)(hj:j<n)(hx:(S.atS j).wt[(S.atS j).lk]?=some x)(d:∀i,j<i->i<n->S.Done i):ChS.Next n S ((S.found n j x.1 x.2).1.look j) j (S.found n j x.1 x.2).2:=by
 have hj':j<S.st.length:=by rw [h.len];exact hj
 have hw:=h.wt' j x (ax hx)
 have hp:x.1∈S.chn.ring j:=hw.1
 have hs:S.chn.mv j (S.md.getD x.2 []):=⟨x.2,hw.2,rfl⟩
 have hm:=h.fine.mvlt hw.2
 obtain ⟨k,hk⟩:∃k,atN (S.atS j).to x.1=some k:=by
  cases e:atN (S.atS j).to x.1 with
  | none=>exact absurd hp (V4.mp e)
  | some k=>exact ⟨k,rfl⟩
 have hkl:k<S.md.length:=(h.fine.tolt (T8 hk)).2
 have eu:S.chn.up j x.1=S.md.getD k []:=ChS.chn_up hk
 have hu:=h.ok.upT hj hp
 have hsT:=h.ok.mvT j _ hs
 have mb:=h.fine.putB hkl hm
 obtain ⟨b1,bl1⟩:=h.bks.putB h.fine.lnl hkl hm
 have et:(TM.beh (S.md.getD k []) (S.md.getD x.2 [])).getD j 0=(S.md.getD x.2 []).getD x.1 0:=by
  rw [←eu,TM.beh_get hu hj,h.ok.upTo j _ hj hp]
 have gt:TM.Grp n (S.chn.mv j) (TM.beh (S.md.getD k []) (S.md.getD x.2 [])):=by
  rw [←eu]
  exact .mul (h.ok.upG j _ hj hp) hs
 have tT:TM.IsT n (TM.beh (S.md.getD k []) (S.md.getD x.2 [])):=gt.isT (h.ok.mvT j)
 obtain ⟨R,ef⟩:∃R,R=S.found n j x.1 x.2:=⟨_,rfl⟩
 rw [←ef]
 unfold ChS.found at ef
 simp only [hk,dC,et] at ef
 cases ea:atN (S.atS j).to ((S.md.getD x.2 []).getD x.1 0) with
 | none =>
  rw [ea] at ef
  dsimp only at ef
  have hqn:(S.md.getD x.2 []).getD x.1 0<n:=hsT.step_lt (h.ok.lt j _ hj hp)
  obtain ⟨iv,mp⟩:=h.place hj mb b1 ea hqn gt et
  have g:=mp.new h.ok hp hs (by rw [eu])
  rw [ef]
  dsimp only
  generalize hS':({ (S.putB k x.2).2 with st:=S.st.set j ((S.atS j).putP ((S.md.getD x.2 []).getD x.1 0) (S.putB k x.2).1) }:ChS)=S' at iv mp g
  have hst:S'.st=S.st.set j ((S.atS j).putP ((S.md.getD x.2 []).getD x.1 0) (S.putB k x.2).1):=by rw [←hS']
  have hmd:S'.md=(S.putB k x.2).2.md:=by rw [←hS']
  have at':=λi=>ChS.atS_set hst hj' i
  have ej:S'.atS j=(S.atS j).putP ((S.md.getD x.2 []).getD x.1 0) (S.putB k x.2).1:=by rw [at' j,if_pos rfl]
  have hj2:j<S'.st.length:=by rw [hst,bE];exact hj'
  have hx':(S'.atS j).wt[(S'.atS j).lk]?=some x:=by
   rw [ej]
   show ((S.atS j).wt++_)[(S.atS j).lk]?=some x
   rw [aN (ap.mp hx).1]
   exact hx
  refine ⟨iv.look hj hx' (by rw [hmd,mb.at_ hm];exact g),?_,λi hi hin _ dn=>?_,λz=>(by cases z),?_,(by show S'.src=_;rw [←hS'];exact ChS.putB_src _ _),?_,?_⟩
  ·rw [ChS.look_looks hj2]
   have q:=zi4 (a:=(S.atS j).putP ((S.md.getD x.2 []).getD x.1 0) (S.putB k x.2).1) (ChS.get_at hj')
   have q2:((S.atS j).putP ((S.md.getD x.2 []).getD x.1 0) (S.putB k x.2).1).lk=(S.atS j).lk:=rfl
   unfold ChS.looks
   rw [hst]
   lia
  ·unfold ChS.Done
   rw [ChS.look_at hj2,if_neg (by lia),at' i,if_neg (by lia)]
   exact dn
  ·rw [ChS.look_chn hj2,mp.emv]
  ·show S'.ln.length<=_
   have:=mb.len
   rw [←hS']
   show (S.putB k x.2).2.ln.length<=_
   lia
  ·show S'.bl.length<=_
   rw [←hS']
   show (S.putB k x.2).2.bl.length<=_
   rw [bl1];lia
 | some k2 =>
  rw [ea] at ef
  dsimp only at ef
  have hq:(S.md.getD x.2 []).getD x.1 0∈S.chn.ring j:=A5 ea
  have eu2:S.chn.up j ((S.md.getD x.2 []).getD x.1 0)=S.md.getD k2 []:=ChS.chn_up ea
  have hk2:k2<S.md.length:=(h.fine.tolt (T8 ea)).2
  obtain ⟨sg,sf⟩:=h.ok.schreier hj hp hs hq
  rw [eu,eu2] at sg sf
  have hyT:=sg.isT (h.ok.mvT j)
  have hh:=h.holds (j:=j+1) (by lia) (λi hi hin=>d i (by lia) hin) hyT sf
  cases hi:(M1 n S.md (S.st.drop (j+1)) (j+1) (TM.beh (TM.beh (S.md.getD k []) (S.md.getD x.2 [])) (TM.bk n (S.md.getD k2 []))) []).isSome with
  | true =>
   rw [hi,if_pos rfl] at ef
   rw [ef]
   dsimp only
   have g:S.chn.Good n j x.1 (S.md.getD x.2 []):=⟨hq,by rw [eu,eu2];exact hh.mp hi⟩
   refine ⟨h.look hj hx g,ChS.look_looks hj',λi hi hin _ dn=>?_,λz=>(by cases z),?_,rfl,?_,?_⟩
   ·unfold ChS.Done
    rw [ChS.look_at hj',if_neg (by lia)]
    exact dn
   ·rw [ChS.look_chn hj']
   ·exact cv _ _
   ·exact bY _
  | false =>
   rw [hi,if_neg (by decide)] at ef
   rw [ef]
   dsimp only
   have ng:¬TM.Grp n (S.chn.mv (j+1)) (TM.beh (TM.beh (S.md.getD k []) (S.md.getD x.2 [])) (TM.bk n (S.md.getD k2 []))):=λz=>by
    rw [hh.mpr z] at hi;cases hi
   have hj1:j+1<n:=by
    rcases dA (j+1) n with q|q
    ·exact q
    ·rw [dw (by rw [h.len];exact q),M1] at hi
     cases hi
   obtain ⟨mk,b2⟩:=mb.fine.putK b1 (mb.lift hk2)
   have bl2:=ChS.putK_bl (n:=n) (S:=(S.putB k x.2).2) k2
   have m3:=mk.fine.putB (mk.lift mb.lt) mk.lt
   have src3:(((S.putB k x.2).2.putK n k2).2.putB (S.putB k x.2).1 ((S.putB k x.2).2.putK n k2).1).2.src=S.src:=by rw [ChS.putB_src,ChS.putK_src,ChS.putB_src]
   obtain ⟨b3,bl3⟩:=b2.putB mk.fine.lnl (mk.lift mb.lt) mk.lt
   obtain ⟨iv1,ec1⟩:=h.grow mb b1
   obtain ⟨iv2,ec2⟩:=iv1.grow mk b2
   rw [ec1] at ec2
   rw [mk.at_ mb.lt,mb.at',mk.at',mb.at_ hk2] at m3
   generalize hS2:((S.putB k x.2).2.putK n k2).2=S2 at m3 b3 bl3 iv2 ec2 mk bl2 ef src3
   generalize hS3:S2.putB (S.putB k x.2).1 ((S.putB k x.2).2.putK n k2).1=S3 at m3 b3 bl3 ef src3
   have st2:S2.st=S.st:=by rw [mk.st,mb.st]
   have as2:=λi=>ChS.atS_st st2 i
   obtain ⟨iv,mp⟩:=iv2.mover hj1 m3 b3 hyT sf (λg hg=>by
    obtain rfl:g=j:=by lia
    rw [ec2];exact sg) (by rw [ec2];exact ng)
   rw [as2,st2] at iv mp
   have g:=mp.new iv2.ok (j:=j) (p:=x.1) (s:=S.md.getD x.2 []) (by rw [ec2];exact hq) (by rw [ec2,eu,eu2])
   generalize hS':({ S3.2 with st:=S.st.set (j+1) ((S.atS (j+1)).putM S3.1) }:ChS)=S' at iv mp g
   have hj1':j+1<S.st.length:=by rw [h.len];exact hj1
   have hst:S'.st=S.st.set (j+1) ((S.atS (j+1)).putM S3.1):=by rw [←hS']
   have hmd:S'.md=S3.2.md:=by rw [←hS']
   have at':=λi=>ChS.atS_set hst hj1' i
   have hj2:j<S'.st.length:=by rw [hst,bE];exact hj'
   have ej:S'.atS j=S.atS j:=by rw [at' j,if_neg (by lia)]
   refine ⟨iv.look hj (by rw [ej];exact hx) (by rw [hmd,m3.at_ (mk.lift (mb.lift hm)),mk.at_ (mb.lift hm),mb.at_ hm];exact g),?_,λi hi hin hne dn=>?_,λ_=>hj1,?_,(by show S'.src=_;rw [←hS'];exact src3),?_,?_⟩
   ·rw [ChS.look_looks hj2]
    have q:=zi4 (a:=(S.atS (j+1)).putM S3.1) (ChS.get_at hj1')
    have q2:((S.atS (j+1)).putM S3.1).lk=(S.atS (j+1)).lk:=rfl
    unfold ChS.looks
    rw [hst]
    lia
   ·unfold ChS.Done
    rw [ChS.look_at hj2,if_neg (by lia),at' i,if_neg (hne rfl)]
    exact dn
   ·rw [ChS.look_chn hj2,←ec2]
    funext s
    exact propext ((mp.emv 0 s).trans ⟨λz=>z.elim id λy=>absurd y.1 (by lia),.inl⟩)
   ·show S'.ln.length<=_
    have:=mb.len
    have:=mk.len
    have:=m3.len
    rw [←hS']
    show S3.2.ln.length<=_
    lia
   ·show S'.bl.length<=_
    rw [←hS']
    show S3.2.bl.length<=_
    rw [bl3]
    rw [bl1] at bl2
    exact bl2
theorem ChS.look_putB {S:ChS}(j k m:Nat):(S.look j).putB k m=((S.putB k m).1,(S.putB k m).2.look j):=by
 unfold ChS.putB
 by_cases e1:k=0
 ·rw [if_pos e1,if_pos e1]
 ·rw [if_neg e1,if_neg e1]
  by_cases e2:m=0
  ·rw [if_pos e2,if_pos e2]
  ·rw [if_neg e2,if_neg e2];rfl
theorem ChS.look_putK {S:ChS}(n j k:Nat):(S.look j).putK n k=((S.putK n k).1,(S.putK n k).2.look j):=by
 unfold ChS.putK
 have e:(S.look j).bl=S.bl:=rfl
 rw [e]
 cases q:atN S.bl k with
 | some k'=>rfl
 | none=>rfl
theorem ChS.found_look {n:Nat}{S:ChS}{j:Nat}(hj:j<S.st.length)(p m:Nat):(S.look j).found n j p m=((S.found n j p m).1.look j,(S.found n j p m).2):=by
 have ej:(S.look j).atS j={ S.atS j with lk:=(S.atS j).lk+1 }:=by rw [ChS.look_at hj,if_pos rfl]
 have ej1:(S.look j).atS (j+1)=S.atS (j+1):=by rw [ChS.look_at hj,if_neg (by lia)]
 have emd:(S.look j).md=S.md:=rfl
 have ed:(S.look j).st.drop (j+1)=S.st.drop (j+1):=List.drop_set_of_lt (by lia)
 unfold ChS.found
 simp only [ej,ej1,emd,ed,ChS.look_putB,ChS.look_putK]
 cases ea:atN (S.atS j).to ((TM.beh (S.md.getD ((atN (S.atS j).to p).getD 0) []) (S.md.getD m [])).getD j 0) with
 | none =>
  dsimp only
  refine Prod.ext ?_ rfl
  generalize hX:((atN (S.atS j).to p).getD 0)=k
  generalize hS':({ (S.putB k m).2 with st:=S.st.set j ((S.atS j).putP ((TM.beh (S.md.getD k []) (S.md.getD m [])).getD j 0) (S.putB k m).1) }:ChS)=S'
  have hst:S'.st=S.st.set j ((S.atS j).putP ((TM.beh (S.md.getD k []) (S.md.getD m [])).getD j 0) (S.putB k m).1):=by rw [←hS']
  have e:=ChS.atS_set hst hj j
  rw [if_pos rfl] at e
  show _=({ S' with st:=S'.st.set j { S'.atS j with lk:=(S'.atS j).lk+1 } }:ChS)
  rw [e,hst,List.set_set]
  show ({ (S.putB k m).2.look j with st:=(S.st.set j _).set j _ }:ChS)=_
  rw [List.set_set,←hS']
  rfl
 | some k2 =>
  dsimp only
  by_cases hi:(M1 n S.md (S.st.drop (j+1)) (j+1) (TM.beh (TM.beh (S.md.getD ((atN (S.atS j).to p).getD 0) []) (S.md.getD m [])) (TM.bk n (S.md.getD k2 []))) []).isSome=true
  ·rw [if_pos hi,if_pos hi]
  ·rw [if_neg hi,if_neg hi]
   dsimp only
   refine Prod.ext ?_ rfl
   dsimp only
   generalize (((S.putB ((atN (S.atS j).to p).getD 0) m).2.putK n k2).2.putB (S.putB ((atN (S.atS j).to p).getD 0) m).1 ((S.putB ((atN (S.atS j).to p).getD 0) m).2.putK n k2).1)=Y
   show ({ Y.2 with st:=(S.st.set j _).set (j+1) _ }:ChS)=({ Y.2 with st:=(S.st.set (j+1) _).set j _ }:ChS)
   rw [List.set_comm _ _ (show j≠j+1 by lia)]
   have e:(({ Y.2 with st:=S.st.set (j+1) ((S.atS (j+1)).putM Y.1) }:ChS)).atS j=S.atS j:=by
    unfold ChS.atS
    rw [ar,bM (by lia),ar]
   rw [e]
theorem xm8 {l:List StS}{b:Nat}(h:∀s∈l,s.lk<=b):(l.map StS.lk).sum<=l.length*b:=by
 induction l with
 | nil=>simp
 | cons x r ih =>
  have h1:=h x au
  have h2:=ih λs hs=>h s (ao _ hs)
  rw [aR,cT,az,dF,cM]
  lia
theorem ChS.Inv.wt_le {n:Nat}{S:ChS}(hn:n<=60)(h:S.Inv n){j:Nat}(hj:j<n):(S.atS j).wt.length<=21240:=by
 rw [h.wl j]
 have h1:=h.ring hj
 have h2:=h.few hn j
 exact aB (fN (aB h1 hn) h2) (by decide)
theorem ChS.mem_at {S:ChS}{s:StS}(h:s∈S.st):∃j,j<S.st.length/\S.atS j=s:=by
 obtain ⟨j,hj,e⟩:=aY.mp h
 exact ⟨j,hj,by rw [ChS.atS_of (aa hj),e]⟩
theorem ChS.Inv.looks_le {n:Nat}{S:ChS}(hn:n<=60)(h:S.Inv n):S.looks<=1274400:=by
 have q:=xm8 (l:=S.st) (b:=21240) λs hs=>by
  obtain ⟨j,hj,rfl⟩:=ChS.mem_at hs
  exact aB (h.lk j) (h.wt_le hn (by rw [←h.len];exact hj))
 unfold ChS.looks
 rw [h.len] at q
 have:n*21240<=60*21240:=bX _ hn
 lia
theorem ChS.Inv.few_look {n:Nat}{S:ChS}{c j:Nat}(hn:n<=60)(h:S.Inv n)(hj:j<n)(hc:c<=1000)(b1:S.ln.length<=3*S.looks+c)(b2:S.bl.length<=S.looks+c):(S.look j).Few/\(S.look j).Fine n:=by
 have q:=h.looks_le hn
 have hj':j<S.st.length:=by rw [h.len];exact hj
 refine ⟨⟨by show S.ln.length<_;lia,by show S.bl.length<_;lia,λs hs=>?_⟩,ChS.Fine.set (O8.refl h.fine h.fine.pos) (λy hy=>h.fine.tolt hy) (λy hy=>h.fine.mvlt hy)⟩
 obtain ⟨i,hi,rfl⟩:=ChS.mem_at hs
 have hi:i<n:=by
  have e:(S.look j).st.length=S.st.length:=bE
  rw [e,h.len] at hi;exact hi
 obtain ⟨e1,e2,e3⟩:=ChS.look_mv hj' i
 rw [e1,e2,e3]
 have h1:=h.few hn i
 have h2:=h.ring hi
 have h3:=h.wt_le hn hi
 exact ⟨by lia,by lia,by lia⟩
theorem W6 {X:Cx}{C:Addr}{k j:Nat}{m:Str}{ps:List Str}{sp:Sp}{o:Expr}{ta:TE}{apos pos:Pos}{pl:Sem Bool}(c:Cls X.K C)(kn:Z1 X.prog X.w X.K X.mg X.base k C m ps sp)(hr:X8 j X.A)(ho:PE X o ta)(hj:k<=j:=by decide)
  (ht:eval (.Call (.Attribute o m apos) [] [] pos) X.env=(do
   let v ←eval o X.env
   standAt apos.atName
   let (f,first) ←holding [v] (getMethod v m pl)
   callWith pos f first (backTo pos (starEach [] X.env)) (backToKw pos (keywordEach [] X.env))):=by rfl):PE X (.Call (.Attribute o m apos) [] [] pos) (yo4 C m sp [] E0 ta xn1):=by
 obtain ⟨f,fd,G,hm,hb⟩:=kn
 exact yy7 ho c hm G (hr.mono hj) hb .nil ym4 ht
def ye4 (cC cB cS:Addr):Sp:=λvs H Q _=>∃(A:ChA) (S:ChS) (n c:Nat),vs=[.ref A.c]/\r6 cC cB cS n H A S/\S.Inv n/\0<n/\n<=60/\(∀i,0<i->i<n->S.Done i)/\c<=1000/\S.ln.length<=3*S.looks+c/\S.bl.length<=S.looks+c /\
 ∀(S':ChS) (H':Hp),x9 A.all H H'->r6 cC cB cS n H' A S'->S'.Inv n->(∀i,i<n->S'.Done i)->S'.chn.mv 0=S.chn.mv 0->S'.src=S.src->S'.ln.length<=3*S'.looks+c->S'.bl.length<=S'.looks+c->Q .non H'
theorem Z9:v1 ["self","level","pair"] ["self"] (y6 P5):=scq
theorem zh2 {cC cB cS:Addr}(F:Fun K "settle" "Chain.settle" P5 f fd) (B:Blt mg) (cc:h8 K cC Y4) (cs:h8 K cS O5) (MN:Z1 P w K mg base 1 cS "next_pair" ["self"] (xa5 cS)) (MF:Z1 P w K mg base 4 cC "found_mover" ["self","level","place","mover"] (yn4 cC cB cS)):p6 P w K mg base CX0 5 f fd ["self"] (ye4 cC cB cS):=by
 refine F.ok Z9 (λvs H Q E h=>?_) (λcdv Ar outer sh H vs Q E hr h=>?_)
 ·obtain ⟨A,S,n,c,rfl,_⟩:=h
  rfl
 obtain ⟨A,S,n,c,rfl,ch0,iv0,hn0,hn,dn0,hc,bl0,bb0,q⟩:=h
 obtain ⟨M,hM⟩:∃M:Nat,M=2000000:=⟨_,rfl⟩
 refine ⟨_,z6 (y9 (i:=1) Z9.nd rfl (Or.inl rfl) z8)
  (z9 (yc9 PassesOwn.never (o4 xp3 (pv 1) z8 (p7 _))
   (z6 (y9 (i:=2) Z9.nd rfl (Or.inl rfl) (W6 cs.cls MN hr (l9 p8 (w6 (pv 0) rfl) (pv 1) (λ_ _=>rfl))))
   (z9 (k8 (zm7 (xl8 (pv 2))) (z9 (yi5 (i:=1) Z9.nd rfl (Or.inl rfl) z8 xj9))
    (z9 (k8 (Y1 (c5 cc.cls MF hr (pv 0) (z0 (pv 1) (z0 (l9 N0 (pv 2) z8 (λ_ _=>rfl)) (z0 (l9 N0 (pv 2) z8 (λ_ _=>rfl)) z4)))))
     (z9 (yi5 (i:=1) Z9.nd rfl (Or.inl rfl) z8 xj7)) u8))))))),?_⟩
 refine ⟨λm σ H2=>∃(S2:ChS) (lv:Int) (v2:Option V),σ=[some (.ref A.c),some (.int lv),v2]/\-1<=lv/\lv<n/\m=2*(M-S2.looks)+(lv+1).toNat/\x9 A.all H H2/\r6 cC cB cS n H2 A S2/\S2.Inv n/\(∀i:Nat,lv<i->i<n->S2.Done i)/\(S2.chn.mv 0=S.chn.mv 0/\S2.src=S.src)/\S2.ln.length<=3*S2.looks+c/\S2.bl.length<=S2.looks+c,⟨_,S,0,none,rfl,by lia,by lia,rfl,x9.refl,ch0,iv0,λi hi hin=>dn0 i (by lia) hin,⟨rfl,rfl⟩,bl0,bb0⟩,?_⟩
 rintro m σ H2 ⟨S2,lv,v2,rfl,l1,l2,rfl,fr,ch,iv,dn,e0,b1,b2⟩
 refine ⟨_,rfl,_,_,rfl,rfl,_,rfl,?_⟩
 by_cases hlv:0<=lv
 ·rw [decide_eq_true hlv]
  refine b6 ⟨_,λσ' H' z=>z,?_⟩
  obtain ⟨j,rfl⟩:∃j:Nat,lv=(j:Int):=⟨lv.toNat,by lia⟩
  have hj:j<n:=by lia
  have hj':j<S2.st.length:=by rw [iv.len];exact hj
  obtain ⟨dxc,hc'⟩:=ch.c
  obtain ⟨a,hAj⟩:∃a,A.st[j]?=some a:=⟨_,aa (by rw [ch.len.1];exact hj)⟩
  have hs:=ChS.get_at hj'
  have st:=ch.st j a _ hAj hs
  obtain ⟨dxs,hsa⟩:=st.a
  have ga:atI (A.st.map λs=>V.ref s.a) ((j:Nat):Int)=some (V.ref a.a):=i4 (by rw [ag,hAj];rfl)
  have hwl:=iv.wt_le hn hj
  refine ⟨_,rfl,A.c,cC,dxc,_,_,rfl,hc',cc.cls,cc.no "steps" (by decide),rfl,_,rfl,A.l,_,_,_,rfl,rfl,SqL.of ch.l,ga,a.a,dxs,_,rfl,hsa,rfl,a,n,S2.md,j,S2.atS j,rfl,st,iv.lk j,by lia,λhd=>?_,λx r H3 hx hr3 fr3 st3=>?_⟩
  ·refine ⟨_,rfl,_,rfl,b6 ?_⟩
   refine ⟨_,rfl,_,_,rfl,rfl,?_⟩
   refine ⟨_,?_,S2,(j:Int)-1,_,rfl,by lia,by lia,rfl,fr,ch,iv,λi hi hin=>?_,e0,b1,b2⟩
   ·lia
   ·by_cases e:i=j
    ·rw [e];exact hd
    ·exact dn i (by lia) hin
  ·have nt:∀x∈[a.a],x∈a.all/\∀xs,H2 x≠some (.tup xs):=λx hx=>by
    rw [ah.mp hx]
    exact ⟨by simp [StA.all],λxs z=>by rw [hsa] at z;cases z⟩
   have ch3:r6 cC cB cS n H3 A (S2.look j):=ch.step hAj nt fr3 st3
   obtain ⟨few,fin⟩:=iv.few_look hn hj hc b1 b2
   have hw:=iv.wt' j x (ax hx)
   have nx:=iv.found hj hx (λi hi hin=>dn i (by lia) hin)
   have fl:=ChS.found_look (n:=n) (S:=S2) hj' x.1 x.2
   obtain ⟨k,hk⟩:∃k,atN (S2.atS j).to x.1=some k:=by
    cases e:atN (S2.atS j).to x.1 with
    | none=>exact absurd hw.1 (V4.mp e)
    | some k=>exact ⟨k,rfl⟩
   have hm:=iv.fine.mvlt hw.2
   obtain ⟨dxc3,hc3⟩:=ch3.c
   have lks:=nx.inv.looks_le hn
   have lke:=nx.looks
   refine ⟨_,rfl,_,rfl,k9 ?_⟩
   refine ⟨_,rfl,A.c,dxc3,_,rfl,hc3,rfl,_,rfl,_,rfl,r,_,_,_,rfl,rfl,SqT.of hr3,rfl,_,rfl,r,_,_,_,rfl,rfl,SqT.of hr3,rfl,A,S2.look j,n,j,x.1,x.2,k,rfl,ch3,fin,iv.bks.of rfl rfl rfl rfl,few,hn,hj,by rw [(ChS.look_mv hj' j).2.1];exact hk,hm,λH4 fr4 ch4=>?_⟩
   rw [fl] at ch4 ⊢
   have fr':x9 A.all H H4:=fr.trans ((fr3.allS hAj λx hx=>(nt x hx).1).trans fr4)
   have ln':((S2.found n j x.1 x.2).1.look j).ln.length<=3*((S2.found n j x.1 x.2).1.look j).looks+c:=by have:=nx.ln;lia
   have bl':((S2.found n j x.1 x.2).1.look j).bl.length<=((S2.found n j x.1 x.2).1.look j).looks+c:=by have:=nx.bl;lia
   have e0':=And.intro (nx.mv0.trans e0.1) (nx.src.trans e0.2)
   refine ⟨_,rfl,?_⟩
   cases hb:(S2.found n j x.1 x.2).2 with
   | true =>
    have hj1:=nx.more hb
    refine b6 ?_
    refine ⟨_,rfl,_,_,rfl,rfl,?_⟩
    refine ⟨_,?_,(S2.found n j x.1 x.2).1.look j,(j:Int)+1,_,rfl,by lia,by lia,rfl,fr',ch4,nx.inv,λi hi hin=>nx.done i (by lia) hin (λ_=>by lia) (dn i (by lia) hin),e0',ln',bl'⟩
    lia
   | false =>
    refine k9 ?_
    refine ⟨_,?_,(S2.found n j x.1 x.2).1.look j,(j:Int),_,rfl,by lia,by lia,rfl,fr',ch4,nx.inv,λi hi hin=>nx.done i (by lia) hin (λz=>by rw [hb] at z;cases z) (dn i (by lia) hin),e0',ln',bl'⟩
    lia
 ·rw [decide_eq_false hlv]
  refine k9 ?_
  exact q S2 H2 fr ch iv (λi hi=>dn i (by lia) hi) e0.1 e0.2 b1 b2
theorem A6 {J:It}{fr:List Nat}{te:CT TE}{σ:St}{H1:Hp}{Q:Addr->Hp->Prop}{β:Type}(adr:β->Addr)(foot:β->List Addr)(R:Hp->Nat->β->Prop){n:Nat}(hz:n<=sizeLine)
  (hR:∀(H H':Hp) (D:Addr) (xs:List V) (i:Nat) (b:β),R H i b->H D=some (.lst xs)->x9 [D] H H'->D∉foot b->R H' i b)
  (hstop:∀H,y4 H1 H->J.stop n H) (hgo:∀i H,i<n->y4 H1 H->J.go i H)
  (turn:∀(i:Nat) H x H2,i<n->y4 H1 H->J.yld i H x H2->H2=H/\∀C₀ s₀ H₀ fp,te C₀ s₀ H₀ fp (some x::fr.map λj=>(σ[j]?).getD none) H λv H4=>y4 H H4/\∃b,v=.ref (adr b)/\R H4 i b/\(foot b).Nodup/\∀a∈foot b,H a=none/\∃o,H4 a=some o)
  (fin:∀D H (bs:List β),H1 D=none->y4 H1 H->H D=some (.lst (bs.map λb=>V.ref (adr b)))->bs.length=n->(∀i b,bs[i]?=some b->R H i b)->(bs.map foot).flatten.Nodup->(∀b∈bs,∀a∈foot b,H1 a=none/\a≠D)->Q D H) :
  ∀D,H1 D=none->∃W:Nat->Nat->St->Hp->Prop,(∃m,W 0 m (V0 1 fr σ) (upd H1 D (.lst [])))/\∀i m σ' H',W i m σ' H' ->
  (J.stop i H'/\Q D H')∨(J.go i H'/\∀x H2,J.yld i H' x H2->∀C₀ s₀ H₀ fp,p3 0 x σ' H2 λσ3 H3=>∃N:VK,te C₀ s₀ H₀ fp σ3 H3 N/\∀y H4,N y H4 ->
   ∃ys m',H4 D=some (.lst ys)/\ys.length<sizeLine/\m'<m/\W (i+1) m' σ3 (upd H4 D (.lst (ys++[y])))):=by
 intro D hD
 refine ⟨λi m σ' H'=>m=n-i/\i<=n/\y4 H1 H'/\(∃bs:List β,H' D=some (.lst (bs.map λb=>V.ref (adr b)))/\bs.length=i/\(∀k b,bs[k]?=some b->R H' k b)/\(bs.map foot).flatten.Nodup/\∀b∈bs,∀a∈foot b,H1 a=none/\a≠D/\∃o,H' a=some o)/\∃z,σ'=z::fr.map λj=>(σ[j]?).getD none,
  ⟨n,rfl,aQ _,y8 hD _,⟨[],z5,rfl,λk b h=>(by simp at h),by simp,λb h=>(by cases h)⟩,none,rfl⟩,?_⟩
 rintro i m σ' H' ⟨rfl,hi,sm,⟨bs,hl,hbl,hRs,hnd,hft⟩,z,rfl⟩
 by_cases hlt:i<n
 ·refine .inr ⟨hgo i H' hlt sm,λx H2 yl C₀ s₀ H₀ fp=>?_⟩
  obtain ⟨e,tn⟩:=turn i H' x H2 hlt sm yl
  subst e
  refine ⟨_,tn C₀ s₀ H₀ fp,λv H4 ⟨s4,b,hv,hRb,hndb,hfb⟩=>?_⟩
  subst hv
  have hD4:=s4 _ _ hl
  have fr4:x9 [D] H4 (upd H4 D (.lst (bs.map (λb=>V.ref (adr b))++[V.ref (adr b)]))):=x9.upd x9.refl (by simp) _
  have hDb:D∉foot b:=λh=>by
   have:=(hfb D h).1
   rw [hl] at this
   cases this
  have hDbs:∀c∈bs,D∉foot c:=λc hc h=>(hft c hc D h).2.1 rfl
  refine ⟨_,n-(i+1),hD4,by rw [ae,hbl];lia,by lia,rfl,hlt,λc o e=>?_,⟨bs++[b],by rw [z5,aV];rfl,by rw [aq,hbl];rfl,λk c hk=>?_,?_,λc hc a ha=>?_⟩,_,rfl⟩
  ·rw [z7 (y0 e hD)]
   exact s4 _ _ (sm _ _ e)
  ·by_cases hk':k<bs.length
   ·rw [aN hk'] at hk
    have hm:=hDbs c (ax hk)
    exact hR H4 _ D _ k c (hR _ H4 D _ k c (hRs k c hk) hl (y4.frame s4) hm) hD4 fr4 hm
   ·have e:k=bs.length:=by
     have:=(ap.mp hk).1
     rw [aq,bn] at this
     lia
    subst e
    rw [bd (af _),cz] at hk
    obtain rfl:b=c:=by simpa using hk
    rw [hbl]
    exact hR H4 _ D _ i b hRb hD4 fr4 hDb
  ·rw [aV,List.flatten_append]
   refine bj.mpr ⟨hnd,by simpa using hndb,λa ha c hc e=>?_⟩
   subst e
   obtain ⟨l,hl1,hl2⟩:=cO.mp ha
   obtain ⟨b',hb',rfl⟩:=aw.mp hl1
   obtain ⟨o,ho⟩:=(hft b' hb' a hl2).2.2
   have hc':a∈foot b:=by simpa using hc
   have:=(hfb a hc').1
   rw [ho] at this
   cases this
  ·rcases aE.mp hc with w|w
   ·obtain ⟨h1,h2,o,ho⟩:=hft c w a ha
    exact ⟨h1,h2,o,by rw [z7 h2];exact s4 _ _ ho⟩
   ·rw [ah.mp w] at ha
    obtain ⟨h1,o,ho⟩:=hfb a ha
    have hne:a≠D:=λz=>by
     rw [z,hl] at h1
     cases h1
    exact ⟨sm.free h1,hne,o,by rw [z7 hne];exact ho⟩
 ·have e:i=n:=by lia
  subst e
  exact .inl ⟨hstop H' sm,fin D H' bs hD sm hl hbl hRs hnd λb hb a ha=>⟨(hft b hb a ha).1,(hft b hb a ha).2.1⟩⟩
def ChS.new (n:Nat)(sr:Nat->List Nat):ChS:=⟨[.still],[List.range n],[(0,0)],(List.range n).map λi=>⟨[],[(i,0)],[],0⟩,sr⟩
def yn3 (cB:Addr):Sp:=λvs H Q _=>∃(x dx:Addr) (n:Nat),vs=[.ref x,.int n]/\H x=some (.ins cB dx [])/\n<=60 /\
 ∀(ll lm d:Addr) (H':Hp),[ll,lm,d].Nodup->H ll=none->H lm=none->H d=none->x9 [x] H H'->(∀(A:ChA) (sr:Nat->List Nat),A.b=x->A.ll=ll->A.lm=lm->A.d=d->U5 cB H' A (ChS.new n sr))->Q .non H'
theorem ze9:v1 ["self","many"] ["self","many"] (y6 R8):=scq
theorem zu5 {cB:Addr}(F:Fun K "__init__" "Book.__init__" R8 f fd) (B:Blt mg) (cb:h8 K cB zf9) (KS:r8 P w K mg base 1 "still" ["many"] zc9) (GS:zg8 mg "STILL_LINE" (.int 0)):p6 P w K mg base CX0 2 f fd ["self","many"] (yn3 cB):=by
 refine F.ok ze9 (λvs H Q E h=>?_) (λcdv Ar outer s H vs Q E hr h=>?_)
 ·obtain ⟨x,dx,n,rfl,_⟩:=h
  rfl
 obtain ⟨x,dx,n,rfl,hx,hn,q⟩:=h
 have hz:=W3
 refine ⟨_,z6 (V8 (pv 0) (b9 (z0 (B7 (z0 zm3 z4)) z4)) rfl)
  (z6 (V8 (pv 0) (b9 (z0 (u4 KS hr rfl (z0 (pv 1) z4)) z4)) rfl)
  (z9 (V8 (pv 0) (zv8 (zm4 (zb7 GS rfl) (zb7 GS rfl) zw4) rfl rfl (eL _ _) (by decide)) rfl))),?_⟩
 refine ⟨(by show 1<=sizeLine;lia),λlr hlr=>?_⟩
 have s1:=y8 hlr (.tup [V.str "still"])
 have e1:(upd H lr (.tup [V.str "still"])) lr=some (.tup (lnV .still)):=z5
 generalize upd H lr (.tup [V.str "still"])=H1 at s1 e1 ⊢
 refine ⟨(by show 1<=sizeLine;lia),λll hll=>?_⟩
 have s2:=s1.trans (y8 hll (.lst [V.ref lr]))
 have e2:=y8 hll (.lst [V.ref lr]) _ _ e1
 have l2:(upd H1 ll (.lst [V.ref lr])) ll=some (.lst [V.ref lr]):=z5
 have hll0:H ll=none:=s1.free hll
 generalize upd H1 ll (.lst [V.ref lr])=H2 at s2 e2 l2 ⊢
 refine ⟨_,rfl,x,cB,dx,[],rfl,s2 _ _ hx,cb.cls,cb.no "lines" (by decide),by decide,?_⟩
 have xlr:lr≠x:=λz=>by subst z;rw [hx] at hlr;cases hlr
 have xll:ll≠x:=λz=>by subst z;rw [hx] at hll0;cases hll0
 have f3:x9 [x] H (upd H2 x (.ins cB dx (X2 "lines" (V.ref ll) []))):=x9.upd (y4.frame s2) (by simp) _
 have x3:(upd H2 x (.ins cB dx (X2 "lines" (V.ref ll) []))) x=some (.ins cB dx [("lines",.ref ll)]):=z5
 have e3:(upd H2 x (.ins cB dx (X2 "lines" (V.ref ll) []))) lr=some (.tup (lnV .still)):=by rw [z7 xlr];exact e2
 have l3:(upd H2 x (.ins cB dx (X2 "lines" (V.ref ll) []))) ll=some (.lst [V.ref lr]):=by rw [z7 xll];exact l2
 generalize upd H2 x (.ins cB dx (X2 "lines" (V.ref ll) []))=H3 at f3 x3 e3 l3 ⊢
 refine ⟨_,rfl,n,rfl,by lia,λtr H4 htr s4 ht4=>⟨(by show 1<=sizeLine;lia),λlm hlm=>?_⟩⟩
 have s5:=s4.trans (y8 hlm (.lst [V.ref tr]))
 have t5:=y8 hlm (.lst [V.ref tr]) _ _ ht4
 have m5:(upd H4 lm (.lst [V.ref tr])) lm=some (.lst [V.ref tr]):=z5
 have hlm3:H3 lm=none:=s4.free hlm
 generalize upd H4 lm (.lst [V.ref tr])=H5 at s5 t5 m5 ⊢
 have x5:=s5 _ _ x3
 refine ⟨_,rfl,x,cB,dx,_,rfl,x5,cb.cls,cb.no "made" (by decide),by (show 1<1000;decide),?_⟩
 have xtr:tr≠x:=λz=>by subst z;rw [x3] at htr;cases htr
 have xlm:lm≠x:=λz=>by subst z;rw [x3] at hlm3;cases hlm3
 have ml:lm≠ll:=λz=>by subst z;rw [l3] at hlm3;cases hlm3
 have f6:x9 [x] H (upd H5 x (.ins cB dx (X2 "made" (V.ref lm) [("lines",.ref ll)]))):=x9.upd (f3.trans (y4.frame s5)) (by simp) _
 have x6:(upd H5 x (.ins cB dx (X2 "made" (V.ref lm) [("lines",.ref ll)]))) x=some (.ins cB dx [("lines",.ref ll),("made",.ref lm)]):=by rw [z5];rfl
 have e6:(upd H5 x (.ins cB dx (X2 "made" (V.ref lm) [("lines",.ref ll)]))) lr=some (.tup (lnV .still)):=by rw [z7 xlr];exact s5 _ _ e3
 have l6:(upd H5 x (.ins cB dx (X2 "made" (V.ref lm) [("lines",.ref ll)]))) ll=some (.lst [V.ref lr]):=by rw [z7 xll];exact s5 _ _ l3
 have t6:(upd H5 x (.ins cB dx (X2 "made" (V.ref lm) [("lines",.ref ll)]))) tr=some (.tup (tI (List.range n))):=by rw [z7 xtr];exact t5
 have m6:(upd H5 x (.ins cB dx (X2 "made" (V.ref lm) [("lines",.ref ll)]))) lm=some (.lst [V.ref tr]):=by rw [z7 xlm];exact m5
 have nn:H lm=none:=by
  cases e:H lm with
  | none=>rfl
  | some o =>
   have:=f3 lm o (by simpa using xlm) e
   rw [this] at hlm3
   cases hlm3
 generalize upd H5 x (.ins cB dx (X2 "made" (V.ref lm) [("lines",.ref ll)]))=H6 at f6 x6 e6 l6 t6 m6 ⊢
 refine λd hd=>⟨z5,[(Sum.inl 0,V.int 0)],rfl,by decide,?_⟩
 have s7:y4 H6 (upd (upd H6 d (.dK [])) d (.dK (W5 [] [(Sum.inl 0,V.int 0)]))):=λb o h=>by
  have hb:=y0 h hd
  rw [z7 hb,z7 hb];exact h
 have d7:(upd (upd H6 d (.dK [])) d (.dK (W5 [] [(Sum.inl 0,V.int 0)]))) d=some (.dK (kI [(0,0)])):=by rw [z5];rfl
 generalize upd (upd H6 d (.dK [])) d (.dK (W5 [] [(Sum.inl 0,V.int 0)]))=H7 at s7 d7 ⊢
 refine ⟨_,rfl,x,cB,dx,_,rfl,s7 _ _ x6,cb.cls,cb.no "back_lines" (by decide),by (show 2<1000;decide),?_⟩
 have xd:d≠x:=λz=>by subst z;rw [x6] at hd;cases hd
 have dl:d≠ll:=λz=>by subst z;rw [l6] at hd;cases hd
 have dm:d≠lm:=λz=>by subst z;rw [m6] at hd;cases hd
 have nd:H d=none:=by
  cases e:H d with
  | none=>rfl
  | some o =>
   have:=f6 d o (by simpa using xd) e
   rw [this] at hd
   cases hd
 refine q ll lm d _ (by simp;exact ⟨⟨Ne.symm ml,Ne.symm dl⟩,Ne.symm dm⟩) hll0 nn nd (x9.upd (f6.trans (y4.frame s7)) (by simp) _) λA sr hAb hAl hAm hAd=>?_
 subst hAb hAl hAm hAd
 refine ⟨⟨dx,by rw [z5];rfl⟩,⟨[lr],by rw [z7 xll];exact s7 _ _ l6,.cons ?_ .nil⟩,⟨[tr],by rw [z7 xlm];exact s7 _ _ m6,.cons ?_ .nil⟩,by rw [z7 xd];exact d7,rfl⟩
 ·rw [z7 xlr];exact s7 _ _ e6
 ·rw [z7 xtr];exact s7 _ _ t6
def yo0 (cS:Addr):Sp:=λvs H Q _=>∃(x dx:Addr) (i n:Nat),vs=[.ref x,.int i,.int n]/\H x=some (.ins cS dx [])/\n<=60 /\
 ∀(A:StA) (H':Hp),A.a=x->A.all.Nodup->(∀a∈A.all,a≠x->H a=none)->x9 [x] H H'->Z3 cS n [List.range n] H' A i ⟨[],[(i,0)],[],0⟩->Q .non H'
theorem zf2:v1 ["self","place","many"] ["self","place","many"] (y6 Q0):=scq
theorem Z0 {H:Hp}{x cS dx:Addr}{fs:List (Str×V)}{f:Str}{v:V}{fs':List (Str×V)}(e:X2 f v fs=fs'):∃H',upd H x (.ins cS dx (X2 f v fs))=H'/\x9 [x] H H'/\H' x=some (.ins cS dx fs'):=⟨_,rfl,x9.upd x9.refl (by simp) _,by rw [z5,e]⟩
theorem x9.keep {x b:Addr}{o:HO}{H H':Hp}(fr:x9 [x] H H')(h:H b=some o)(hb:b≠x):H' b=some o:=fr b o (by simpa using hb) h
theorem x9.free {x b:Addr}{H H':Hp}(fr:x9 [x] H H')(h:H' b=none)(hb:b≠x):H b=none:=by
 cases e:H b with
 | none=>rfl
 | some o =>
  rw [fr.keep e hb] at h
  cases h
theorem zu8 {cS:Addr}(F:Fun K "__init__" "Step.__init__" Q0 f fd) (B:Blt mg) (cs:h8 K cS O5) (KS:r8 P w K mg base 1 "still" ["many"] zc9) (GS:zg8 mg "STILL_LINE" (.int 0)):p6 P w K mg base CX0 2 f fd ["self","place","many"] (yo0 cS):=by
 refine F.ok zf2 (λvs H Q E h=>?_) (λcdv Ar outer s H vs Q E hr h=>?_)
 ·obtain ⟨x,dx,i,n,rfl,_⟩:=h
  rfl
 obtain ⟨x,dx,i,n,rfl,hx,hn,q⟩:=h
 have hz:=W3
 refine ⟨_,z6 (V8 (pv 0) (pv 1) rfl)
  (z6 (V8 (pv 0) (b9 z4) rfl)
  (z6 (V8 (pv 0) (zv8 (zm4 (pv 1) (zb7 GS rfl) zw4) rfl rfl (eL _ _) (by decide)) rfl)
  (z6 (V8 (pv 0) (zv8 (zm4 (pv 1) (u4 KS hr rfl (z0 (pv 2) z4)) zw4) rfl rfl (eL _ _) (by decide)) rfl)
  (z6 (V8 (pv 0) (b9 z4) rfl)
  (z9 (V8 (pv 0) z8 rfl)))))),?_⟩
 refine ⟨_,rfl,_,rfl,x,cS,dx,[],rfl,hx,cs.cls,cs.no "place" (by decide),by decide,?_⟩
 obtain ⟨H1,g1,f1,x1⟩:=Z0 (H:=H) (x:=x) (cS:=cS) (dx:=dx) (f:="place") (v:=V.int i) (fs:=[]) (fs':=[("place",.int i)]) rfl
 rw [g1]
 refine ⟨(by show 0<=sizeLine;lia),λm hm=>?_⟩
 have s2:=y8 hm (.lst [])
 have m2:(upd H1 m (.lst [])) m=some (.lst []):=z5
 generalize upd H1 m (.lst [])=H2 at s2 m2 ⊢
 have xm:m≠x:=λz=>by subst z;rw [x1] at hm;cases hm
 refine ⟨_,rfl,x,cS,dx,_,rfl,s2 _ _ x1,cs.cls,cs.no "movers" (by decide),by (show 1<1000;decide),?_⟩
 obtain ⟨H3,g3,f3,x3⟩:=Z0 (H:=H2) (x:=x) (cS:=cS) (dx:=dx) (f:="movers") (v:=V.ref m) (fs:=[("place",.int i)]) (fs':=[("place",.int i),("movers",.ref m)]) rfl
 rw [g3]
 have F3:x9 [x] H H3:=(f1.trans (y4.frame s2)).trans f3
 have m3:=f3.keep m2 xm
 refine λd hd=>⟨_,rfl,z5,[(Sum.inl (i:Int),V.int 0)],rfl,(by show 1<=15;decide),?_⟩
 have s4:y4 H3 (upd (upd H3 d (.dK [])) d (.dK (W5 [] [(Sum.inl (i:Int),V.int 0)]))):=λb o h=>by
  have hb:=y0 h hd
  rw [z7 hb,z7 hb];exact h
 have d4:(upd (upd H3 d (.dK [])) d (.dK (W5 [] [(Sum.inl (i:Int),V.int 0)]))) d=some (.dK (kI [(i,0)])):=by rw [z5];rfl
 generalize upd (upd H3 d (.dK [])) d (.dK (W5 [] [(Sum.inl (i:Int),V.int 0)]))=H4 at s4 d4 ⊢
 have xd:d≠x:=λz=>by subst z;rw [x3] at hd;cases hd
 have dm:d≠m:=λz=>by subst z;rw [m3] at hd;cases hd
 refine ⟨_,rfl,x,cS,dx,_,rfl,s4 _ _ x3,cs.cls,cs.no "line_to" (by decide),by (show 2<1000;decide),?_⟩
 obtain ⟨H5,g5,f5,x5⟩:=Z0 (H:=H4) (x:=x) (cS:=cS) (dx:=dx) (f:="line_to") (v:=V.ref d) (fs:=[("place",.int i),("movers",.ref m)]) (fs':=[("place",.int i),("movers",.ref m),("line_to",.ref d)]) rfl
 rw [g5]
 have F5:x9 [x] H H5:=(F3.trans (y4.frame s4)).trans f5
 have m5:=f5.keep (s4 _ _ m3) xm
 have d5:=f5.keep d4 xd
 refine λe he=>⟨_,rfl,_,rfl,n,rfl,by lia,λtr H6 htr s6 ht6=>⟨s6 _ _ z5,[(Sum.inl (i:Int),V.ref tr)],rfl,(by show 1<=15;decide),?_⟩⟩
 have s6':y4 H5 H6:=(y8 he _).trans s6
 have te:tr≠e:=λz=>by subst z;rw [z5] at htr;cases htr
 have s7:y4 H5 (upd H6 e (.dK (W5 [] [(Sum.inl (i:Int),V.ref tr)]))):=λb o h=>by
  rw [z7 (y0 h he)];exact s6' _ _ h
 have e7:(upd H6 e (.dK (W5 [] [(Sum.inl (i:Int),V.ref tr)]))) e=some (.dK (kR [(i,0)] [tr])):=by rw [z5];rfl
 have t7:(upd H6 e (.dK (W5 [] [(Sum.inl (i:Int),V.ref tr)]))) tr=some (.tup (tI (List.range n))):=by rw [z7 te];exact ht6
 generalize upd H6 e (.dK (W5 [] [(Sum.inl (i:Int),V.ref tr)]))=H7 at s7 e7 t7 ⊢
 have xe:e≠x:=λz=>by subst z;rw [x5] at he;cases he
 have em:e≠m:=λz=>by subst z;rw [m5] at he;cases he
 have ed:e≠d:=λz=>by subst z;rw [d5] at he;cases he
 have xt:tr≠x:=λz=>by
  subst z
  rw [z7 te,x5] at htr
  cases htr
 refine ⟨_,rfl,x,cS,dx,_,rfl,s7 _ _ x5,cs.cls,cs.no "back_from" (by decide),by (show 3<1000;decide),?_⟩
 obtain ⟨H8,g8,f8,x8⟩:=Z0 (H:=H7) (x:=x) (cS:=cS) (dx:=dx) (f:="back_from") (v:=V.ref e) (fs:=[("place",.int i),("movers",.ref m),("line_to",.ref d)]) (fs':=[("place",.int i),("movers",.ref m),("line_to",.ref d),("back_from",.ref e)]) rfl
 rw [g8]
 have F8:x9 [x] H H8:=(F5.trans (y4.frame s7)).trans f8
 have m8:=f8.keep (s7 _ _ m5) xm
 have d8:=f8.keep (s7 _ _ d5) xd
 have e8:=f8.keep e7 xe
 have t8:=f8.keep t7 xt
 refine ⟨(by show 0<=sizeLine;lia),λwa hw=>?_⟩
 have s9:=y8 hw (.lst [])
 have w9:(upd H8 wa (.lst [])) wa=some (.lst []):=z5
 generalize upd H8 wa (.lst [])=H9 at s9 w9 ⊢
 have xw:wa≠x:=λz=>by subst z;rw [x8] at hw;cases hw
 have wm:wa≠m:=λz=>by subst z;rw [m8] at hw;cases hw
 have wd:wa≠d:=λz=>by subst z;rw [d8] at hw;cases hw
 have we:wa≠e:=λz=>by subst z;rw [e8] at hw;cases hw
 refine ⟨_,rfl,x,cS,dx,_,rfl,s9 _ _ x8,cs.cls,cs.no "waiting" (by decide),by (show 4<1000;decide),?_⟩
 obtain ⟨H10,g10,f10,x10⟩:=Z0 (H:=H9) (x:=x) (cS:=cS) (dx:=dx) (f:="waiting") (v:=V.ref wa) (fs:=[("place",.int i),("movers",.ref m),("line_to",.ref d),("back_from",.ref e)]) (fs':=[("place",.int i),("movers",.ref m),("line_to",.ref d),("back_from",.ref e),("waiting",.ref wa)]) rfl
 rw [g10]
 have F10:x9 [x] H H10:=(F8.trans (y4.frame s9)).trans f10
 refine ⟨_,rfl,x,cS,dx,_,rfl,x10,cs.cls,cs.no "looked_at" (by decide),by (show 5<1000;decide),?_⟩
 obtain ⟨H11,g11,f11,x11⟩:=Z0 (H:=H10) (x:=x) (cS:=cS) (dx:=dx) (f:="looked_at") (v:=V.int 0) (fs:=[("place",.int i),("movers",.ref m),("line_to",.ref d),("back_from",.ref e),("waiting",.ref wa)]) (fs':=[("place",.int i),("movers",.ref m),("line_to",.ref d),("back_from",.ref e),("waiting",.ref wa),("looked_at",.int 0)]) rfl
 rw [g11]
 have F11:x9 [x] H H11:=F10.trans f11
 have k:∀{b:Addr} {o:HO},H8 b=some o->b≠x->H11 b=some o:=λh hb=>f11.keep (f10.keep (s9 _ _ h) hb) hb
 have w11:H11 wa=some (.lst []):=f11.keep (f10.keep w9 xw) xw
 have nd0:H d=none:=F3.free hd xd
 have nm0:H m=none:=f1.free hm xm
 have ne0:H e=none:=F5.free he xe
 have nw0:H wa=none:=F8.free hw xw
 refine q ⟨x,m,d,e,wa⟩ H11 rfl ?_ ?_ F11 ⟨⟨dx,x11⟩,k m8 xm,k d8 xd,⟨[tr],k e8 xe,.cons ?_ .nil⟩,⟨[],w11,.nil⟩⟩
 ·simp only [StA.all,aK,ay,aP,not_or,or_false,cN,not_false_eq_true,cH,and_true]
  exact ⟨⟨Ne.symm xm,Ne.symm xd,Ne.symm xe,Ne.symm xw⟩,⟨Ne.symm dm,Ne.symm em,Ne.symm wm⟩,⟨Ne.symm ed,Ne.symm wd⟩,Ne.symm we⟩
 ·intro a ha hax
  simp only [StA.all,ay,aP,or_false,cN] at ha
  rcases ha with h|h|h|h|h
  ·exact absurd h hax
  ·rw [h];exact nm0
  ·rw [h];exact nd0
  ·rw [h];exact ne0
  ·rw [h];exact nw0
 ·show H11 tr=some (.tup (tI (TM.bk n (List.range n))))
  rw [TM.bk_still]
  exact k t8 xt
theorem ChS.new_at {sr:Nat->List Nat}(n j:Nat):(ChS.new n sr).atS j=if j<n then ⟨[],[(j,0)],[],0⟩ else ⟨[],[],[],0⟩:=by
 unfold ChS.atS ChS.new
 rw [ar,ag]
 by_cases h:j<n
 ·rw [aM h,if_pos h];rfl
 ·rw [aU (by rw [aA];lia),if_neg h];rfl
theorem ChS.new_mv {sr:Nat->List Nat}(n j:Nat):((ChS.new n sr).atS j).mv=[]:=by
 rw [ChS.new_at]
 by_cases h:j<n
 ·rw [if_pos h]
 ·rw [if_neg h]
theorem ChS.new_wt {sr:Nat->List Nat}(n j:Nat):((ChS.new n sr).atS j).wt=[]/\((ChS.new n sr).atS j).lk=0:=by
 rw [ChS.new_at]
 by_cases h:j<n
 ·rw [if_pos h];exact ⟨rfl,rfl⟩
 ·rw [if_neg h];exact ⟨rfl,rfl⟩
theorem ChS.new_nomv {sr:Nat->List Nat}(n j:Nat)(s:List Nat):¬(ChS.new n sr).chn.mv j s:=λ⟨k,hk,_⟩=>by
 rw [ChS.new_mv] at hk
 cases hk
theorem ChS.new_ring {sr:Nat->List Nat}{n j:Nat}(h:j<n):(ChS.new n sr).chn.ring j=[j]:=by
 show ((ChS.new n sr).atS j).to.map Prod.fst=[j]
 rw [ChS.new_at,if_pos h]
 rfl
theorem ChS.new_up {sr:Nat->List Nat}{n j:Nat}(h:j<n)(p:Nat):(ChS.new n sr).chn.up j p=List.range n:=by
 show (ChS.new n sr).md.getD ((atN ((ChS.new n sr).atS j).to p).getD 0) []=_
 have e:(atN ((ChS.new n sr).atS j).to p).getD 0=0:=by
  rw [ChS.new_at,if_pos h]
  unfold atN
  by_cases q:j=p
  ·rw [dq (by simpa using q)];rfl
  ·rw [dr (by simpa using q)];rfl
 rw [e]
 rfl
theorem ChS.new_inv {sr:Nat->List Nat}(n:Nat):(ChS.new n sr).Inv n where
 fine:=by
  refine ⟨⟨λt ht=>?_,λs hs x hx=>?_,λs hs k hk=>?_⟩,rfl,dM,rfl⟩
  ·rw [ah.mp ht];exact TM.IsT.range n
  ·obtain ⟨i,hi,rfl⟩:=aw.mp hs
   rw [ah.mp hx]
   exact ⟨aH.mp hi,dM⟩
  ·obtain ⟨i,hi,rfl⟩:=aw.mp hs
   cases hk
 bks:=by
  refine ⟨λi k h=>?_,λi l t h1 h2=>?_⟩
  ·have h:atN [(0,0)] i=some k:=h
   have hm:=T8 h
   have e:=ah.mp hm
   have e1:i=0:=congrArg Prod.fst e
   have e2:k=0:=congrArg Prod.snd e
   subst e1;subst e2
   refine ⟨dM,dM,?_⟩
   show List.range n=TM.bk n (List.range n)
   rw [TM.bk_still]
  ·have h1:[TM.Ln.still][i]?=some l:=h1
   have h2:[List.range n][i]?=some t:=h2
   match i,h1,h2 with
   | 0,h1,h2 =>
    cases h1
    cases h2
    rfl
 len:=by show ((List.range n).map _).length=n;rw [ae,aA]
 ok:=by
  refine ⟨λj s h=>absurd h (ChS.new_nomv n j s),λj s h=>absurd h (ChS.new_nomv n j s),λj s h=>absurd h (ChS.new_nomv n (j+1) s),λj s _=>ChS.new_nomv n j s,λj h=>?_,λj p h hp=>?_,λj h=>?_,λj p h hp=>?_,λj p h hp=>?_,λj h=>ChS.new_up h j⟩
  ·rw [ChS.new_ring h];simp
  ·rw [ChS.new_ring h] at hp;rw [ah.mp hp];exact h
  ·rw [ChS.new_ring h];simp
  ·rw [ChS.new_up h];exact .one
  ·rw [ChS.new_ring h] at hp;rw [ChS.new_up h,TM.still_get h,ah.mp hp]
 lk:=λj=>by rw [(ChS.new_wt n j).2];exact aQ _
 wl:=λj=>by rw [(ChS.new_wt n j).1,ChS.new_mv];simp
 wt:=λj p m _ hm=>by rw [ChS.new_mv] at hm;cases hm
 wt':=λj x hx=>by rw [(ChS.new_wt n j).1] at hx;cases hx
 good:=λj x hx=>by rw [(ChS.new_wt n j).1,List.take_nil] at hx;cases hx
 ind:=λj=>by
  rw [ChS.new_mv]
  intro i s h
  simp at h
theorem ChS.new_done {sr:Nat->List Nat}(n j:Nat):(ChS.new n sr).Done j:=by
 unfold ChS.Done
 rw [(ChS.new_wt n j).1,(ChS.new_wt n j).2]
 rfl
def ye0 (cC cB cS:Addr):Sp:=λvs H Q _=>∃(x dx:Addr) (n:Nat),vs=[.ref x,.int n]/\H x=some (.ins cC dx [])/\n<=60 /\
 ∀(A:ChA) (H':Hp),A.c=x->(∀a∈A.all,a≠x->H a=none)->x9 [x] H H'->(∀sr:Nat->List Nat,r6 cC cB cS n H' A (ChS.new n sr))->Q .non H'
theorem zc0:v1 ["self","many"] ["self","many"] (y6 U9):=scq
theorem zo1 {cC cB cS:Addr}(F:Fun K "__init__" "Chain.__init__" U9 f fd) (B:Blt mg) (cc:h8 K cC Y4) (KB:yf4 P w K mg base 2 cB "Book" ["self","many"] (yn3 cB)) (KT:yf4 P w K mg base 2 cS "Step" ["self","place","many"] (yo0 cS)):p6 P w K mg base CX0 4 f fd ["self","many"] (ye0 cC cB cS):=by
 refine F.ok zc0 (λvs H Q E h=>?_) (λcdv Ar outer s H vs Q E hr h=>?_)
 ·obtain ⟨x,dx,n,rfl,_⟩:=h
  rfl
 obtain ⟨x,dx,n,rfl,hx,hn,q⟩:=h
 have hz:=W3
 refine ⟨_,z6 (V8 (pv 0) (zm2 KB hr rfl (z0 (pv 1) z4)) rfl)
  (z9 (V8 (pv 0) (f9 [1] ["place","many"] rfl (X1 rfl B.range (z0 (pv 1) z4)) (λ_ _ _ _=>zm2 KT hr rfl (z0 (pv 0) (z0 (pv 1) z4)))) rfl)),?_⟩
 refine ⟨_,rfl,λb db hb hdb hne=>⟨b,db,n,rfl,z5,hn,λll lm d H1 hnd hll hlm hd fr bk=>⟨rfl,?_⟩⟩⟩
 have s0:y4 H (upd (upd H db (.own b)) b (.ins cB db [])):=λc o h=>by
  rw [z7 (y0 h hb),z7 (y0 h hdb)];exact h
 have fre:∀{c:Addr},(upd (upd H db (.own b)) b (.ins cB db [])) c=none->H c=none:=λ{c} h=>s0.free h
 have cb:∀{c:Addr},(upd (upd H db (.own b)) b (.ins cB db [])) c=none->c≠b:=λ{c} h z=>by
  rw [z,z5] at h
  cases h
 have s1:y4 H H1:=λc o h=>fr c o (by simpa using y0 h hb) (s0 _ _ h)
 have xb:b≠x:=λz=>by subst z;rw [hx] at hb;cases hb
 refine ⟨_,rfl,x,cC,dx,[],rfl,s1 _ _ hx,cc.cls,cc.no "book" (by decide),by decide,?_⟩
 obtain ⟨H2,g2,f2,x2⟩:=Z0 (H:=H1) (x:=x) (cS:=cC) (dx:=dx) (f:="book") (v:=V.ref b) (fs:=[]) (fs':=[("book",.ref b)]) rfl
 rw [g2]
 have F2:x9 [x] H H2:=(y4.frame s1).trans f2
 have xl:ll≠x:=λz=>by have:=fre hll;rw [z,hx] at this;cases this
 have xm:lm≠x:=λz=>by have:=fre hlm;rw [z,hx] at this;cases this
 have xd:d≠x:=λz=>by have:=fre hd;rw [z,hx] at this;cases this
 obtain ⟨A0,hA0⟩:∃A0:ChA,A0=⟨x,b,ll,lm,d,x,[]⟩:=⟨_,rfl⟩
 have bk1:=λsr=>bk A0 sr (by rw [hA0]) (by rw [hA0]) (by rw [hA0]) (by rw [hA0])
 have hA0b:A0.b=b:=by rw [hA0]
 have hA0l:A0.ll=ll:=by rw [hA0]
 have hA0m:A0.lm=lm:=by rw [hA0]
 have hA0d:A0.d=d:=by rw [hA0]
 have keep:∀{H3:Hp},x9 [x] H1 H3->∀sr:Nat->List Nat,U5 cB H3 A0 (ChS.new n sr):=λ{H3} fr3 sr=>by
  obtain ⟨⟨dxb,h1⟩,⟨las,h2,h2'⟩,⟨mas,h3,h3'⟩,h4,h5⟩:=id (bk1 sr)
  have hx1:=s1 _ _ hx
  have kt:∀{c:Addr} {xs:List V},H1 c=some (.tup xs)->H3 c=some (.tup xs):=λ{c xs} e=>fr3.keep e (λz=>by subst z;rw [hx1] at e;cases e)
  exact ⟨⟨dxb,fr3.keep h1 (by rw [hA0b];exact xb)⟩,⟨las,fr3.keep h2 (by rw [hA0l];exact xl),Paired.imp' (λ_ _ z=>kt z) h2'⟩,⟨mas,fr3.keep h3 (by rw [hA0m];exact xm),Paired.imp' (λ_ _ z=>kt z) h3'⟩,fr3.keep h4 (by rw [hA0d];exact xd),h5⟩
 have bk2:=keep f2 λ_=>[]
 refine ⟨_,rfl,(n:Int),rfl,by lia,by lia,?_⟩
 rw [show ((n:Int)).toNat=n by lia]
 refine A6 (J:=Itr 0 n) StA.a StA.all (λH i b=>Z3 cS n [List.range n] H b i ⟨[],[(i,0)],[],0⟩) (n:=n) (by lia) (λH3 H4 D xs i b st hD fr hDb=>st.frame fr λy hy=>?_) (λ_ _=>af _) (λi _ hi _=>hi) ?_ ?_
 ·rw [ah.mp hy]
  exact ⟨hDb,λys z=>by rw [hD] at z;cases z⟩
 ·rintro i H3 v H4 hi s3 ⟨rfl,rfl⟩
  refine ⟨rfl,λ_ _ _ _=>?_⟩
  rw [show (0:Int)+(i:Int)=(i:Int) by lia]
  refine ⟨_,rfl,_,rfl,λy dy hy hdy hyne=>⟨y,dy,i,n,rfl,z5,hn,λA H5 hA nd free fr5 st=>⟨rfl,λc o h=>?_,A,by rw [hA],st,nd,λa ha=>⟨?_,?_⟩⟩⟩⟩
  ·exact fr5 c o (by simpa using y0 h hy) (by rw [z7 (y0 h hy),z7 (y0 h hdy)];exact h)
  ·by_cases e:a=y
   ·rw [e];exact hy
   ·have:=free a ha e
    rw [z7 e] at this
    by_cases e2:a=dy
    ·rw [e2];exact hdy
    ·rwa [z7 e2] at this
  ·obtain ⟨⟨dxs,h1⟩,h2,h3,⟨bs,h4,_⟩,⟨ws,h5,_⟩⟩:=st
   simp only [StA.all,ay,aP,or_false,cN] at ha
   rcases ha with e|e|e|e|e <;> rw [e]
   ·exact ⟨_,h1⟩
   ·exact ⟨_,h2⟩
   ·exact ⟨_,h3⟩
   ·exact ⟨_,h4⟩
   ·exact ⟨_,h5⟩
 ·intro D H3 bs hD s3 hl hbl hst hnd2 hfree
  have hDx:D≠x:=λz=>by subst z;rw [x2] at hD;cases hD
  refine ⟨_,rfl,x,cC,dx,_,rfl,s3 _ _ x2,cc.cls,cc.no "steps" (by decide),by (show 1<1000;decide),?_⟩
  obtain ⟨H4,g4,f4,x4⟩:=Z0 (H:=H3) (x:=x) (cS:=cC) (dx:=dx) (f:="steps") (v:=V.ref D) (fs:=[("book",.ref b)]) (fs':=[("book",.ref b),("steps",.ref D)]) rfl
  rw [g4]
  have F4:x9 [x] H H4:=(F2.trans (y4.frame s3)).trans f4
  have bk4:=keep ((f2.trans (y4.frame s3)).trans f4)
  have hb2:H2 b≠none:=λz=>by
   obtain ⟨dxb,h1⟩:=bk2.b
   rw [hA0b,z] at h1
   cases h1
  have hl2:H2 ll≠none:=λz=>by
   obtain ⟨las,h1,_⟩:=bk2.ll
   rw [hA0l,z] at h1
   cases h1
  have hm2:H2 lm≠none:=λz=>by
   obtain ⟨las,h1,_⟩:=bk2.lm
   rw [hA0m,z] at h1
   cases h1
  have hd2:H2 d≠none:=λz=>by
   have h1:=bk2.d
   rw [hA0d,z] at h1
   cases h1
  have hx2:H2 x≠none:=λz=>by rw [x2] at z;cases z
  refine q ⟨x,b,ll,lm,d,D,bs⟩ H4 rfl ?_ F4 λsr=>⟨?_,⟨dx,x4⟩,?_,f4.keep hl hDx,⟨hbl,?_⟩,λi a s ha hs=>?_⟩
  ·intro a ha hax
   simp only [ChA.all,aE,ay,aP,or_false,cN] at ha
   rcases ha with (e|e|e|e|e|e)|e
   ·exact absurd e hax
   ·rw [e];exact hb
   ·rw [e];exact fre hll
   ·rw [e];exact fre hlm
   ·rw [e];exact fre hd
   ·rw [e];exact F2.free hD hDx
   ·obtain ⟨l,hl1,hl2⟩:=cO.mp e
    obtain ⟨b',hb',rfl⟩:=aw.mp hl1
    exact F2.free (hfree b' hb' a hl2).1 hax
  ·refine bj.mpr ⟨?_,hnd2,λa ha c hc e=>?_⟩
   ·simp only [aK,ay,aP,not_or,or_false,cN,not_false_eq_true,cH,and_true] at hnd ⊢
    refine ⟨⟨Ne.symm xb,Ne.symm xl,Ne.symm xm,Ne.symm xd,Ne.symm hDx⟩,⟨Ne.symm (cb hll),Ne.symm (cb hlm),Ne.symm (cb hd),λz=>hb2 (z ▸ hD)⟩,⟨hnd.1.1,hnd.1.2,λz=>hl2 (z ▸ hD)⟩,⟨hnd.2,λz=>hm2 (z ▸ hD)⟩,λz=>hd2 (z ▸ hD)⟩
   ·subst e
    obtain ⟨l,hl1,hl3⟩:=cO.mp hc
    obtain ⟨b',hb',rfl⟩:=aw.mp hl1
    obtain ⟨h1,h2⟩:=hfree b' hb' a hl3
    simp only [ay,aP,or_false,cN] at ha
    rcases ha with e|e|e|e|e|e
    ·rw [e] at h1;exact hx2 h1
    ·rw [e] at h1;exact hb2 h1
    ·rw [e] at h1;exact hl2 h1
    ·rw [e] at h1;exact hm2 h1
    ·rw [e] at h1;exact hd2 h1
    ·exact h2 e
  ·obtain ⟨h1,h2,h3,h4,h5⟩:=bk4 sr
   rw [hA0b,hA0l,hA0m,hA0d] at h1
   rw [hA0l] at h2
   rw [hA0m] at h3
   rw [hA0d] at h4
   exact ⟨h1,h2,h3,h4,h5⟩
  ·show ((List.range n).map _).length=n
   rw [ae,aA]
  ·have hi:i<n:=by rw [←hbl];exact (ap.mp ha).1
   have hs:((List.range n).map λi=>(⟨[],[(i,0)],[],0⟩:StS))[i]?=some s:=hs
   rw [ag,aM hi] at hs
   cases hs
   have hxa:x∉a.all:=λz=>hx2 (hfree a (ax ha) x z).1
   refine (hst i a ha).frame f4 λy hy=>?_
   rw [ah.mp hy]
   exact ⟨hxa,λxs z=>by rw [s3 _ _ x2] at z;cases z⟩
theorem yv2 {H:Hp}:∀t:List Nat,Dts H (tI t) (t.map λ(x:Nat)=>PyData.int x)
 | []=>.nil
 | x::r=>.cons (.int _) (yv2 r)
theorem ys8 {n:Nat}{t:List Nat}(h:TM.IsT n t)(h1:1<=n)(h60:n<=60):d6 (.tuple (t.map λ(x:Nat)=>PyData.int x))=true:=by
 have hl:=h.length
 have e1:C6 (t.map λ(x:Nat)=>PyData.int x)=t.map λ(x:Nat)=>(x:Int):=by
  clear h hl
  induction t with
  | nil=>rfl
  | cons x r ih =>
   show (x:Int)::C6 (r.map λ(x:Nat)=>PyData.int x)=(x:Int)::r.map λ(x:Nat)=>(x:Int)
   rw [ih]
 have e2:yn1 (t.map λ(x:Nat)=>(x:Int))=yd4 n:=by
  refine (yd9 ?_ ?_).symm
  ·exact (List.Perm.map (λ(x:Nat)=>(x:Int)) (show t.Perm (List.range n) from h)).symm
  ·unfold yd4
   exact ba.mpr ((dP (n:=n)).imp λh=>by lia)
 have e3:(t.map λ(x:Nat)=>PyData.int x).all isW=true:=by
  rw [fP]
  exact bS.mpr λ_ _=>rfl
 show ((decide (1<=(t.map λ(x:Nat)=>PyData.int x).length)&&decide ((t.map λ(x:Nat)=>PyData.int x).length<=60))&&((t.map λ(x:Nat)=>PyData.int x).all isW&&decide (yn1 (C6 (t.map λ(x:Nat)=>PyData.int x))=yd4 (t.map λ(x:Nat)=>PyData.int x).length)))=true
 rw [e1,e2,e3,ae,hl,decide_eq_true h1,decide_eq_true h60,decide_eq_true rfl]
 rfl
theorem ChS.Backs.told {n:Nat}{S:ChS}(b:S.Backs n)(f:S.ln.length=S.md.length){k:Nat}{t:List Nat}(h:S.src k=t):(S.put (.told k) t).Backs n:=by
 refine ⟨λi k' h=>?_,b.mks.put f (l:=.told k) h.symm⟩
 obtain ⟨h1,h2,h3⟩:=b.bk i k' h
 have hmd:(S.put (.told k) t).md=S.md++[t]:=rfl
 refine ⟨by rw [hmd,aq];lia,by rw [hmd,aq];lia,?_⟩
 rw [hmd,g9 h2,g9 h1,h3]
structure ChS.Full (S:ChS) (c:Nat):Prop where
 ln:S.ln.length<=3*S.looks+c
 bl:S.bl.length<=S.looks+c
structure ChS.Set (n:Nat) (S:ChS):Prop where
 inv:S.Inv n
 done:∀i,i<n->S.Done i
def xa9 (cC cB cS:Addr):Sp:=λvs H Q _=>∃(A:ChA) (S:ChS) (n c k:Nat) (tr:Addr) (t:List Nat),vs=[.ref A.c,.int k,.ref tr]/\r6 cC cB cS n H A S/\S.Set n/\0<n/\n<=60/\c<1000/\S.Full c/\H tr=some (.tup (tI t))/\TM.IsT n t/\(¬TM.Grp n (S.chn.mv 0) t->S.src k=t) /\
 ∀(b:Bool) (S':ChS) (H':Hp),x9 A.all H H'->r6 cC cB cS n H' A S'->S'.Set n->S'.src=S.src->S'.Full (c+1)->(∀x,TM.Grp n (S'.chn.mv 0) x↔TM.Grp n (λz=>S.chn.mv 0 z∨z=t) x)->(b=false↔TM.Grp n (S.chn.mv 0) t)->Q (.bl b) H'
theorem zp4:v1 ["self","number","maker"] ["self","number","maker"] (y6 L8):=scq
theorem zo3 {cC cB cS:Addr}(F:Fun K "take" "Chain.take" L8 f fd) (B:Blt mg) (cc:h8 K cC Y4) (cb:h8 K cB zf9) (cs:h8 K cS O5) (MP:Z1 P w K mg base 1 cB "put" ["self","line","turning"] (yn9 cB)) (MPM:Z1 P w K mg base 1 cS "put_mover" ["self","mover"] (yj6 cS))
  (MH:Z1 P w K mg base 3 cC "holds" ["self","turning","level"] (D4 cC cB cS)) (MS:Z1 P w K mg base 5 cC "settle" ["self"] (ye4 cC cB cS)):p6 P w K mg base CX0 6 f fd ["self","number","maker"] (xa9 cC cB cS):=by
 refine F.ok zp4 (λvs H Q E h=>?_) (λcdv Ar outer sh H vs Q E hr h=>?_)
 ·obtain ⟨A,S,n,c,k,tr,t,rfl,_⟩:=h
  rfl
 obtain ⟨A,S,n,c,k,tr,t,rfl,ch,st,hn0,hn,hc,zz9,htr,tT,hsrc,q⟩:=h
 have iv:=st.inv
 have hz:=W3
 obtain ⟨dxc,hcc⟩:=ch.c
 refine ⟨_,z6 (k8 (Y1 (c5 cc.cls MH hr (pv 0) (z0 (pv 2) (z0 z8 z4)))) (z9 (v7 X6)) u8)
  (z6 (h9 (c5 cs.cls MPM hr (l9 p8 (w6 (pv 0) rfl) z8 (λ_ _=>rfl)) (z0 (c5 cb.cls MP hr (w6 (pv 0) rfl) (z0 (B7 (z0 zm3 (z0 (pv 1) z4))) (z0 (pv 2) z4))) z4)))
  (z6 (h9 (W6 cc.cls MS hr (pv 0)))
  (z9 (v7 X6)))),?_⟩
 refine ⟨_,rfl,A.c,dxc,_,rfl,hcc,rfl,_,rfl,A,S,n,0,tr,t,rfl,ch,iv.fine.wl,htr,tT,aQ _,hn,λH1 s1=>⟨_,rfl,?_⟩⟩
 have hol:=iv.holds (j:=0) (aQ _) (λi _ hi=>st.done i hi) tT (TM.Fix.zero t)
 have hS:∀z,S.chn.mv 0 z->TM.IsT n z:=iv.ok.mvT 0
 have hS':∀z,(S.chn.mv 0 z∨z=t)->TM.IsT n z:=λz h=>h.elim (hS z) λe=>by rw [e];exact tT
 cases hb:(M1 n S.md (S.st.drop 0) 0 t []).isSome with
 | true =>
  have hg:=hol.mp hb
  refine b6 ?_
  refine q false S H1 (y4.frame s1) (ch.same s1) st rfl ⟨by have:=zz9.ln;lia,by have:=zz9.bl;lia⟩ (λx=>⟨λh=>TM.Grp.mono hS' (λz hz=>TM.Grp.of hS' (.inl hz)) h,λh=>TM.Grp.mono hS (λz hz=>?_) h⟩) ⟨λ_=>hg,λ_=>rfl⟩
  rcases hz with h|h
  ·exact TM.Grp.of hS h
  ·rw [h];exact hg
 | false =>
  have hg:¬TM.Grp n (S.chn.mv 0) t:=λh=>by rw [hol.mpr h] at hb;cases hb
  refine k9 ?_
  have ch1:=ch.same s1
  obtain ⟨dxc1,hc1⟩:=ch1.c
  obtain ⟨dxb1,hb1⟩:=ch1.bk.b
  have hn0':0<S.st.length:=by rw [iv.len];exact hn0
  obtain ⟨a,hA⟩:∃a,A.st[0]?=some a:=⟨_,aa (by rw [ch.len.1];exact hn0)⟩
  have hs:=ChS.get_at hn0'
  have st1:=ch1.st 0 a _ hA hs
  obtain ⟨dxs1,hsa1⟩:=st1.a
  have ga:atI (A.st.map λs=>V.ref s.a) 0=some (V.ref a.a):=i4 (j:=0) (by rw [ag,hA];rfl)
  have ndh:=ChA.head_nd ch.nd
  simp only [aK,ay,aP,not_or,or_false] at ndh
  have lne:A.ll≠A.lm:=ndh.2.2.1.1
  have nda:=ChA.step_nd ch.nd hA
  simp only [StA.all,aK,ay,aP,not_or,or_false] at nda
  have lks:=iv.looks_le hn
  have fl:=zz9.ln
  have fb:=zz9.bl
  refine ⟨_,rfl,A.c,cC,dxc1,_,_,rfl,hc1,cc.cls,cc.no "steps" (by decide),rfl,A.l,_,_,_,rfl,rfl,SqL.of ch1.l,ga,a.a,dxs1,_,rfl,hsa1,rfl,?_⟩
  refine ⟨_,rfl,A.c,cC,dxc1,_,_,rfl,hc1,cc.cls,cc.no "book" (by decide),rfl,A.b,dxb1,_,rfl,hb1,rfl,_,rfl,(by show 2<=sizeLine;lia),λlr hlr=>?_⟩
  have s2:=y8 hlr (.tup [V.str "told",V.int k])
  have el:(upd H1 lr (.tup [V.str "told",V.int k])) lr=some (.tup (lnV (.told k))):=z5
  generalize upd H1 lr (.tup [V.str "told",V.int k])=H2 at s2 el ⊢
  have ch2:=ch1.same s2
  refine ⟨_,rfl,A,S,lr,tr,.told k,t,rfl,ch2.bk,lne,el,s2 _ _ (s1 _ _ htr),by lia,λH3 fr3 bk3=>?_⟩
  have m:=iv.fine.put (l:=.told k) tT
  have ch3:r6 cC cB cS n H3 A (S.put (.told k) t):=ch2.book (fr3.more λx hx=>by simp at hx ⊢;rcases hx with e|e <;> simp [e]) bk3 rfl (λs hs x hx=>m.at_ (iv.fine.wl.to s hs x hx).2)
  have st3:=ch3.st 0 a _ hA hs
  have few:=iv.few hn 0
  have rg:=iv.ring hn0
  have wle:=iv.wt_le hn hn0
  refine ⟨a,n,_,0,S.ln.length,S.atS 0,rfl,st3,nda.2.1.2.2,by lia,by lia,by lia,λH4 fr4 st4=>?_⟩
  have nt:∀x∈[a.m,a.w],x∈a.all/\∀xs,H3 x≠some (.tup xs):=λx hx=>by
   obtain ⟨ws2,hw2,_⟩:=st3.w
   rcases ay.mp hx with e|hx
   ·rw [e];exact ⟨by simp [StA.all],λxs z=>by rw [st3.m] at z;cases z⟩
   ·rw [ah.mp hx];exact ⟨by simp [StA.all],λxs z=>by rw [hw2] at z;cases z⟩
  have ch4:=ch3.step hA nt fr4 st4
  obtain ⟨iv4,mp⟩:=iv.mover hn0 m (iv.bks.told iv.fine.lnl (hsrc hg)) tT (TM.Fix.zero t) (λg hg=>absurd hg (by lia)) hg
  generalize hS4:({ S.put (.told k) t with st:=S.st.set 0 ((S.atS 0).putM S.ln.length) }:ChS)=S4 at iv4 mp
  have ch4':r6 cC cB cS n H4 A S4:=by rw [←hS4];exact ch4
  have hst:S4.st=S.st.set 0 ((S.atS 0).putM S.ln.length):=by rw [←hS4]
  have lk4:S4.looks=S.looks:=by
   have e:=zi4 (a:=(S.atS 0).putM S.ln.length) (ChS.get_at hn0')
   have e2:((S.atS 0).putM S.ln.length).lk=(S.atS 0).lk:=rfl
   unfold ChS.looks
   rw [hst]
   lia
  have ln4:S4.ln.length=S.ln.length+1:=by rw [←hS4];show (S.ln++[_]).length=_;rw [aq];rfl
  have bl4:S4.bl.length=S.bl.length:=by rw [←hS4];rfl
  have fr14:x9 A.all H H4:=(y4.frame (s1.trans s2)).trans ((fr3.all λx hx=>by simp at hx ⊢;rcases hx with e|e <;> simp [e]).trans (fr4.allS hA λx hx=>(nt x hx).1))
  obtain ⟨dxc4,hc4⟩:=ch4'.c
  refine ⟨_,rfl,A.c,dxc4,_,rfl,hc4,rfl,A,S4,n,c+1,rfl,ch4',iv4,hn0,hn,λi hi hin=>?_,by lia,by lia,by lia,λS5 H5 fr5 ch5 iv5 dn5 e5 src5 b51 b52=>?_⟩
  ·have at':=ChS.atS_set hst hn0' i
   rw [if_neg (by lia)] at at'
   unfold ChS.Done
   rw [at']
   exact st.done i hin
  ·refine q true S5 H5 (fr14.trans fr5) ch5 ⟨iv5,dn5⟩ (src5.trans (by rw [←hS4];rfl)) ⟨b51,b52⟩ (λx=>?_) ⟨λz=>(by cases z),λz=>absurd z hg⟩
   rw [e5]
   have e0:S4.chn.mv 0=λz=>S.chn.mv 0 z∨z=t:=by
    funext z
    exact propext ((mp.emv 0 z).trans ⟨λy=>y.elim .inl λw=>.inr w.2,λy=>y.elim .inl λw=>.inr ⟨rfl,w⟩⟩)
   rw [e0]
def yj8 (cC cB cS:Addr):Sp:=λvs H Q _=>∃(A:ChA) (S:ChS) (n:Nat),vs=[.ref A.c]/\r6 cC cB cS n H A S/\S.Inv n/\n<=60/\Q (.int ((S.chn.many n n:Nat):Int)) H
theorem R0:v1 ["self","product","step"] ["self"] (y6 L7):=scq
theorem zo2 {cC cB cS:Addr}(F:Fun K "size" "Chain.size" L7 f fd) (B:Blt mg) (cc:h8 K cC Y4) (cs:h8 K cS O5):p6 P w K mg base CX0 1 f fd ["self"] (yj8 cC cB cS):=by
 refine F.ok R0 (λvs H Q E h=>?_) (λcdv Ar outer sh H vs Q E hr h=>?_)
 ·obtain ⟨A,S,n,rfl,_⟩:=h
  rfl
 obtain ⟨A,S,n,rfl,ch,iv,hn,q⟩:=h
 obtain ⟨dxc,hcc⟩:=ch.c
 refine ⟨_,z6 (y9 (i:=1) R0.nd rfl (Or.inl rfl) z8)
  (z6 (W7 PassesOwn.never rfl (W1 (w6 (pv 0) rfl)) (m7 (i:=2) R0.nd rfl (Or.inl rfl))
   (z9 (yi5 (i:=1) R0.nd rfl (Or.inl rfl) (v8 E5 rfl B.len g7 (z0 (w6 (pv 2) rfl) z4)) xj8)))
  (z9 (v7 (pv 1)))),?_⟩
 have hstl:(A.st.map λs=>V.ref s.a).length=n:=by rw [ae];exact ch.len.1
 refine ⟨_,rfl,A.c,cC,dxc,_,_,rfl,hcc,cc.cls,cc.no "steps" (by decide),rfl,A.l,rfl,⟨_,SqL.of ch.l⟩,R4 (K:=K) (a:=A.l) (xs:=A.st.map λs=>V.ref s.a) (λi σ Hh=>∃(p:Nat) (v2:Option V),σ=[some (.ref A.c),some (.int p),v2]/\Hh=H/\p*S.chn.many n (n-i)=S.chn.many n n)
  ⟨1,none,rfl,rfl,by rw [dI,cM]⟩ (λi σ Hh _ ⟨_,_,_,e,_⟩=>by rw [e];exact SqL.of ch.l) ?_ ?_⟩
 ·rintro i v σ Hh hv ⟨p,v2,rfl,rfl,hp⟩
  rw [ag] at hv
  cases hA:A.st[i]? with
  | none=>rw [hA] at hv;cases hv
  | some a =>
   rw [hA] at hv
   cases hv
   have hi:i<n:=by rw [←ch.len.1];exact (ap.mp hA).1
   have hs:=ChS.get_at (S:=S) (j:=i) (by rw [iv.len];exact hi)
   have st:=ch.st i a _ hA hs
   obtain ⟨dxs,hsa⟩:=st.a
   have rg:=iv.ring hi
   refine ⟨_,rfl,_,rfl,a.a,cS,dxs,_,_,rfl,hsa,cs.cls,cs.no "line_to" (by decide),rfl,a.lt,_,rfl,st.lt,?_⟩
   rw [R7]
   refine ⟨_,_,rfl,rfl,.inr ⟨by lia,by lia⟩,p*(S.atS i).to.length,some (V.ref a.a),?_,rfl,?_⟩
   ·rw [fM]
    rfl
   ·have e:n-i=(n-(i+1))+1:=by lia
    rw [e,TM.Chn.many,show n-(n-(i+1)+1)=i by lia] at hp
    have e2:(S.chn.ring i).length=(S.atS i).to.length:=ae _
    rw [e2,←dO] at hp
    exact hp
 ·rintro σ Hh ⟨p,v2,rfl,rfl,hp⟩
  rw [hstl,cz,TM.Chn.many,eO] at hp
  refine ⟨_,rfl,?_⟩
  rw [hp]
  exact q
theorem r6.keep {cC cB cS:Addr}{n:Nat}{H H':Hp}{A:ChA}{S:ChS}{F:List Addr}(ch:r6 cC cB cS n H A S)(fr:x9 F H H')(hF:∀y∈F,y∉A.all/\∀xs,H y≠some (.tup xs)):r6 cC cB cS n H' A S:=by
 have kA:∀{b:Addr} {o:HO},H b=some o->b∈A.all->H' b=some o:=λ{b o} h hb=>fr b o (λz=>(hF b z).1 hb) h
 have kt:∀{b:Addr} {xs:List V},H b=some (.tup xs)->H' b=some (.tup xs):=λ{b xs} h=>fr b _ (λz=>(hF b z).2 xs h) h
 have hin:∀y∈[A.c,A.b,A.ll,A.lm,A.d,A.l],y∈A.all:=λy hy=>by unfold ChA.all;exact aJ _ hy
 obtain ⟨dxc,h1⟩:=ch.c
 refine ⟨ch.nd,⟨dxc,kA h1 (hin _ (by simp))⟩,⟨ch.bk.b.imp λ_ e=>kA e (hin _ (by simp)),ch.bk.ll.imp λ_ e=>⟨kA e.1 (hin _ (by simp)),Paired.imp' (λ_ _ z=>kt z) e.2⟩,ch.bk.lm.imp λ_ e=>⟨kA e.1 (hin _ (by simp)),Paired.imp' (λ_ _ z=>kt z) e.2⟩,kA ch.bk.d (hin _ (by simp)),ch.bk.len⟩,kA ch.l (hin _ (by simp)),ch.len,λi a s ha hs=>?_⟩
 refine (ch.st i a s ha hs).frame fr λy hy=>⟨λz=>(hF y hy).1 ?_,(hF y hy).2⟩
 unfold ChA.all
 exact aD _ (cO.mpr ⟨a.all,aw.mpr ⟨a,ax ha,rfl⟩,z⟩)
def U8:List Str:=["many","makers","chain"]
structure u7 (cG cC cB cS:Addr) (n:Nat) (H:Hp) (g:Addr) (ts:List (List Nat)) (S:ChS):Prop where
 n0:0<n
 n60:n<=60
 at':∃(dx ma:Addr) (A:ChA) (mas:List Addr),H g=some (.ins cG dx [("many",.int n),("makers",.ref ma),("chain",.ref A.c)])/\H ma=some (.tup (mas.map V.ref))/\Z5 H mas ts/\r6 cC cB cS n H A S
 st:S.Set n
 few:ts.length<=200
 tT:∀t∈ts,TM.IsT n t
 grp:∀x,TM.Grp n (S.chn.mv 0) x↔TM.Grp n (λz=>z∈ts) x
 src:S.src=λk=>ts.getD k []
 lnl:S.ln.length<=4000000
theorem u7.same {cG cC cB cS:Addr}{n:Nat}{H H':Hp}{g:Addr}{ts:List (List Nat)}{S:ChS}(h:u7 cG cC cB cS n H g ts S)(s:y4 H H'):u7 cG cC cB cS n H' g ts S:=by
 obtain ⟨dx,ma,A,mas,h1,h2,h3,h4⟩:=h.at'
 exact ⟨h.n0,h.n60,⟨dx,ma,A,mas,s _ _ h1,s _ _ h2,h3.same s,h4.same s⟩,h.st,h.few,h.tT,h.grp,h.src,h.lnl⟩
theorem yv9 {n:Nat}{S S':List Nat->Prop}{t:List Nat}(hS:∀s,S s->TM.IsT n s)(hS':∀s,S' s->TM.IsT n s)(hT:TM.IsT n t)(h:∀x,TM.Grp n S x↔TM.Grp n S' x)(x:List Nat):TM.Grp n (λz=>S z∨z=t) x↔TM.Grp n (λz=>S' z∨z=t) x:=by
 have key:∀{S S':List Nat->Prop},(∀s,S s->TM.IsT n s)->(∀s,S' s->TM.IsT n s)->(∀x,TM.Grp n S x↔TM.Grp n S' x)->TM.Grp n (λz=>S z∨z=t) x->TM.Grp n (λz=>S' z∨z=t) x:=λ{S S'} hS hS' h g=>by
  have h2:∀s,(S' s∨s=t)->TM.IsT n s:=λs q=>q.elim (hS' s) λe=>by rw [e];exact hT
  refine TM.Grp.mono h2 (λs hs=>?_) g
  rcases hs with q|q
  ·exact TM.Grp.mono h2 (λz hz=>TM.Grp.of h2 (.inl hz)) ((h s).mp (TM.Grp.of hS q))
  ·exact TM.Grp.of h2 (.inr q)
 exact ⟨key hS hS' h,key hS' hS λx=>(h x).symm⟩
def yn6:Sp:=λvs H Q _=>∃(la:Addr) (n:Nat) (mas:List Addr) (ts:List (List Nat)),vs=[.int n,.ref la]/\0<n/\n<=60/\H la=some (.lst (mas.map V.ref))/\Z5 H mas ts/\ts.length<=200/\(∀t∈ts,TM.IsT n t)/\∀H':Hp,y4 H H'->Q .non H'
theorem zp8:v1 ["many","makers"] ["many","makers"] (y6 K4):=scq
theorem xc3 (n:Nat):(List.replicate n true).all id=true:=by
 induction n with
 | zero=>rfl
 | succ n ih=>rw [fq,fg,ih];rfl
theorem yi8 {H:Hp}{a:Addr}{t:List Nat}(h:H a=some (.tup (tI t))):Dt H (.ref a) (.tuple (t.map λ(x:Nat)=>PyData.int x)):=.tup h (yv2 t)
theorem yf2 {n:Nat}{t:List Nat}(h:TM.IsT n t)(h1:0<n)(h60:n<=60):(d6 (.tuple (t.map λ(x:Nat)=>PyData.int x))&&decide ((t.map λ(x:Nat)=>PyData.int x).length=n))=true:=by
 rw [ys8 h h1 h60,ae,h.length,decide_eq_true rfl]
 rfl
theorem zp2 (D:Def K mg "need_group" K4 ["many","makers"] f fd) (B:Blt mg) (KW:r8 P w K mg base 1 "is_whole" ["thing"] zd1) (KT:r8 P w K mg base 3 "is_turning_of" ["thing","many"] O0) (GM:zg8 mg "MOST_PLACES" (.int 60)) (GK:zg8 mg "MOST_MAKERS" (.int 200)):p6 P w K mg base CX0 4 f fd ["many","makers"] yn6:=by
 refine D.F.ok zp8 (λvs H Q E h=>?_) (λcdv A outer s H vs Q E hr h=>?_)
 ·obtain ⟨la,n,mas,ts,rfl,_⟩:=h
  rfl
 obtain ⟨la,n,mas,ts,rfl,hn0,hn,hla,hts,hfew,hT,q⟩:=h
 have hml:mas.length=ts.length:=Paired.length hts
 refine ⟨_,z6 (k8 (PW.pt (J2 (Y0 (Y1 (u4 KW hr rfl (z0 (pv 0) z4)))) (N1 (Y0 (zm6 yc4 yc4 z8 (pv 0) (zb7 GM rfl)))))) (z9 G9) u8)
  (z6 (k8 (PW.pt (J2 (Y0 (Y1 (v8 Z2 rfl B.isinstance i5 (z0 (pv 1) (z0 (O4 (v:=.ty "list") rfl B.list Y7 rfl) z4))))) (N1 (o4 ym2 (v8 u6 rfl B.len g7 (z0 (pv 1) z4)) (zb7 GK rfl) (p7 _))))) (z9 G9) u8)
  (z9 (k8 (Y0 (Y1 (v8 (zd7 rfl) rfl B.all yf8 (z0 (f9 [0] ["maker","many"] rfl (W1 (pv 1)) (λ_ _ _ _=>u4 KT hr rfl (z0 (pv 0) (z0 (pv 1) z4)))) z4)))) (z9 G9) u8))),?_⟩
 refine ⟨_,rfl,_,.int n,rfl,.int _,_,rfl,k9 ⟨_,rfl,_,_,rfl,rfl,_,rfl,?_⟩⟩
 rw [decide_eq_true (show (1:Int)<=((n:Nat):Int) by lia)]
 refine b6 ⟨_,_,rfl,rfl,_,rfl,?_⟩
 rw [decide_eq_true (show ((n:Nat):Int)<=(60:Int) by lia)]
 refine k9 ⟨_,rfl,_,_,_,_,rfl,M7.lst hla,M8 za5,_,rfl,k9 ?_⟩
 refine ⟨_,rfl,la,_,rfl,.inl (SqL.of hla),_,_,rfl,rfl,_,rfl,?_⟩
 rw [ae,hml,decide_eq_false (show ¬((ts.length:Nat):Int) > (200:Int) by lia)]
 refine k9 ?_
 refine ⟨_,rfl,la,rfl,⟨_,SqL.of hla⟩,yp2 (SqL.of hla) ((List.replicate mas.length true).map V.bl) (by rw [ae,cA,ae]) (by rw [ae,hml];exact small (by lia)) ?_ ?_⟩
 ·intro i H' x hx s' _ _ _ _
  obtain ⟨c,hc,rfl⟩:=zb9 hx
  obtain ⟨t,ht,hct⟩:=o0 hts i c hc
  have hi:i<mas.length:=(ap.mp hc).1
  have htT:=hT t (ax ht)
  refine ⟨_,rfl,_,rfl,.ref c,_,n,rfl,yi8 (s' _ _ hct),λds hd=>?_,λH4 s4=>⟨s4,?_⟩⟩
  ·cases hd
   rw [ae,htT.length]
   lia
  ·show ((List.replicate mas.length true).map V.bl)[i]?=some (V.bl (d6 (.tuple (t.map λ(x:Nat)=>PyData.int x))&&decide ((t.map λ(x:Nat)=>PyData.int x).length=n)))
   rw [yf2 htT hn0 hn,ag,de,if_pos hi]
   rfl
 ·intro nm H4 _ s4 hnm
  refine ⟨nm,_,rfl,SqL.of hnm,_,rfl,?_⟩
  rw [xc3]
  exact k9 (q H4 s4)
def zn5 (cG cC cB cS:Addr):Sp:=λvs H Q _=>∃(x dx la:Addr) (n:Nat) (mas:List Addr) (ts:List (List Nat)),vs=[.ref x,.int n,.ref la]/\H x=some (.ins cG dx [])/\0<n/\n<=60/\H la=some (.lst (mas.map V.ref))/\Z5 H mas ts/\ts.length<=200/\(∀t∈ts,TM.IsT n t) /\
 ∀(S:ChS) (H':Hp),x9 [x] H H'->u7 cG cC cB cS n H' x ts S->(∀(y:Addr) (H2:Hp),H y≠none->y≠x->(∀xs,H' y≠some (.tup xs))->x9 [y] H' H2->u7 cG cC cB cS n H2 x ts S)->Q .non H'
theorem U1:v1 ["self","many","makers","number","maker"] ["self","many","makers"] (y6 T0):=scq
theorem zo4 {cG cC cB cS:Addr}(F:Fun K "__init__" "Group.__init__" T0 f fd) (B:Blt mg) (cg:h8 K cG U8) (cc:h8 K cC Y4) (KN:r8 P w K mg base 4 "need_group" ["many","makers"] yn6) (KC:yf4 P w K mg base 4 cC "Chain" ["self","many"] (ye0 cC cB cS))
  (MT:Z1 P w K mg base 6 cC "take" ["self","number","maker"] (xa9 cC cB cS)):p6 P w K mg base CX0 7 f fd ["self","many","makers"] (zn5 cG cC cB cS):=by
 refine F.ok U1 (λvs H Q E h=>?_) (λcdv Ar outer sh H vs Q E hr h=>?_)
 ·obtain ⟨x,dx,la,n,mas,ts,rfl,_⟩:=h
  rfl
 obtain ⟨x,dx,la,n,mas,ts,rfl,hx,hn0,hn,hla,hts,hfew,hT,q⟩:=h
 have hml:mas.length=ts.length:=Paired.length hts
 refine ⟨_,z6 (h9 (u4 KN hr rfl (z0 (pv 1) (z0 (pv 2) z4))))
  (z6 (V8 (pv 0) (pv 1) rfl)
  (z6 (V8 (pv 0) (v9 c9 rfl B.tuple Z6 (z0 (pv 2) z4)) rfl)
  (z6 (V8 (pv 0) (zm2 KC hr rfl (z0 (pv 1) z4)) rfl)
  (z9 (W7 PassesOwn.never rfl (yc7 rfl B.enumerate (z0 (w6 (pv 0) rfl) z4)) (yi4 rfl (V7 (m7 (i:=3) U1.nd rfl (Or.inl rfl)) (V7 (m7 (i:=4) U1.nd rfl (Or.inl rfl)) zi1)))
   (z9 (h9 (c5 cc.cls MT hr (w6 (pv 0) rfl) (z0 (pv 3) (z0 (pv 4) z4)))))))))),?_⟩
 refine ⟨_,rfl,_,rfl,la,n,mas,ts,rfl,hn0,hn,hla,hts,hfew,hT,λH0 s0=>?_⟩
 refine ⟨_,rfl,_,rfl,x,cG,dx,[],rfl,s0 _ _ hx,cg.cls,cg.no "many" (by decide),by decide,?_⟩
 obtain ⟨H1,g1,f1,x1⟩:=Z0 (H:=H0) (x:=x) (cS:=cG) (dx:=dx) (f:="many") (v:=V.int n) (fs:=[]) (fs':=[("many",.int n)]) rfl
 rw [g1]
 have F1:x9 [x] H H1:=(y4.frame s0).trans f1
 have nx:∀{b:Addr} {o:HO},H b=some o->o≠.ins cG dx []->b≠x:=λ{b o} h d z=>by
  subst z
  rw [hx] at h
  exact d (Option.some.inj h).symm
 have hla1:=F1.keep hla (nx hla (by intro z;cases z))
 refine ⟨_,rfl,la,_,rfl,.inl ⟨SqL.of hla1,λma hma=>?_⟩⟩
 have s2:=y8 hma (.tup (mas.map V.ref))
 have m2:(upd H1 ma (.tup (mas.map V.ref))) ma=some (.tup (mas.map V.ref)):=z5
 generalize upd H1 ma (.tup (mas.map V.ref))=H2 at s2 m2 ⊢
 have xma:ma≠x:=λz=>by subst z;rw [x1] at hma;cases hma
 refine ⟨_,rfl,x,cG,dx,_,rfl,s2 _ _ x1,cg.cls,cg.no "makers" (by decide),by (show 1<1000;decide),?_⟩
 obtain ⟨H3,g3,f3,x3⟩:=Z0 (H:=H2) (x:=x) (cS:=cG) (dx:=dx) (f:="makers") (v:=V.ref ma) (fs:=[("many",.int n)]) (fs':=[("many",.int n),("makers",.ref ma)]) rfl
 rw [g3]
 have F3:x9 [x] H H3:=(F1.trans (y4.frame s2)).trans f3
 have m3:=f3.keep m2 xma
 refine ⟨_,rfl,λc dc hc hdc hne=>⟨c,dc,n,rfl,z5,hn,λA H4 hAc hfree fr4 ch4=>⟨rfl,?_⟩⟩⟩
 have s4:y4 H3 H4:=λb o h=>fr4 b o (by simpa using y0 h hc) (by rw [z7 (y0 h hc),z7 (y0 h hdc)];exact h)
 have hall:∀a∈A.all,H3 a=none:=λa ha=>by
  by_cases e:a=c
  ·rw [e];exact hc
  ·have:=hfree a ha e
   rw [z7 e] at this
   by_cases e2:a=dc
   ·rw [e2];exact hdc
   ·rwa [z7 e2] at this
 subst hAc
 refine ⟨_,rfl,x,cG,dx,_,rfl,s4 _ _ x3,cg.cls,cg.no "chain" (by decide),by (show 2<1000;decide),?_⟩
 obtain ⟨H5,g5,f5,x5⟩:=Z0 (H:=H4) (x:=x) (cS:=cG) (dx:=dx) (f:="chain") (v:=V.ref A.c) (fs:=[("many",.int n),("makers",.ref ma)]) (fs':=[("many",.int n),("makers",.ref ma),("chain",.ref A.c)]) rfl
 rw [g5]
 have F5:x9 [x] H H5:=(F3.trans (y4.frame s4)).trans f5
 have m5:=f5.keep (s4 _ _ m3) xma
 have hts5:Z5 H5 mas ts:=Paired.imp' (λb t e=>F5.keep e (nx e (by intro z;cases z))) hts
 have xA:x∉A.all:=λz=>by
  have:=hall x z
  rw [x3] at this
  cases this
 have ch5:r6 cC cB cS n H5 A (ChS.new n (λk=>ts.getD k [])):=(ch4 _).keep f5 λy hy=>by
  rw [ah.mp hy]
  exact ⟨xA,λxs z=>by rw [s4 _ _ x3] at z;cases z⟩
 have out:∀{b:Addr} {o:HO},H b=some o->b∉A.all:=λ{b o} h hb=>by
  by_cases e:b=x
  ·exact xA (e ▸ hb)
  ·have:=hall b hb
   rw [F3.keep h e] at this
   cases this
 have maA:ma∉A.all:=λz=>by
  have:=hall ma z
  rw [m3] at this
  cases this
 refine ⟨_,rfl,x,cG,dx,_,_,rfl,x5,cg.cls,cg.no "makers" (by decide),rfl,ma,rfl,⟨_,SqT.of m5⟩,zz8 (xs:=mas.map V.ref) (λi σ H6=>∃(S:ChS) (v3 v4:Option V),σ=[some (.ref x),some (.int n),some (.ref la),v3,v4]/\x9 A.all H5 H6/\r6 cC cB cS n H6 A S/\S.Set n/\S.Full (1+i)/\i<=ts.length/\(S.src=λk=>ts.getD k [])/\∀y,TM.Grp n (S.chn.mv 0) y↔TM.Grp n (λz=>z∈ts.take i) y)
  ⟨ChS.new n (λk=>ts.getD k []),none,none,rfl,x9.refl,ch5,⟨ChS.new_inv n,λi _=>ChS.new_done n i⟩,⟨by show 1<=_;lia,by show 1<=_;lia⟩,aQ _,rfl,λy=>?_⟩ (λi σ H6 _ ⟨_,_,_,_,fr6,_⟩=>SqT.of (fr6 _ _ maA m5)) ?_ ?_⟩
 ·have hno:∀s,(ChS.new n (λk=>ts.getD k [])).chn.mv 0 s↔s∈ts.take 0:=λs=>⟨λh=>absurd h (ChS.new_nomv n 0 s),λh=>by rw [fK] at h;cases h⟩
  rw [show (ChS.new n (λk=>ts.getD k [])).chn.mv 0=λz=>z∈ts.take 0 from funext λs=>propext (hno s)]
 ·rintro i v σ H6 T hv ⟨S,v3,v4,rfl,fr6,ch6,set6,full6,hi6,src6,grp6⟩ hT6
  obtain ⟨tr,htr,rfl⟩:=zb9 hv
  obtain ⟨t,ht,htt⟩:=o0 hts5 i tr htr
  have hiT:i<ts.length:=(ap.mp ht).1
  have htT:=hT t (ax ht)
  have s7:=y8 hT6 (.tup [V.int ((i:Nat):Int),V.ref tr])
  refine ⟨T,_,rfl,SqT.of z5,rfl,_,_,rfl,_,_,rfl,rfl,?_⟩
  generalize upd H6 T (.tup [V.int ((i:Nat):Int),V.ref tr])=H7 at s7 ⊢
  have ch7:=ch6.same s7
  obtain ⟨dxc,hcc⟩:=ch7.c
  have x7:=s7 _ _ (fr6 _ _ xA x5)
  have trA:tr∉A.all:=λz=>by
   obtain ⟨t0,ht0,htt0⟩:=o0 hts i tr htr
   exact out htt0 z
  have t7:=s7 _ _ (fr6 _ _ trA htt)
  refine ⟨_,rfl,x,cG,dx,_,_,rfl,x7,cg.cls,cg.no "chain" (by decide),rfl,A.c,dxc,_,rfl,hcc,rfl,_,rfl,_,rfl,A,S,n,1+i,i,tr,t,rfl,ch7,set6,hn0,hn,by lia,full6,t7,htT,(λ_=>by rw [src6];show ts.getD i []=t;rw [ar,ht];rfl),λb S' H8 fr8 ch8 set8 src8 full8 grp8 _=>?_⟩
  refine ⟨S',_,_,rfl,(fr6.trans (y4.frame s7)).trans fr8,ch8,set8,⟨by have:=full8.ln;lia,by have:=full8.bl;lia⟩,hiT,src8.trans src6,λy=>?_⟩
  have hS1:∀s,S.chn.mv 0 s->TM.IsT n s:=set6.inv.ok.mvT 0
  have hS2:∀s,s∈ts.take i->TM.IsT n s:=λs hs=>hT s (bh hs)
  rw [grp8 y,yv9 hS1 hS2 htT grp6 y,bO,ht]
  have e:(λz=>z∈ts.take i++(some t).toList)=λz=>z∈ts.take i∨z=t:=by
   funext z
   simp
  rw [e]
 ·rintro σ H6 ⟨S,v3,v4,rfl,fr6,ch6,set6,full6,hi6,src6,grp6⟩
  have hlnl:S.ln.length<=4000000:=by
   have q1:=full6.ln
   have q2:=set6.inv.looks_le hn
   rw [ae,hml] at q1
   lia
  rw [ae,hml,bz] at grp6
  have x6:=fr6 _ _ xA x5
  have m6:=fr6 _ _ maA m5
  have hts6:Z5 H6 mas ts:=M0 hts5 λb hb t e=>fr6 _ _ (λz=>by
   obtain ⟨i,hi,e2⟩:=aY.mp hb
   obtain ⟨t0,ht0,htt0⟩:=o0 hts i b (by rw [aa hi,e2])
   exact out htt0 z) e
  refine q S H6 (λb o hb h=>fr6 b o (out h) (F5 b o hb h)) ⟨hn0,hn,⟨dx,ma,A,mas,x6,m6,hts6,ch6⟩,set6,hfew,hT,grp6,src6,hlnl⟩ λy H7 hy hyx hyt fr7=>?_
  obtain ⟨oy,hoy⟩:∃o,H y=some o:=Option.ne_none_iff_exists'.mp hy
  have kt:∀{b:Addr} {xs:List V},H6 b=some (.tup xs)->H7 b=some (.tup xs):=λ{b xs} h=>fr7.keep h (λz=>hyt xs (z ▸ h))
  exact ⟨hn0,hn,⟨dx,ma,A,mas,fr7.keep x6 (Ne.symm hyx),kt m6,Paired.imp' (λ_ _ z=>kt z) hts6,ch6.keep fr7 λz hz=>by
   rw [ah.mp hz]
   exact ⟨out hoy,hyt⟩⟩,set6,hfew,hT,grp6,src6,hlnl⟩
def zc8 (cG cC cB cS:Addr):Sp:=λvs H Q _=>∃(g:Addr) (n:Nat) (ts:List (List Nat)) (S:ChS),vs=[.ref g]/\u7 cG cC cB cS n H g ts S/\Q (.int ((S.chn.many n n:Nat):Int)) H
theorem zp5:v1 ["self"] ["self"] (y6 L9):=scq
theorem zo5 {cG cC cB cS:Addr}(F:Fun K "size" "Group.size" L9 f fd) (B:Blt mg) (cg:h8 K cG U8) (cc:h8 K cC Y4) (MS:Z1 P w K mg base 1 cC "size" ["self"] (yj8 cC cB cS)):p6 P w K mg base CX0 2 f fd ["self"] (zc8 cG cC cB cS):=by
 refine F.ok zp5 (λvs H Q E h=>?_) (λcdv Ar outer sh H vs Q E hr h=>?_)
 ·obtain ⟨g,n,ts,S,rfl,_⟩:=h
  rfl
 obtain ⟨g,n,ts,S,rfl,ga,q⟩:=h
 obtain ⟨dx,ma,A,mas,h1,h2,h3,h4⟩:=ga.at'
 obtain ⟨dxc,hc⟩:=h4.c
 refine ⟨_,z9 (v7 (W6 cc.cls MS hr (w6 (pv 0) rfl))),?_⟩
 exact ⟨_,rfl,g,cG,dx,_,_,rfl,h1,cg.cls,cg.no "chain" (by decide),rfl,A.c,dxc,_,rfl,hc,rfl,A,S,n,rfl,h4,ga.st.inv,ga.n60,q⟩
def xi3 (cG cC cB cS:Addr):Sp:=λvs H Q _=>∃(g tr:Addr) (n:Nat) (ts:List (List Nat)) (S:ChS) (t:List Nat),vs=[.ref g,.ref tr]/\u7 cG cC cB cS n H g ts S/\H tr=some (.tup (tI t))/\TM.IsT n t/\∀(b:Bool) (H':Hp),y4 H H'->(b=true↔TM.Grp n (λz=>z∈ts) t)->Q (.bl b) H'
theorem zc1:v1 ["self","thing"] ["self","thing"] (y6 R5):=scq
theorem zl7 {cG cC cB cS:Addr}(F:Fun K "has" "Group.has" R5 f fd) (B:Blt mg) (cg:h8 K cG U8) (cc:h8 K cC Y4) (KT:r8 P w K mg base 3 "is_turning_of" ["thing","many"] O0) (MH:Z1 P w K mg base 3 cC "holds" ["self","turning","level"] (D4 cC cB cS)):p6 P w K mg base CX0 4 f fd ["self","thing"] (xi3 cG cC cB cS):=by
 refine F.ok zc1 (λvs H Q E h=>?_) (λcdv Ar outer sh H vs Q E hr h=>?_)
 ·obtain ⟨g,tr,n,ts,S,t,rfl,_⟩:=h
  rfl
 obtain ⟨g,tr,n,ts,S,t,rfl,ga,htr,htT,q⟩:=h
 obtain ⟨dx,ma,A,mas,h1,h2,h3,h4⟩:=ga.at'
 refine ⟨_,z9 (v7 (L3 (u4 KT hr rfl (z0 (pv 1) (z0 (w6 (pv 0) rfl) z4))) (G7 (c5 cc.cls MH hr (w6 (pv 0) rfl) (z0 (pv 1) (z0 z8 z4)))))),?_⟩
 refine ⟨_,rfl,_,rfl,g,cG,dx,_,_,rfl,h1,cg.cls,cg.no "many" (by decide),rfl,.ref tr,_,n,rfl,yi8 htr,λds hd=>?_,λH1 s1=>?_⟩
 ·cases hd
  rw [ae,htT.length]
  have:=ga.n60
  lia
 have h4':=h4.same s1
 obtain ⟨dxc,hc⟩:=h4'.c
 have hol:=ga.st.inv.holds (j:=0) (aQ _) (λi _ hi=>ga.st.done i hi) htT (TM.Fix.zero t)
 refine ⟨(d6 (.tuple (t.map λ(x:Nat)=>PyData.int x))&&decide ((t.map λ(x:Nat)=>PyData.int x).length=n)),rfl,?_⟩
 rw [yf2 htT ga.n0 ga.n60]
 refine b6 ⟨_,rfl,g,cG,dx,_,_,rfl,s1 _ _ h1,cg.cls,cg.no "chain" (by decide),rfl,A.c,dxc,_,rfl,hc,rfl,_,rfl,A,S,n,0,tr,t,rfl,h4',ga.st.inv.fine.wl,s1 _ _ htr,htT,aQ _,ga.n60,λH2 s2=>?_⟩
 exact q _ H2 (s1.trans s2) (hol.trans (ga.grp t))
def yo6 (n:Nat)(d:PyData):Bool:=d6 d&&match d with | .tuple ds=>decide (ds.length=n)|_=>false
def xa4 (cG cC cB cS:Addr):Sp:=λvs H Q _=>∃(g:Addr) (x:V) (n:Nat) (ts:List (List Nat)) (S:ChS) (d:PyData),vs=[.ref g,x]/\u7 cG cC cB cS n H g ts S/\Dt H x d/\(∀ds,d=.tuple ds->ds.length<=100)/\yo6 n d=false/\∀H':Hp,y4 H H'->Q (.bl false) H'
theorem zl6 {cG cC cB cS:Addr}(F:Fun K "has" "Group.has" R5 f fd) (B:Blt mg) (cg:h8 K cG U8) (cc:h8 K cC Y4) (KT:r8 P w K mg base 3 "is_turning_of" ["thing","many"] O0) (MH:Z1 P w K mg base 3 cC "holds" ["self","turning","level"] (D4 cC cB cS)):p6 P w K mg base CX0 4 f fd ["self","thing"] (xa4 cG cC cB cS):=by
 refine F.ok zc1 (λvs H Q E h=>?_) (λcdv Ar outer sh H vs Q E hr h=>?_)
 ·obtain ⟨g,x,n,ts,S,d,rfl,_⟩:=h
  rfl
 obtain ⟨g,x,n,ts,S,d,rfl,ga,hd,hl,hn,q⟩:=h
 obtain ⟨dx,ma,A,mas,h1,h2,h3,h4⟩:=ga.at'
 refine ⟨_,z9 (v7 (L3 (u4 KT hr rfl (z0 (pv 1) (z0 (w6 (pv 0) rfl) z4))) (G7 (c5 cc.cls MH hr (w6 (pv 0) rfl) (z0 (pv 1) (z0 z8 z4)))))),?_⟩
 refine ⟨_,rfl,_,rfl,g,cG,dx,_,_,rfl,h1,cg.cls,cg.no "many" (by decide),rfl,x,d,n,rfl,hd,hl,λH1 s1=>?_⟩
 refine ⟨yo6 n d,rfl,?_⟩
 rw [hn]
 exact k9 (q H1 s1)
theorem p6.or {P:Program}{w:World}{K:W.Frag}{mg:Str->Option Value}{base:Heap}{k:Nat}{f:Addr}{fd:FuncData}{ps:List Str}{sp sp':Sp}(a:p6 P w K mg base CX0 k f fd ps sp)(b:p6 P w K mg base CX0 k f fd ps sp'):p6 P w K mg base CX0 k f fd ps (λvs H Q E=>sp vs H Q E∨sp' vs H Q E) where
 len:=λvs H Q E h=>h.elim (a.len vs H Q E) (b.len vs H Q E)
 run:=λA outer s H args us vs Q E hr I hb r h=>h.elim (a.run A outer s H args us vs Q E hr I hb r) (b.run A outer s H args us vs Q E hr I hb r)
def zx4 (cG cC cB cS:Addr):Sp:=λvs H Q E=>xi3 cG cC cB cS vs H Q E∨xa4 cG cC cB cS vs H Q E
theorem zu6 {cG cC cB cS:Addr}(F:Fun K "has" "Group.has" R5 f fd) (B:Blt mg) (cg:h8 K cG U8) (cc:h8 K cC Y4) (KT:r8 P w K mg base 3 "is_turning_of" ["thing","many"] O0) (MH:Z1 P w K mg base 3 cC "holds" ["self","turning","level"] (D4 cC cB cS)):p6 P w K mg base CX0 4 f fd ["self","thing"] (zx4 cG cC cB cS):=p6.or (zl7 F B cg cc KT MH) (zl6 F B cg cc KT MH)
def zd0 (cC cB cS:Addr):Sp:=λvs H Q _=>∃(A:ChA) (S:ChS) (n j p:Nat) (a:StA),vs=[.ref A.c,.ref a.a,.int p]/\r6 cC cB cS n H A S/\S.Inv n/\j<n/\A.st[j]?=some a/\p∈S.chn.ring j/\∀b,H b=some (.tup (tI (S.chn.up j p)))->Q (.ref b) H
theorem C4:v1 ["self","step","to"] ["self","step","to"] (y6 Z4):=scq
theorem C2 {cC cB cS:Addr}(F:Fun K "turning_to" "Chain.turning_to" Z4 f fd) (B:Blt mg) (cc:h8 K cC Y4) (cb:h8 K cB zf9) (cs:h8 K cS O5):p6 P w K mg base CX0 1 f fd ["self","step","to"] (zd0 cC cB cS):=by
 refine F.ok C4 (λvs H Q E h=>?_) (λcdv Ar outer sh H vs Q E hr h=>?_)
 ·obtain ⟨A,S,n,j,p,a,rfl,_⟩:=h
  rfl
 obtain ⟨A,S,n,j,p,a,rfl,ch,iv,hj,hA,hp,q⟩:=h
 have hu:(Ar.deeper (PyProof.Rows.envOfC "Chain.turning_to" (y6 Z4) sh.heap.objs.size f cdv)).units+1<cLine:=by have:=hr.units;lia
 refine ⟨_,z9 (v7 (l9 p8 (w6 (w6 (pv 0) rfl) rfl) (L4 hu (w6 (pv 1) rfl) (pv 2) (λ_ _=>rfl)) (λ_ _=>rfl))),?_⟩
 obtain ⟨dxc,hc⟩:=ch.c
 obtain ⟨dxb,hb⟩:=ch.bk.b
 obtain ⟨mas,hlm,hmd⟩:=ch.bk.lm
 have hs:=ChS.get_at (S:=S) (j:=j) (by rw [iv.len];exact hj)
 have st:=ch.st j a _ hA hs
 obtain ⟨dxs,hsa⟩:=st.a
 obtain ⟨k,hk⟩:∃k,atN (S.atS j).to p=some k:=by
  cases e:atN (S.atS j).to p with
  | some k=>exact ⟨k,rfl⟩
  | none=>exact absurd hp (V4.mp e)
 have hkl:k<S.md.length:=(iv.fine.wl.to _ (ax hs) _ (T8 hk)).2
 obtain ⟨ak,hak,htk⟩:=X0 hmd k _ (T9 [] hkl)
 have gk:atI (mas.map V.ref) ((k:Nat):Int)=some (V.ref ak):=i4 (by rw [ag,hak];rfl)
 have g1:U6 H a.lt (kV (Sum.inl (p:Int))) (some (V.int k)):=by
  have g:=U6.k (k:=Sum.inl (p:Int)) st.lt
  rwa [R1,hk] at g
 refine ⟨_,rfl,A.c,cC,dxc,_,_,rfl,hc,cc.cls,cc.no "book" (by decide),rfl,A.b,cB,dxb,_,_,rfl,hb,cb.cls,cb.no "made" (by decide),rfl,_,rfl,a.a,cS,dxs,_,_,rfl,hsa,cs.cls,cs.no "line_to" (by decide),rfl,_,rfl,a.lt,_,rfl,g1,A.lm,_,_,_,rfl,rfl,SqL.of hlm,gk,q ak ?_⟩
 rw [ChS.chn_up hk]
 exact htk
def ChA.at' (A:ChA)(j:Nat):Addr:=(A.st.map λs=>s.a).getD j A.c
theorem ChA.at_of {A:ChA}{j:Nat}{a:StA}(h:A.st[j]?=some a):A.at' j=a.a:=by
 unfold ChA.at'
 rw [ar,ag,h]
 rfl
def zx3 (cC cB cS:Addr):Sp:=λvs H Q _=>∃(A:ChA) (S:ChS) (n:Nat),vs=[.ref A.c]/\r6 cC cB cS n H A S/\S.Inv n/\n<=60/\∀(l:Addr) (H':Hp),H l=none->y4 H H'->H' l=some (.lst ((TM.wide S.chn (List.range n)).map λj=>V.ref (A.at' j)))->Q (.ref l) H'
theorem C3:v1 ["self"] ["self"] (y6 W8):=scq
theorem C1 {cC cB cS:Addr}(F:Fun K "base_steps" "Chain.base_steps" W8 f fd) (B:Blt mg) (cc:h8 K cC Y4) (cs:h8 K cS O5):p6 P w K mg base CX0 1 f fd ["self"] (zx3 cC cB cS):=by
 refine F.ok C3 (λvs H Q E h=>?_) (λcdv Ar outer sh H vs Q E hr h=>?_)
 ·obtain ⟨A,S,n,rfl,_⟩:=h
  rfl
 obtain ⟨A,S,n,rfl,ch,iv,hn,q⟩:=h
 obtain ⟨dxc,hc⟩:=ch.c
 refine ⟨_,z9 (v7 (yi2 [] ["step"] rfl (W1 (w6 (pv 0) rfl)) (λ_ _ _ _=>o4 ym2 (v8 E5 rfl B.len g7 (z0 (w6 (pv 0) rfl) z4)) z8 (p7 _)) (λ_ _ _ _=>pv 0))),?_⟩
 have hstl:(A.st.map λs=>V.ref s.a).length=n:=by rw [ae];exact ch.len.1
 refine ⟨_,rfl,A.c,cC,dxc,_,_,rfl,hc,cc.cls,cc.no "steps" (by decide),rfl,A.l,rfl,⟨_,SqL.of ch.l⟩,zg1 (n:=n) (λj=>decide (1<(S.chn.ring j).length)) (λj=>V.ref (A.at' j)) (aB hn (by decide)) (λH' s'=>?_) (λi H' hi s'=>?_) ?_ ?_⟩
 ·exact ⟨_,SqL.of (s' _ _ ch.l),by rw [hstl];exact af _⟩
 ·exact ⟨A.st.map λs=>V.ref s.a,_,SqL.of (s' _ _ ch.l),aa (by rw [hstl];exact hi)⟩
 ·rintro i H' x H2 hi s' ⟨rfl,hy⟩
  have hx:=hy _ (SqL.of (s' _ _ ch.l))
  obtain ⟨a,hA⟩:∃a,A.st[i]?=some a:=⟨_,aa (by rw [ch.len.1];exact hi)⟩
  rw [ag,hA] at hx
  cases hx
  have hs:=ChS.get_at (S:=S) (j:=i) (by rw [iv.len];exact hi)
  have st:=ch.st i a _ hA hs
  obtain ⟨dxs,hsa⟩:=st.a
  refine ⟨rfl,λ_ _ _ _=>?_⟩
  refine ⟨_,rfl,a.a,cS,dxs,_,_,rfl,s' _ _ hsa,cs.cls,cs.no "line_to" (by decide),rfl,a.lt,_,rfl,s' _ _ st.lt,_,_,rfl,rfl,_,rfl,?_,y4.refl _,λ_=>?_⟩
  ·rw [R7]
   show decide (1<(((S.atS i).to.length:Nat):Int))=decide (1<((S.atS i).to.map Prod.fst).length)
   rw [ae]
   exact decide_eq_decide.mpr (by lia)
  ·exact ⟨_,rfl,y4.refl _,by rw [ChA.at_of hA]⟩
 ·intro D' H' hD s' hl
  exact q D' H' hD s' hl
theorem zr1 (t:List Nat):(TM.iN t).map V.int=tI t:=by
 unfold TM.iN tI
 rw [bC]
 rfl
theorem xh7 {t:List Nat}{i p:Nat}(h:t[i]?=some p):(TM.iN t)[i]?=some ((p:Nat):Int):=by
 unfold TM.iN
 rw [ag,h]
 rfl
theorem yl8 {t:List Nat}{i:Nat}{z:Int}(h:(TM.iN t)[i]?=some z):∃y:Nat,t[i]?=some y/\z=(y:Int):=by
 unfold TM.iN at h
 rw [ag] at h
 cases e:t[i]? with
 | none=>rw [e] at h;cases h
 | some y=>rw [e] at h;cases h;exact ⟨y,rfl,rfl⟩
theorem yx3 {m:Nat}(h:m<=60 ^ 60):((m:Nat):Int).natAbs.log2<9000:=by
 rw [Int.natAbs_natCast]
 by_cases h0:m=0
 ·subst h0;decide
 ·rw [Nat.log2_lt h0]
  exact bT h (by decide +kernel)
theorem u7.few' {cG cC cB cS:Addr}{n:Nat}{H:Hp}{g:Addr}{ts:List (List Nat)}{S:ChS}(h:u7 cG cC cB cS n H g ts S):S.chn.many n n<=60 ^ 60:=by
 obtain ⟨L,h1,h2,h3⟩:=h.st.inv.ok.all n (af _) λj _ hj=>h.st.inv.shut (h.st.done j hj)
 rw [←h3]
 refine aB (TM.turnings_few (n:=n) h1 λt ht=>((h2 t).mp ht).isT (h.st.inv.ok.mvT _)) ?_
 exact aB (Nat.pow_le_pow_left h.n60 n) (cK (by decide) h.n60)
theorem ze4 {C:TM.Chn}:∀(js:List Nat) (i:Nat),(∀j∈js,0<(C.ring j).length)->C.manyL (js.drop i)<=C.manyL js/\0<C.manyL (js.drop i)
 | [],i,_=>by rw [List.drop_nil];exact ⟨af _,dM⟩
 | j::js,0,h=>by
  have ih:=ze4 js 0 λi hi=>h i (ao _ hi)
  exact ⟨af _,fV (h j au) ih.2⟩
 | j::js,i+1,h=>by
  have ih:=ze4 js i λi hi=>h i (ao _ hi)
  refine ⟨aB ih.1 ?_,ih.2⟩
  exact Nat.le_mul_of_pos_left _ (h j au)
def yn7 (cG cC cB cS:Addr):Sp:=λvs H Q _=>∃(g:Addr) (n k:Nat) (ts:List (List Nat)) (S:ChS),vs=[.ref g,.int k]/\u7 cG cC cB cS n H g ts S/\k<S.chn.many n n/\∀(r:Addr) (x:List Nat) (H':Hp),y4 H H'->H' r=some (.tup (tI x))->S.chn.NthL (List.range' 0 n) k (List.range n) x->Q (.ref r) H'
theorem c6:v1 ["self","k","size","here","step","goals","goal"] ["self","k"] (y6 F6):=scq
theorem zu7 {cG cC cB cS:Addr}(F:Fun K "nth" "Group.nth" F6 f fd) (B:Blt mg) (cg:h8 K cG U8) (cc:h8 K cC Y4) (cs:h8 K cS O5) (MS:Z1 P w K mg base 2 cG "size" ["self"] (zc8 cG cC cB cS)) (KW:r8 P w K mg base 1 "is_whole" ["thing"] zd1) (KS:r8 P w K mg base 1 "still" ["many"] zc9) (MB:Z1 P w K mg base 1 cC "base_steps" ["self"] (zx3 cC cB cS)) (MT:Z1 P w K mg base 1 cC "turning_to" ["self","step","to"] (zd0 cC cB cS)) (KB:r8 P w K mg base 1 "behind" ["one","other"] (M2 K)):p6 P w K mg base CX0 3 f fd ["self","k"] (yn7 cG cC cB cS):=by
 refine F.ok c6 (λvs H Q E h=>?_) (λcdv Ar outer sh H vs Q E hr h=>?_)
 ·obtain ⟨g,n,k,ts,S,rfl,_⟩:=h
  rfl
 obtain ⟨g,n,k,ts,S,rfl,ga,hk,q⟩:=h
 refine ⟨_,z6 (y9 (i:=2) c6.nd rfl (Or.inl rfl) (W6 cg.cls MS hr (pv 0)))
  (z6 (k8 (PW.pt (J2 (Y0 (Y1 (u4 KW hr rfl (z0 (pv 1) z4)))) (N1 (Y0 (zm6 yc4 ym3 z8 (pv 1) (pv 2)))))) (z9 G9) u8)
  (z6 (y9 (i:=3) c6.nd rfl (Or.inr rfl) (u4 KS hr rfl (z0 (w6 (pv 0) rfl) z4)))
  (z6 (W7 PassesOwn.never rfl (W1 (W6 cc.cls MB hr (w6 (pv 0) rfl))) (m7 (i:=4) c6.nd rfl (Or.inl rfl))
   (z6 (y9 (i:=2) c6.nd rfl (Or.inl rfl) (v0 yc1 (pv 2) (v8 E5 rfl B.len g7 (z0 (w6 (pv 4) rfl) z4))))
   (z6 (y9 (i:=5) c6.nd rfl (Or.inl rfl) (v8 zt1 rfl B.sorted zd6 (z0 (ym6 (f9 [3] ["place","here"] rfl (zw0 (w6 (pv 4) rfl)) (λ_ _ _ _=>l9 N0 (pv 1) (pv 0) (λ_ _=>rfl)))) z4)))
   (z6 (y9 (i:=6) c6.nd rfl (Or.inl rfl) (l9 p8 (pv 5) (v0 l4 (v0 yc1 (pv 1) (pv 2)) (v8 u6 rfl B.len g7 (z0 (pv 5) z4))) (λ_ _=>rfl)))
   (z9 (y9 (i:=3) c6.nd rfl (Or.inr rfl) (u4 KB hr rfl (z0 (c5 cc.cls MT hr (w6 (pv 0) rfl) (z0 (pv 4) (z0 (yy6 PySem.F.slot_tuple_index PySem.F.type_tuple_index yb6 (pv 3) (z0 (pv 6) z4)) z4))) (z0 (pv 3) z4)))))))))
  (z9 (v7 (pv 3)))))),?_⟩
 obtain ⟨dx,ma,A,mas,h1,h2,h3,h4⟩:=ga.at'
 obtain ⟨dxc,hc⟩:=h4.c
 have iv:=ga.st.inv
 have hn:=ga.n60
 refine ⟨_,rfl,g,dx,_,rfl,h1,rfl,g,n,ts,S,rfl,ga,?_⟩
 refine ⟨_,rfl,_,.int k,rfl,.int _,_,rfl,k9 ⟨_,rfl,_,_,rfl,rfl,_,rfl,?_⟩⟩
 rw [decide_eq_true (show (0:Int)<=((k:Nat):Int) by lia)]
 refine b6 ⟨_,rfl,_,_,rfl,rfl,_,rfl,?_⟩
 rw [decide_eq_true (show ((k:Nat):Int)<((S.chn.many n n:Nat):Int) by lia)]
 refine k9 ?_
 refine ⟨_,rfl,g,cG,dx,_,_,rfl,h1,cg.cls,cg.no "many" (by decide),rfl,n,rfl,by lia,λhr0 H1 hhr s1 hhe=>?_⟩
 dsimp only [p3]
 have h41:=h4.same s1
 have ok:=iv.ok
 have hlt:∀j∈List.range n,j<n:=λj hj=>aH.mp hj
 have hW:∀j∈TM.wide S.chn (List.range n),j<n:=λj hj=>hlt j (cU.mp hj).1
 have hpos:∀j∈TM.wide S.chn (List.range n),0<(S.chn.ring j).length:=λj hj=>di (ok.own j (hW j hj))
 have hm0:S.chn.manyL (TM.wide S.chn (List.range n))=S.chn.many n n:=by
  rw [ok.manyL_wide _ hlt,cF,TM.Chn.manyL_many n 0 (bo n)]
 have hfew:=ga.few'
 refine ⟨_,rfl,g,cG,dx,_,_,rfl,s1 _ _ h1,cg.cls,cg.no "chain" (by decide),rfl,A.c,dxc,_,rfl,s1 _ _ hc,rfl,A,S,n,rfl,h41,iv,hn,λl H2 hl s2 hl2=>?_⟩
 have h42:=h41.same s2
 refine ⟨l,rfl,⟨_,SqL.of hl2⟩,R4 (K:=K) (a:=l) (xs:=(TM.wide S.chn (List.range n)).map λj=>V.ref (A.at' j)) (λi σ Hh=>∃(ha:Addr) (h:List Nat) (v4 v5 v6:Option V),σ=[some (.ref g),some (.int k),some (.int ((S.chn.manyL ((TM.wide S.chn (List.range n)).drop i):Nat):Int)),some (.ref ha),v4,v5,v6]/\y4 H2 Hh/\Hh ha=some (.tup (tI h))/\TM.IsT n h/\∀x,S.chn.NthL ((TM.wide S.chn (List.range n)).drop i) k h x->S.chn.NthL (TM.wide S.chn (List.range n)) k (List.range n) x)
  ⟨hr0,List.range n,none,none,none,by rw [dv,hm0];rfl,y4.refl _,s2 _ _ hhe,TM.IsT.range n,λx hx=>by rw [dv] at hx;exact hx⟩ (λi σ Hh _ ⟨_,_,_,_,_,_,s,_⟩=>SqL.of (s _ _ hl2)) ?_ ?_⟩
 ·rintro i v σ Hh hv ⟨ha,h,v4,v5,v6,rfl,s3,hha,hT,hN⟩
  rw [ag] at hv
  cases hji:(TM.wide S.chn (List.range n))[i]? with
  | none=>rw [hji] at hv;cases hv
  | some j =>
   rw [hji] at hv
   cases hv
   have hi:i<(TM.wide S.chn (List.range n)).length:=(ap.mp hji).1
   have hj:j<n:=hW j (ax hji)
   have ed:(TM.wide S.chn (List.range n)).drop i=j::(TM.wide S.chn (List.range n)).drop (i+1):=by
    rw [bp hi,(ap.mp hji).2]
   obtain ⟨hd1,hd2⟩:=ze4 (C:=S.chn) _ (i+1) hpos
   rw [ed] at hN ⊢
   generalize hrest:(TM.wide S.chn (List.range n)).drop (i+1)=X3 at hN hd1 hd2 ⊢
   obtain ⟨a,hA⟩:∃a,A.st[j]?=some a:=⟨_,aa (by rw [h4.len.1];exact hj)⟩
   have hs:=ChS.get_at (S:=S) (j:=j) (by rw [iv.len];exact hj)
   have h43:=h42.same s3
   have st:=h43.st j a _ hA hs
   obtain ⟨dxs,hsa⟩:=st.a
   have rl:(S.chn.ring j).length=(S.atS j).to.length:=ae _
   have rn:(S.atS j).to.length<=n:=iv.ring hj
   have rp:0<(S.atS j).to.length:=by rw [←rl];exact di (ok.own j hj)
   show p3 4 (V.ref (A.at' j)) _ _ _
   rw [ChA.at_of hA]
   refine ⟨_,rfl,_,rfl,a.a,cS,dxs,_,_,rfl,hsa,cs.cls,cs.no "line_to" (by decide),rfl,a.lt,_,rfl,st.lt,?_⟩
   rw [R7]
   refine ⟨_,_,rfl,rfl,⟨by lia,yx3 (aB rn (aB hn (by decide +kernel)))⟩,?_⟩
   have esz:((S.chn.manyL (j::X3):Nat):Int) / (((S.atS j).to.length:Nat):Int)=((S.chn.manyL X3:Nat):Int):=by
    rw [←fI,TM.Chn.manyL,rl,Nat.mul_div_cancel_left _ rp]
   dsimp only [p3]
   rw [esz]
   refine ⟨a.lt,kI (S.atS j).to,st.lt,_,rfl,a.a,cS,dxs,_,_,rfl,hsa,cs.cls,cs.no "line_to" (by decide),rfl,a.lt,_,rfl,st.lt,λob=>?_⟩
   have ltha:ha≠a.lt:=i8 hha st.lt (by intro z;cases z)
   refine yp1 (by rw [z5]) ((S.chn.ring j).map λp=>V.int ((h.getD p 0:Nat):Int)) (by rw [ae,R7,rl]) (by rw [R7];exact aB rn (aB hn (by decide))) ?_ ?_
   ·intro u H4 kk vv hkk s4 _ _ _ _
    unfold kI at hkk
    rw [ag] at hkk
    cases e:(S.atS j).to[u]? with
    | none=>rw [e] at hkk;cases hkk
    | some pr =>
     rw [e] at hkk
     cases hkk
     have hmem:pr.1∈S.chn.ring j:=aw.mpr ⟨pr,ax e,rfl⟩
     refine ⟨_,rfl,_,rfl,ha,_,_,_,rfl,rfl,SqT.of (s4 _ _ (by rw [z7 ltha];exact hha)),O6 (hT.get_step (ok.lt j _ hj hmem)),y4.refl _,?_⟩
     show (((S.atS j).to.map Prod.fst).map λp=>V.int ((h.getD p 0:Nat):Int))[u]?=_
     rw [ag,ag,e]
     rfl
   ·intro Dl H4 hD s4 hl4
    have s5:=ze8 st.lt s4
    have hDl:Dl≠a.lt:=λz=>by subst z;rw [z5] at hD;cases hD
    refine ⟨⟨ob,s4 _ _ z5⟩,?_⟩
    have hl5:(upd H4 a.lt (.dK (kI (S.atS j).to))) Dl=some (.lst (((S.chn.ring j).map λp=>((h.getD p 0:Nat):Int)).map V.int)):=by
     rw [z7 hDl,bC]
     exact hl4
    generalize upd H4 a.lt (.dK (kI (S.atS j).to))=H5 at s5 hl5 ⊢
    refine ⟨Dl,_,rfl,SqL.of hl5,by rw [ae,rl];lia,λlg ms hlg hperm hsort=>?_⟩
    have s6:=y8 hlg (.lst (ms.map V.int))
    have e6:(upd H5 lg (.lst (ms.map V.int))) lg=some (.lst (ms.map V.int)):=z5
    generalize upd H5 lg (.lst (ms.map V.int))=H6 at s6 e6 ⊢
    have S6:=s5.trans s6
    have hml:ms.length=(S.atS j).to.length:=by rw [hperm.length_eq,ae,rl]
    dsimp only [p3]
    obtain ⟨z,hz⟩:∃z,ms[k / S.chn.manyL X3 % (S.chn.ring j).length]?=some z:=⟨_,aa (by rw [hml,←rl];exact fW _ (by lia))⟩
    obtain ⟨p,hp,hpn,rfl,hlow⟩:=TM.Chn.rank ok hj hT hperm hsort hz
    refine ⟨_,rfl,_,rfl,_,rfl,_,_,rfl,rfl,⟨by lia,yx3 (aB hd1 (by rw [hm0];exact hfew))⟩,_,rfl,lg,_,rfl,.inl (SqL.of e6),_,_,rfl,rfl,by rw [ae,hml];lia,?_⟩
    rw [ae,hml]
    have eix:((k:Nat):Int) / ((S.chn.manyL X3:Nat):Int) % (((S.atS j).to.length:Nat):Int)=((k / S.chn.manyL X3 % (S.chn.ring j).length:Nat):Int):=by
     rw [rl,fH,fI]
    refine ⟨lg,_,_,V.int ((h.getD p 0:Nat):Int),rfl,rfl,SqL.of e6,?_,?_⟩
    ·rw [eix]
     exact i4 (by rw [ag,hz];rfl)
    dsimp only [p3]
    have S26:y4 H1 H6:=s2.trans (s3.trans S6)
    have ch6:=h43.same S6
    have hha6:=S6 _ _ hha
    have hup:=ok.upT hj hp
    refine ⟨_,rfl,g,cG,dx,_,_,rfl,S26 _ _ (s1 _ _ h1),cg.cls,cg.no "chain" (by decide),rfl,A.c,dxc,_,rfl,S26 _ _ (s1 _ _ hc),rfl,_,rfl,_,rfl,⟨ha,_,rfl,hha6⟩,_,rfl,ha,TM.iN h,((h.getD p 0:Nat):Int),p,rfl,rfl,SqT.of (by rw [zr1];exact hha6),xh7 (hT.get_step hpn),λu hu c=>?_,A,S,n,j,p,a,rfl,ch6,iv,hj,hA,hp,λb hb=>?_⟩
    ·obtain ⟨y,hy,e⟩:=yl8 c
     have:=hT.inj hy (show h[p]?=some y by rw [hT.get_step hpn,show h.getD p 0=y by lia])
     lia
    ·refine ⟨_,rfl,b,ha,_,_,rfl,SqT.of hb,SqT.of hha6,by rw [hup.length];lia,λx hx=>by rw [hT.length];exact hup.lt hx,λr H7 hr0' s7 hr7=>?_⟩
     refine ⟨r,_,_,_,_,rfl,s3.trans (S6.trans s7),hr7,hup.beh hT,λx hx=>hN x ⟨p,hp,?_,hx⟩⟩
     exact hlow
 ·rintro σ Hh ⟨ha,h,v4,v5,v6,rfl,s3,hha,hT,hN⟩
  refine ⟨_,rfl,?_⟩
  refine q ha h Hh (s1.trans (s2.trans s3)) hha ?_
  have hx:=hN h (by rw [ae,fD];rfl)
  have hx:=ok.nth_wide (List.range n) k (List.range n) h hlt (TM.IsT.range n) hx
  rw [←cF]
  exact hx
theorem u7.cos {cG cC cB cS:Addr}{n:Nat}{H:Hp}{g:Addr}{ts:List (List Nat)}{S:ChS}(ga:u7 cG cC cB cS n H g ts S){t:List Nat}(hG:TM.Grp n (λz=>z∈ts) t):S.chn.Cos n 0 (List.range n) t:=⟨t,(ga.grp t).mpr hG,(TM.beh_still (hG.isT λs hs=>ga.tT s hs)).symm⟩
def ye1 (cG cC cB cS:Addr):Sp:=λvs H Q _=>∃(g tr:Addr) (n:Nat) (ts:List (List Nat)) (S:ChS) (t:List Nat),vs=[.ref g,.ref tr]/\u7 cG cC cB cS n H g ts S/\H tr=some (.tup (tI t))/\TM.IsT n t/\TM.Grp n (λz=>z∈ts) t/\∀H':Hp,y4 H H'->Q .non H'
theorem zf1:v1 ["self","thing"] ["self","thing"] (y6 R9):=scq
theorem ze6 {cG cC cB cS:Addr}(F:Fun K "need_in" "Group.need_in" R9 f fd) (B:Blt mg) (cg:h8 K cG U8) (MH:Z1 P w K mg base 4 cG "has" ["self","thing"] (zx4 cG cC cB cS)):p6 P w K mg base CX0 5 f fd ["self","thing"] (ye1 cG cC cB cS):=by
 refine F.ok zf1 (λvs H Q E h=>?_) (λcdv Ar outer sh H vs Q E hr h=>?_)
 ·obtain ⟨g,tr,n,ts,S,t,rfl,_⟩:=h
  rfl
 obtain ⟨g,tr,n,ts,S,t,rfl,ga,htr,hT,hG,q⟩:=h
 obtain ⟨dx,ma,A,mas,h1,h2,h3,h4⟩:=ga.at'
 refine ⟨_,z9 (k8 (Y0 (Y1 (c5 cg.cls MH hr (pv 0) (z0 (pv 1) z4)))) (z9 G9) u8),?_⟩
 refine ⟨_,rfl,g,dx,_,rfl,h1,rfl,_,rfl,.inl ⟨g,tr,n,ts,S,t,rfl,ga,htr,hT,λb H1 s1 hb=>⟨_,rfl,?_⟩⟩⟩
 rw [hb.mpr hG]
 exact k9 (q H1 s1)
theorem o9:v1 ["self","thing","number","here","step","goal","lower"] ["self","thing"] (y6 T3):=scq
def yn8 (cG cC cB cS:Addr):Sp:=λvs H Q _=>∃(g tr:Addr) (n:Nat) (ts:List (List Nat)) (S:ChS) (t:List Nat),vs=[.ref g,.ref tr]/\u7 cG cC cB cS n H g ts S/\H tr=some (.tup (tI t))/\TM.IsT n t/\TM.Grp n (λz=>z∈ts) t/\∀H':Hp,y4 H H'->Q (.int ((S.chn.NumL (List.range' 0 n) (List.range n) t:Nat):Int)) H'
theorem yg6 {l:List (Nat×Nat)}(q:Nat->Bool)(f:Nat->V)(hf:∀i x,l[i]?=some x->f i=V.int ((x.1:Nat):Int)):((List.range l.length).filter λi=>q ((l.map Prod.fst).getD i 0)).length=((l.map Prod.fst).filter q).length:=by
 have e:(l.map Prod.fst)=(List.range l.length).map λi=>(l.map Prod.fst).getD i 0:=by
  refine bZ λi=>?_
  rw [ag]
  by_cases hi:i<l.length
  ·rw [ag,aM hi,aa hi,dD,dD,ar,ag,aa hi]
   rfl
  ·rw [ag,aU (by lia),aU (by rw [aA];lia)]
   rfl
 conv=>rhs;rw [e]
 rw [fG,ae]
 rfl
theorem zb2 {cG cC cB cS:Addr}(F:Fun K "place_of" "Group.place_of" T3 f fd) (B:Blt mg) (cg:h8 K cG U8) (cc:h8 K cC Y4) (cs:h8 K cS O5) (MN:Z1 P w K mg base 5 cG "need_in" ["self","thing"] (ye1 cG cC cB cS)) (KS:r8 P w K mg base 1 "still" ["many"] zc9) (MB:Z1 P w K mg base 1 cC "base_steps" ["self"] (zx3 cC cB cS)) (MT:Z1 P w K mg base 1 cC "turning_to" ["self","step","to"] (zd0 cC cB cS)) (KB:r8 P w K mg base 1 "behind" ["one","other"] (M2 K)):p6 P w K mg base CX0 6 f fd ["self","thing"] (yn8 cG cC cB cS):=by
 refine F.ok o9 (λvs H Q E h=>?_) (λcdv Ar outer sh H vs Q E hr h=>?_)
 ·obtain ⟨g,tr,n,ts,S,t,rfl,_⟩:=h
  rfl
 obtain ⟨g,tr,n,ts,S,t,rfl,ga,htr,hT,hG,q⟩:=h
 refine ⟨_,z6 (h9 (c5 cg.cls MN hr (pv 0) (z0 (pv 1) z4)))
  (z6 (y9 (i:=2) o9.nd rfl (Or.inl rfl) z8)
  (z6 (y9 (i:=3) o9.nd rfl (Or.inr rfl) (u4 KS hr rfl (z0 (w6 (pv 0) rfl) z4)))
  (z6 (W7 PassesOwn.never rfl (W1 (W6 cc.cls MB hr (w6 (pv 0) rfl))) (m7 (i:=4) o9.nd rfl (Or.inl rfl))
   (z6 (y9 (i:=5) o9.nd rfl (Or.inr rfl) (l9 N0 (pv 1) (w6 (pv 4) rfl) (λ_ _=>rfl)))
   (z6 (xf2 (zp3 (i:=6) [3,5] ["place","here","goal"] o9.nd rfl rfl rfl (zw0 (w6 (pv 4) rfl)) (λ_ _ _ _=>o4 ym3 (l9 N0 (pv 1) (pv 0) (λ_ _=>rfl)) (pv 2) (p7 _)) (λ_ _ _ _=>pv 0)))
   (z6 (y9 (i:=2) o9.nd rfl (Or.inl rfl) (v0 i9 (v0 P4 (pv 2) (v8 E5 rfl B.len g7 (z0 (w6 (pv 4) rfl) z4))) (v8 u6 rfl B.len g7 (z0 (pv 6) z4))))
   (z9 (y9 (i:=3) o9.nd rfl (Or.inr rfl) (u4 KB hr rfl (z0 (c5 cc.cls MT hr (w6 (pv 0) rfl) (z0 (pv 4) (z0 (yy6 PySem.F.slot_tuple_index PySem.F.type_tuple_index yb6 (pv 3) (z0 (pv 5) z4)) z4))) (z0 (pv 3) z4)))))))))
  (z9 (v7 (pv 2)))))),?_⟩
 obtain ⟨dx,ma,A,mas,h1,h2,h3,h4⟩:=ga.at'
 obtain ⟨dxc,hc⟩:=h4.c
 have iv:=ga.st.inv
 have ok:=iv.ok
 have hn:=ga.n60
 have shut:∀i,0<=i->i<n->S.chn.Shut n i:=λi _ hi=>iv.shut (ga.st.done i hi)
 have hcos:=ga.cos hG
 refine ⟨_,rfl,g,dx,_,rfl,h1,rfl,_,rfl,g,tr,n,ts,S,t,rfl,ga,htr,hT,hG,λH0 s0=>?_⟩
 dsimp only [p3]
 refine ⟨_,rfl,g,cG,dx,_,_,rfl,s0 _ _ h1,cg.cls,cg.no "many" (by decide),rfl,n,rfl,by lia,λhr0 H1 hhr s1' hhe=>?_⟩
 have s1:=s0.trans s1'
 dsimp only [p3]
 have h41:=h4.same s1
 have hlt:∀j∈List.range n,j<n:=λj hj=>aH.mp hj
 have hW:∀j∈TM.wide S.chn (List.range n),j<n:=λj hj=>hlt j (cU.mp hj).1
 refine ⟨_,rfl,g,cG,dx,_,_,rfl,s1 _ _ h1,cg.cls,cg.no "chain" (by decide),rfl,A.c,dxc,_,rfl,s1 _ _ hc,rfl,A,S,n,rfl,h41,iv,hn,λl H2 hl s2 hl2=>?_⟩
 have h42:=h41.same s2
 have fit0:S.chn.Fit (TM.wide S.chn (List.range n)) (List.range n) t:=ok.fit_wide _ _ _ hlt (TM.IsT.range n) (by rw [cF];exact (cF (n:=n)) ▸ ok.fit n 0 _ t (bo n) shut (TM.IsT.range n) hcos)
 refine ⟨l,rfl,⟨_,SqL.of hl2⟩,R4 (K:=K) (a:=l) (xs:=(TM.wide S.chn (List.range n)).map λj=>V.ref (A.at' j)) (λi σ Hh=>∃(m:Nat) (ha:Addr) (h:List Nat) (v4 v5 v6:Option V),σ=[some (.ref g),some (.ref tr),some (.int m),some (.ref ha),v4,v5,v6]/\y4 H2 Hh/\Hh ha=some (.tup (tI h))/\TM.IsT n h/\S.chn.Fit ((TM.wide S.chn (List.range n)).drop i) h t/\m*S.chn.manyL ((TM.wide S.chn (List.range n)).drop i)+S.chn.NumL ((TM.wide S.chn (List.range n)).drop i) h t=S.chn.NumL (TM.wide S.chn (List.range n)) (List.range n) t)
  ⟨0,hr0,List.range n,none,none,none,rfl,y4.refl _,s2 _ _ hhe,TM.IsT.range n,by rw [dv];exact fit0,by rw [dv,fh,bo]⟩ (λi σ Hh _ ⟨_,_,_,_,_,_,_,s,_⟩=>SqL.of (s _ _ hl2)) ?_ ?_⟩
 ·rintro i v σ Hh hv ⟨m,ha,h,v4,v5,v6,rfl,s3,hha,hhT,hfit,hN⟩
  rw [ag] at hv
  cases hji:(TM.wide S.chn (List.range n))[i]? with
  | none=>rw [hji] at hv;cases hv
  | some j =>
   rw [hji] at hv
   cases hv
   have hi:i<(TM.wide S.chn (List.range n)).length:=(ap.mp hji).1
   have hj:j<n:=hW j (ax hji)
   have ed:(TM.wide S.chn (List.range n)).drop i=j::(TM.wide S.chn (List.range n)).drop (i+1):=by
    rw [bp hi,(ap.mp hji).2]
   rw [ed] at hN hfit
   generalize hrest:(TM.wide S.chn (List.range n)).drop (i+1)=X3 at hN hfit ⊢
   obtain ⟨p,hp,etp,hfit'⟩:=hfit
   have hpn:=ok.lt j p hj hp
   obtain ⟨a,hA⟩:∃a,A.st[j]?=some a:=⟨_,aa (by rw [h4.len.1];exact hj)⟩
   have hs:=ChS.get_at (S:=S) (j:=j) (by rw [iv.len];exact hj)
   have h43:=h42.same s3
   have st:=h43.st j a _ hA hs
   obtain ⟨dxs,hsa⟩:=st.a
   have rl:(S.chn.ring j).length=(S.atS j).to.length:=ae _
   have rn:(S.atS j).to.length<=n:=iv.ring hj
   show p3 4 (V.ref (A.at' j)) _ _ _
   rw [ChA.at_of hA]
   have S13:y4 H Hh:=s1.trans (s2.trans s3)
   refine ⟨_,rfl,_,rfl,a.a,cS,dxs,_,_,rfl,hsa,cs.cls,cs.no "place" (by decide),rfl,tr,_,_,_,rfl,rfl,SqT.of (S13 _ _ htr),O6 (hT.get_step hj),?_⟩
   rw [etp]
   dsimp only [p3]
   have ltha:ha≠a.lt:=i8 hha st.lt (by intro z;cases z)
   refine ⟨a.lt,kI (S.atS j).to,st.lt,_,rfl,a.a,cS,dxs,_,_,rfl,hsa,cs.cls,cs.no "line_to" (by decide),rfl,a.lt,_,rfl,st.lt,λob=>?_⟩
   refine zg1 (n:=(S.atS j).to.length) (λu=>decide (h.getD (((S.atS j).to.map Prod.fst).getD u 0) 0<h.getD p 0)) (λu=>V.int ((((S.atS j).to.map Prod.fst).getD u 0:Nat):Int)) (aB rn (aB hn (by decide))) (λH4 s4=>⟨s4 _ _ (by rw [z5]),by rw [R7];exact af _⟩) (λu H4 hu s4=>⟨s4 _ _ (by rw [z5]),by rw [R7];exact hu⟩) ?_ ?_
   ·rintro u H4 x H5 hu s4 ⟨rfl,kk,vv,hkk,rfl⟩
    unfold kI at hkk
    rw [ag,aa hu] at hkk
    cases hkk
    have eg:((S.atS j).to.map Prod.fst).getD u 0=((S.atS j).to[u]).1:=by
     rw [ar,ag,aa hu]
     rfl
    have hmem:((S.atS j).to[u]).1∈S.chn.ring j:=aw.mpr ⟨_,bH hu,rfl⟩
    refine ⟨rfl,λ_ _ _ _=>?_⟩
    rw [eg]
    refine ⟨_,rfl,_,rfl,ha,_,_,_,rfl,rfl,SqT.of (s4 _ _ (by rw [z7 ltha];exact hha)),O6 (hhT.get_step (ok.lt j _ hj hmem)),_,rfl,_,_,rfl,rfl,_,rfl,decide_eq_decide.mpr (by lia),y4.refl _,λ_=>⟨_,rfl,y4.refl _,rfl⟩⟩
   ·intro Dl H4 hD s4 hl4
    have s5:=ze8 st.lt s4
    have hDl:Dl≠a.lt:=λz=>by subst z;rw [z5] at hD;cases hD
    dsimp only [p3]
    refine ⟨⟨ob,s4 _ _ z5⟩,?_⟩
    have hl5:=z7 (H:=H4) (a:=a.lt) (o:=.dK (kI (S.atS j).to)) hDl
    rw [hl4] at hl5
    generalize upd H4 a.lt (.dK (kI (S.atS j).to))=H5 at s5 hl5 ⊢
    have ch5:=h43.same s5
    have st5:=ch5.st j a _ hA hs
    have elow:((List.range (S.atS j).to.length).filter λu=>decide (h.getD (((S.atS j).to.map Prod.fst).getD u 0) 0<h.getD p 0)).length=S.chn.low j h (h.getD p 0):=yg6 (λx=>decide (h.getD x 0<h.getD p 0)) (λi=>V.int ((((S.atS j).to.map Prod.fst).getD i 0:Nat):Int)) (λi x hx=>by rw [ar,ag,hx];rfl)
    refine ⟨_,rfl,_,rfl,a.a,cS,dxs,_,_,rfl,s5 _ _ hsa,cs.cls,cs.no "line_to" (by decide),rfl,a.lt,_,rfl,st5.lt,?_⟩
    rw [R7]
    refine ⟨_,_,rfl,rfl,.inr ⟨by lia,by lia⟩,_,rfl,Dl,_,rfl,.inl (SqL.of hl5),?_⟩
    rw [ae,elow]
    refine ⟨_,_,rfl,rfl,?_⟩
    dsimp only [p3]
    have hha5:=s5 _ _ hha
    have hup:=ok.upT hj hp
    have S15:=s2.trans (s3.trans s5)
    refine ⟨_,rfl,g,cG,dx,_,_,rfl,S15 _ _ (s1 _ _ h1),cg.cls,cg.no "chain" (by decide),rfl,A.c,dxc,_,rfl,S15 _ _ (s1 _ _ hc),rfl,_,rfl,_,rfl,⟨ha,_,rfl,hha5⟩,_,rfl,ha,TM.iN h,((h.getD p 0:Nat):Int),p,rfl,rfl,SqT.of (by rw [zr1];exact hha5),xh7 (hhT.get_step hpn),λu hu c=>?_,A,S,n,j,p,a,rfl,ch5,iv,hj,hA,hp,λb hb=>?_⟩
    ·obtain ⟨y,hy,e⟩:=yl8 c
     have:=hhT.inj hy (show h[p]?=some y by rw [hhT.get_step hpn,show h.getD p 0=y by lia])
     lia
    ·refine ⟨_,rfl,b,ha,_,_,rfl,SqT.of hb,SqT.of hha5,by rw [hup.length];lia,λx hx=>by rw [hhT.length];exact hup.lt hx,λr H7 hr0' s7 hr7=>?_⟩
     refine ⟨m*(S.atS j).to.length+S.chn.low j h (h.getD p 0),r,_,some (V.ref a.a),some (V.int ((h.getD p 0:Nat):Int)),some (V.ref Dl),?_,s3.trans (s5.trans s7),hr7,hup.beh hhT,hfit',?_⟩
     ·rw [eS,fM]
      rfl
     ·rw [←hN]
      show _=m*((S.chn.ring j).length*S.chn.manyL X3)+(S.chn.low j h (t.getD j 0)*S.chn.manyL X3+S.chn.NumL X3 (TM.beh (S.chn.up j (h.idxOf (t.getD j 0))) h) t)
      rw [etp,TM.idx_get hhT hpn,rl,dF,dO,Nat.add_assoc]
      rfl
 ·rintro σ Hh ⟨m,ha,h,v4,v5,v6,rfl,s3,hha,hhT,hfit,hN⟩
  refine ⟨_,rfl,?_⟩
  rw [ae,fD] at hN
  have e2:S.chn.NumL (TM.wide S.chn (List.range n)) (List.range n) t=S.chn.NumL (List.range' 0 n) (List.range n) t:=by
   have:=ok.num_wide n 0 (List.range n) t (bo n) shut (TM.IsT.range n) hcos
   rwa [←cF] at this ⊢
  have e3:m=S.chn.NumL (List.range' 0 n) (List.range n) t:=by
   rw [←e2,←hN]
   show m=m*1+0
   lia
  rw [e3]
  exact q Hh (s1.trans (s2.trans s3))
theorem yx2:∀(x y:List Nat) (i:Nat),i<x.length->i<y.length->(∀q,q<i->x.getD q 0=y.getD q 0)->x.getD i 0<y.getD i 0->HT.lexLt (TM.iN x) (TM.iN y)=true
 | a::x,b::y,0,_,_,_,h=>by
  have h:a<b:=h
  show (if ((a:Nat):Int)=((b:Nat):Int) then _ else decide (((a:Nat):Int)<((b:Nat):Int)))=true
  rw [if_neg (by lia)]
  exact decide_eq_true (by lia)
 | a::x,b::y,i+1,hx,hy,hq,h=>by
  have e:a=b:=hq 0 (Nat.zero_lt_succ _)
  show (if ((a:Nat):Int)=((b:Nat):Int) then HT.lexLt (TM.iN x) (TM.iN y) else _)=true
  rw [if_pos (by lia)]
  exact yx2 x y i (by simpa using hx) (by simpa using hy) (λq hq'=>by have:=hq (q+1) (by lia);simpa using this) (by simpa using h)
section
variable {cG cC cB cS:Addr}{n:Nat}{H:Hp}{g:Addr}{ts:List (List Nat)}{S:ChS}
theorem u7.shut (ga:u7 cG cC cB cS n H g ts S):∀i,0<=i->i<n->S.chn.Shut n i:=λi _ hi=>ga.st.inv.shut (ga.st.done i hi)
theorem u7.many (ga:u7 cG cC cB cS n H g ts S):S.chn.manyL (List.range' 0 n)=S.chn.many n n:=TM.Chn.manyL_many n 0 (bo n)
theorem u7.nth (ga:u7 cG cC cB cS n H g ts S){k:Nat}(hk:k<S.chn.many n n){x:List Nat}(hx:S.chn.NthL (List.range' 0 n) k (List.range n) x):TM.IsT n x/\TM.Grp n (λz=>z∈ts) x/\S.chn.Cos n 0 (List.range n) x/\S.chn.NumL (List.range' 0 n) (List.range n) x=k:=by
 obtain ⟨c,e⟩:=ga.st.inv.ok.nth_num n 0 k (List.range n) x (bo n) ga.shut (TM.IsT.range n) hx
 have hT:=c.isT (ga.st.inv.ok.mvT 0) (TM.IsT.range n)
 obtain ⟨y,hy,rfl⟩:=id c
 rw [TM.beh_still (hy.isT (ga.st.inv.ok.mvT 0))] at hT c e ⊢
 exact ⟨hT,(ga.grp _).mp hy,c,by rw [e,ga.many,eM hk]⟩
theorem u7.nth_less (ga:u7 cG cC cB cS n H g ts S){k l:Nat}(hkl:k<l)(hl:l<S.chn.many n n){x y:List Nat}(hx:S.chn.NthL (List.range' 0 n) k (List.range n) x)(hy:S.chn.NthL (List.range' 0 n) l (List.range n) y):HT.lexLt (TM.iN x) (TM.iN y)=true:=by
 obtain ⟨xT,_,cx,ex⟩:=ga.nth (dW hkl hl) hx
 obtain ⟨yT,_,cy,ey⟩:=ga.nth hl hy
 obtain ⟨i,hi,h1,h2⟩:=ga.st.inv.ok.num_less n 0 (List.range n) x y (bo n) ga.shut (TM.IsT.range n) cx cy (by rw [ex,ey];exact hkl)
 exact yx2 x y i (by rw [xT.length];exact hi) (by rw [yT.length];exact hi) h1 h2
theorem u7.num_lt (ga:u7 cG cC cB cS n H g ts S){t:List Nat}(hG:TM.Grp n (λz=>z∈ts) t):S.chn.NumL (List.range' 0 n) (List.range n) t<S.chn.many n n:=by
 rw [←ga.many]
 exact ga.st.inv.ok.num_lt n 0 _ t (bo n) ga.shut (TM.IsT.range n) (ga.cos hG)
theorem u7.nth_num (ga:u7 cG cC cB cS n H g ts S){t x:List Nat}(hG:TM.Grp n (λz=>z∈ts) t)(hx:S.chn.NthL (List.range' 0 n) (S.chn.NumL (List.range' 0 n) (List.range n) t) (List.range n) x):x=t:=by
 obtain ⟨xT,_,cx,ex⟩:=ga.nth (ga.num_lt hG) hx
 exact ga.st.inv.ok.num_inj n 0 (List.range n) x t (bo n) ga.shut (TM.IsT.range n) cx (ga.cos hG) ex
theorem u7.nth_first (ga:u7 cG cC cB cS n H g ts S){x:List Nat}(hx:S.chn.NthL (List.range' 0 n) 0 (List.range n) x):x=List.range n:=by
 have hG:TM.Grp n (λz=>z∈ts) (List.range n):=.one
 have e:=ga.st.inv.ok.num_still n 0 (bo n)
 exact ga.nth_num hG (by rw [e];exact hx)
end
theorem zh1 {c:Int}{k:Nat}(hk:0<k):∃m:Nat,c % (k:Int)=(m:Int)/\m<k:=by
 have h1:=br c (show (k:Int)≠0 by lia)
 have h2:=bV c (show (0:Int)<(k:Int) by lia)
 exact ⟨(c % (k:Int)).toNat,by lia,by lia⟩
theorem G1 {lo:Int}{n:Nat}{fr:List Nat}{te:CT TE}{σ:St}{H1:Hp}{Q:Addr->Hp->Prop}(ys:List V)(hn:ys.length=n)(hz:n<=sizeLine)
  (turn:∀i H,i<n->y4 H1 H->∀C₀ s₀ H₀ fp,te C₀ s₀ H₀ fp (some (.int (lo+i))::fr.map λj=>(σ[j]?).getD none) H λy H4=>y4 H H4/\ys[i]?=some y)
  (fin:∀D H,H1 D=none->y4 H1 H->H D=some (.lst ys)->Q D H) :
  ∀D,H1 D=none->∃W:Nat->Nat->St->Hp->Prop,(∃m,W 0 m (V0 1 fr σ) (upd H1 D (.lst [])))/\∀i m σ' H',W i m σ' H' ->
  ((Itr lo n).stop i H'/\Q D H')∨((Itr lo n).go i H'/\∀x H2,(Itr lo n).yld i H' x H2->∀C₀ s₀ H₀ fp,p3 0 x σ' H2 λσ3 H3=>∃N:VK,te C₀ s₀ H₀ fp σ3 H3 N/\∀y H4,N y H4 ->
   ∃ys m',H4 D=some (.lst ys)/\ys.length<sizeLine/\m'<m/\W (i+1) m' σ3 (upd H4 D (.lst (ys++[y])))) :=
 E7 ys hn hz (λ_ _=>af n) (λi _ hi _=>hi) (λi H x H2 hi s y=>⟨y.1,by rw [y.2];exact turn i H hi s⟩) fin
theorem K7 {H:Hp}:∀(bs:List (Addr×List Nat)),(∀b∈bs,H b.1=some (.tup (tI b.2)))->Z5 H (bs.map Prod.fst) (bs.map Prod.snd)
 | [],_=>.nil
 | b::bs,h=>.cons (h b au) (K7 bs λc hc=>h c (ao _ hc))
theorem zy8 {m:Nat}{fr:List Nat}{te:CT TE}{σ:St}{H1:Hp}{Q:Addr->Hp->Prop}(Pr:List Nat->Prop)(hz:m<=sizeLine)
  (turn:∀(i:Nat) (H:Hp),i<m->y4 H1 H->∀C₀ s₀ H₀ fp,te C₀ s₀ H₀ fp (some (V.int ((0:Int)+(i:Int)))::fr.map λj=>(σ[j]?).getD none) H λv H4=>y4 H H4/\∃b:Addr×List Nat,v=.ref b.1/\(H4 b.1=some (.tup (tI b.2))/\Pr b.2)/\[b.1].Nodup/\∀a∈[b.1],H a=none/\∃o,H4 a=some o)
  (fin:∀(D:Addr) (H:Hp) (as:List Addr) (us:List (List Nat)),H1 D=none->y4 H1 H->H D=some (.lst (as.map V.ref))->Z5 H as us->us.length=m->(∀u∈us,Pr u)->Q D H) :
  ∀D,H1 D=none->∃W:Nat->Nat->St->Hp->Prop,(∃m,W 0 m (V0 1 fr σ) (upd H1 D (.lst [])))/\∀i m' σ' H',W i m' σ' H'->((Itr 0 m).stop i H'/\Q D H')∨((Itr 0 m).go i H'/\∀x H2,(Itr 0 m).yld i H' x H2->∀C₀ s₀ H₀ fp,p3 0 x σ' H2 λσ3 H3=>∃N:VK,te C₀ s₀ H₀ fp σ3 H3 N/\∀y H4,N y H4 ->
   ∃ys m'',H4 D=some (.lst ys)/\ys.length<sizeLine/\m''<m'/\W (i+1) m'' σ3 (upd H4 D (.lst (ys++[y])))):=by
 refine A6 (J:=Itr 0 m) (Prod.fst:Addr×List Nat->Addr) (λb=>[b.1]) (λH _ b=>H b.1=some (.tup (tI b.2))/\Pr b.2) (n:=m) hz (λH3 H4 D' xs i b hb hD fr hn'=>⟨fr _ _ (λz=>hn' (by rw [ah.mp z];simp)) hb.1,hb.2⟩) (λ_ _=>af _) (λi _ hi _=>hi) ?_ ?_
 ·rintro i Hx v Hy hi sx ⟨rfl,rfl⟩
  exact ⟨rfl,turn i _ hi sx⟩
 ·intro D' H3 bs hD s3 hl3 hbl hR _ _
  have hR':∀b∈bs,H3 b.1=some (.tup (tI b.2))/\Pr b.2:=λb hb=>by
   obtain ⟨i,hi,e⟩:=aY.mp hb
   exact hR i b (by rw [aa hi,e])
  refine fin D' H3 (bs.map Prod.fst) (bs.map Prod.snd) hD s3 (by rw [bC];exact hl3) (K7 bs λb hb=>(hR' b hb).1) (by rw [ae];exact hbl) λu hu=>?_
  obtain ⟨b,hb,rfl⟩:=aw.mp hu
  exact (hR' b hb).2
theorem zj4 {m:Nat}{fr:List Nat}{te:CT TE}{σ:St}{H1:Hp}{Q:Addr->Hp->Prop}(Pr:Nat->List Nat->Prop)(hz:m<=sizeLine)
  (turn:∀(i:Nat) (H:Hp),i<m->y4 H1 H->∀C₀ s₀ H₀ fp,te C₀ s₀ H₀ fp (some (V.int ((0:Int)+(i:Int)))::fr.map λj=>(σ[j]?).getD none) H λv H4=>y4 H H4/\∃b:Addr×List Nat,v=.ref b.1/\(H4 b.1=some (.tup (tI b.2))/\Pr i b.2)/\([]:List Addr).Nodup/\∀a∈([]:List Addr),H a=none/\∃o,H4 a=some o)
  (fin:∀(D:Addr) (H:Hp) (as:List Addr) (us:List (List Nat)),H1 D=none->y4 H1 H->H D=some (.lst (as.map V.ref))->Z5 H as us->us.length=m->(∀i u,us[i]?=some u->Pr i u)->Q D H) :
  ∀D,H1 D=none->∃W:Nat->Nat->St->Hp->Prop,(∃m,W 0 m (V0 1 fr σ) (upd H1 D (.lst [])))/\∀i m' σ' H',W i m' σ' H'->((Itr 0 m).stop i H'/\Q D H')∨((Itr 0 m).go i H'/\∀x H2,(Itr 0 m).yld i H' x H2->∀C₀ s₀ H₀ fp,p3 0 x σ' H2 λσ3 H3=>∃N:VK,te C₀ s₀ H₀ fp σ3 H3 N/\∀y H4,N y H4 ->
   ∃ys m'',H4 D=some (.lst ys)/\ys.length<sizeLine/\m''<m'/\W (i+1) m'' σ3 (upd H4 D (.lst (ys++[y])))):=by
 refine A6 (J:=Itr 0 m) (Prod.fst:Addr×List Nat->Addr) (λ_=>[]) (λH i b=>H b.1=some (.tup (tI b.2))/\Pr i b.2) (n:=m) hz (λH3 H4 D' xs i b hb hD fr _=>⟨fr _ _ (λz=>?_) hb.1,hb.2⟩) (λ_ _=>af _) (λi _ hi _=>hi) ?_ ?_
 ·rw [ah.mp z,hD] at hb
  cases hb.1
 ·rintro i Hx v Hy hi sx ⟨rfl,rfl⟩
  exact ⟨rfl,turn i _ hi sx⟩
 ·intro D' H3 bs hD s3 hl3 hbl hR _ _
  have hR':∀b∈bs,H3 b.1=some (.tup (tI b.2)):=λb hb=>by
   obtain ⟨i,hi,e⟩:=aY.mp hb
   exact (hR i b (by rw [aa hi,e])).1
  refine fin D' H3 (bs.map Prod.fst) (bs.map Prod.snd) hD s3 (by rw [bC];exact hl3) (K7 bs hR') (by rw [ae];exact hbl) λi u hu=>?_
  rw [ag] at hu
  cases e:bs[i]? with
  | none=>rw [e] at hu;cases hu
  | some b=>rw [e] at hu;cases hu;exact (hR i b e).2
def Y3 (t:List Nat):PyData:=.tuple ((t.map λ(x:Nat)=>(x:Int)).map PyData.int)
theorem L6 {K:W.Frag}{H:Hp}{b:Addr}{t:List Nat}(e:H b=some (.tup (tI t))):RdD K H (.ref b) (Y3 t):=.tup (SqT.of (by rw [←yo3];exact e)) (J7.ints _)
theorem yd2 {K:W.Frag}{H:Hp}{as:List Addr}{ts:List (List Nat)}(h:Z5 H as ts):J7 K H (as.map V.ref) (ts.map Y3):=by
 induction h with
 | nil=>exact .nil
 | cons f _ ih=>exact .cons (L6 f) ih
theorem ya0 (ns:List Int):PyData.canLayAll0 (ns.map PyData.int)=true/\PyData.depthAll (ns.map PyData.int)<=1:=by
 induction ns with
 | nil=>simp [PyData.canLayAll0,PyData.depthAll]
 | cons n r ih =>
  obtain ⟨h1,h2⟩:=ih
  refine ⟨by simp [PyData.canLayAll0,PyData.canLay0,h1],?_⟩
  simp only [aR,PyData.depthAll,PyData.depth]
  lia
theorem yz5 (ts:List (List Nat)):PyData.canLayAll0 (ts.map Y3)=true/\PyData.depthAll (ts.map Y3)<=2:=by
 induction ts with
 | nil=>simp [PyData.canLayAll0,PyData.depthAll]
 | cons t r ih =>
  obtain ⟨h1,h2⟩:=ih
  obtain ⟨h3,h4⟩:=ya0 (t.map λ(x:Nat)=>(x:Int))
  refine ⟨by simp only [aR,PyData.canLayAll0,Y3,PyData.canLay0,h1,h3];rfl,?_⟩
  simp only [aR,PyData.depthAll,Y3,PyData.depth]
  lia
theorem zg7 (ts:List (List Nat)):PyData.eqv (.list (ts.map Y3)) (.list (ts.map Y3))=true/\PySem.SeqAt.shaped (.list (ts.map Y3))=true:=by
 obtain ⟨h1,h2⟩:=yz5 ts
 have h3:(PyData.list (ts.map Y3)).canLay0=true:=by simp only [PyData.canLay0];exact h1
 refine ⟨PySem.SeqAt.eqv_refl _ h3,?_⟩
 unfold PySem.SeqAt.shaped
 rw [bN]
 refine ⟨h3,decide_eq_true ?_⟩
 simp only [PyData.depth]
 lia
theorem K5 (t:List Nat):PyData.eqv (Y3 t) (Y3 t)=true/\PySem.SeqAt.shaped (Y3 t)=true:=by
 obtain ⟨h1,h2⟩:=ya0 (t.map λ(x:Nat)=>(x:Int))
 have h3:(Y3 t).canLay0=true:=by unfold Y3;simp only [PyData.canLay0];exact h1
 refine ⟨PySem.SeqAt.eqv_refl _ h3,?_⟩
 unfold PySem.SeqAt.shaped
 rw [bN]
 refine ⟨h3,decide_eq_true ?_⟩
 unfold Y3
 simp only [PyData.depth]
 lia
theorem zj3:∀{t u:List Nat},(t.map λ(x:Nat)=>(x:Int))=(u.map λ(x:Nat)=>(x:Int))->t=u
 | [],[],_=>rfl
 | x::t,y::u,h=>by
  rw [aR,aR] at h
  obtain ⟨h1,h2⟩:=List.cons.inj h
  rw [zj3 h2,show x=y by lia]
 | [],_::_,h=>by cases h
 | _::_,[],h=>by cases h
theorem xd0 (t u:List Nat):PyData.eqv (Y3 t) (Y3 u)=decide (t=u):=by
 unfold Y3
 rw [PyData.eqv,G2]
 exact decide_eq_decide.mpr ⟨zj3,λh=>by rw [h]⟩
def T6 (X cG cC cB cS:Addr):Sp:=λvs H Q E=>∃(g:Addr) (n:Nat) (ts:List (List Nat)) (S:ChS),vs=[.ref g]/\u7 cG cC cB cS n H g ts S/\(S.chn.many n n<=1000->∀(l:Addr) (as:List Addr) (us:List (List Nat)) (H':Hp),H l=none->y4 H H'->H' l=some (.lst (as.map V.ref))->Z5 H' as us->us.length=S.chn.many n n->(∀i u,us[i]?=some u->S.chn.NthL (List.range' 0 n) i (List.range n) u)->Q (.ref l) H')/\(1000<S.chn.many n n->∀H':Hp,y4 H H'->E (.ref X) none H')
theorem zh6:v1 ["self"] ["self"] (y6 P6):=scq
theorem zh4 {X TE cG cC cB cS:Addr}(F:Fun K "listed" "Group.listed" P6 f fd) (B:Blt mg) (cg:h8 K cG U8) (MS:Z1 P w K mg base 2 cG "size" ["self"] (zc8 cG cC cB cS)) (MN:Z1 P w K mg base 3 cG "nth" ["self","k"] (yn7 cG cC cB cS)) (GL:zg8 mg "MOST_LISTED" (.int 1000)) (EA:yt4 K mg TE "TooMany" X):p6 P w K mg base (CX1 P w) 4 f fd ["self"] (T6 X cG cC cB cS):=by
 refine F.okX zh6 (λvs H Q E h=>?_) (λcdv Ar outer sh H vs Q E hr h=>?_)
 ·obtain ⟨g,n,ts,S,rfl,_⟩:=h
  rfl
 obtain ⟨g,n,ts,S,rfl,ga,q,qx⟩:=h
 obtain ⟨dx,ma,A,mas,h1,h2,h3,h4⟩:=ga.at'
 refine ⟨_,z6 (k8 (o4 ym2 (W6 cg.cls MS hr (pv 0)) (zb7 GL rfl) (p7 _)) (z9 (yy9 EA.m EA.c PySem.F.excBase_ValueError rfl rfl (z0 zm3 z4))) u8)
  (z9 (v7 (f9 [0] ["k","self"] rfl (X1 rfl B.range (z0 (W6 cg.cls MS hr (pv 0)) z4)) (λ_ _ _ _=>c5 cg.cls MN hr (pv 1) (z0 (pv 0) z4))))),?_⟩
 refine ⟨_,rfl,g,dx,_,rfl,h1,rfl,g,n,ts,S,rfl,ga,_,_,rfl,rfl,_,rfl,?_⟩
 rcases dA 1000 (S.chn.many n n) with hm|hm
 ·rw [decide_eq_true (show (1000:Int)<((S.chn.many n n:Nat):Int) by lia)]
  exact b6 ⟨by decide,qx hm H (y4.refl H)⟩
 rw [decide_eq_false (show ¬(1000:Int)<((S.chn.many n n:Nat):Int) by lia)]
 refine k9 ⟨_,rfl,g,dx,_,rfl,h1,rfl,g,n,ts,S,rfl,ga,_,rfl,(by lia),(by lia),?_⟩
 have em:(((S.chn.many n n:Nat):Int)).toNat=S.chn.many n n:=dB _
 refine zj4 (m:=(((S.chn.many n n:Nat):Int)).toNat) (λi u=>S.chn.NthL (List.range' 0 n) i (List.range n) u) (by rw [em];exact aB hm (by decide)) ?_ ?_
 ·intro i H2 hi s2 _ _ _ _
  rw [em] at hi
  rw [show (0:Int)+(i:Int)=(i:Int) by lia]
  refine ⟨_,rfl,g,dx,_,rfl,s2 _ _ h1,rfl,_,rfl,g,n,i,ts,S,rfl,ga.same s2,hi,λr x H5 s5 hr5 hx=>⟨s5,(r,x),rfl,⟨hr5,hx⟩,cH,λa ha=>(by cases ha)⟩⟩
 ·intro l H2 as us hl0 s2 hl2 ht2 hul hu2
  rw [em] at hul
  exact q hm l as us H2 hl0 s2 hl2 ht2 hul hu2
theorem yb1 {P:Program}{w:World}{K:W.Frag}{mg:Str->Option Value}{base:Heap}{X cG cC cB cS:Addr}(k:xc2 P w K mg base 4 cG "listed" ["self"] (T6 X cG cC cB cS)):Z1 P w K mg base 4 cG "listed" ["self"] (λvs H Q _=>T6 X cG cC cB cS vs H Q E0):=by
 obtain ⟨f,fd,F,r⟩:=k
 exact ⟨f,fd,F.calm,r⟩
def P9 (K:W.Frag):Sp:=λvs H Q _=>∃(a:Addr) (ns:List Int) (k:Nat),vs=[.ref a,.int k]/\SqL K H a (ns.map V.int)/\Q (.int (ns.getD k 0)) H
theorem zx0:v1 ["_law_script","_law_k"] ["_law_script","_law_k"] (y6 F7):=scq
theorem zu9 (D:Def K mg "_law_cell" F7 ["_law_script","_law_k"] f fd) (B:Blt mg):p6 P w K mg base CX0 1 f fd ["_law_script","_law_k"] (P9 K):=by
 refine D.F.ok zx0 (λvs H Q E h=>?_) (λcdv A outer s H vs Q E hr h=>?_)
 ·obtain ⟨a,ns,k,rfl,_⟩:=h
  rfl
 obtain ⟨a,ns,k,rfl,hS,q⟩:=h
 refine ⟨_,z6 (k8 (o4 ym3 (pv 1) (v8 u6 rfl B.len g7 (z0 (pv 0) z4)) (p7 _)) (z9 (v7 (l9 p8 (pv 0) (pv 1) (λ_ _=>rfl)))) u8) (z9 (v7 z8)),?_⟩
 refine ⟨_,rfl,_,rfl,a,_,rfl,.inl hS,_,_,rfl,rfl,_,rfl,?_⟩
 refine yw4 (λc=>?_) (λc=>?_)
 ·have c':(k:Int)<(((ns.map V.int).length:Nat):Int):=of_decide_eq_true c
  rw [ae] at c'
  have hk:k<ns.length:=by omega
  have e:ns.getD k 0=ns[k]:=by rw [ar,aa hk];rfl
  rw [e] at q
  exact ⟨_,rfl,_,rfl,a,_,_,_,rfl,rfl,hS,i4 (by rw [ag,aa hk];rfl),q⟩
 ·have c':¬(k:Int)<(((ns.map V.int).length:Nat):Int):=of_decide_eq_false (cE.mpr c)
  rw [ae] at c'
  have e:ns.getD k 0=0:=by rw [ar,aU (by omega)];rfl
  rw [e] at q
  exact q
def zd2:Sp:=λvs H Q _=>∃i:Int,vs=[.int i]/\Q (.bl true) H
theorem zp6:v1 ["_law_found"] ["_law_found"] (y6 K2):=scq
theorem zp0 (D:Def K mg "_law_whole" K2 ["_law_found"] f fd) (B:Blt mg):p6 P w K mg base CX0 1 f fd ["_law_found"] zd2:=by
 refine D.F.ok zp6 (λvs H Q E h=>?_) (λcdv A outer s H vs Q E hr h=>?_)
 ·obtain ⟨i,rfl,_⟩:=h
  rfl
 obtain ⟨i,rfl,q⟩:=h
 refine ⟨_,z9 (v7 (L3 (v8 Z2 rfl B.isinstance i5 (z0 (pv 0) (z0 (O4 (v:=.ty "int") rfl B.int yu1 rfl) z4)))
  (G7 (yy8 (v8 Z2 rfl B.isinstance i5 (z0 (pv 0) (z0 (O4 (v:=.ty "bool") rfl B.bool yk7 rfl) z4))))))),?_⟩
 refine ⟨_,rfl,_,_,_,_,rfl,M7.int i,M8 yh2,_,rfl,b6 ?_⟩
 exact ⟨_,rfl,_,_,_,_,rfl,M7.int i,M8 ya4,_,rfl,q⟩
def zs2 (K:W.Frag):Sp:=λvs H Q _=>∃(a b:Addr) (one other:List Nat),vs=[.ref a,.ref b]/\SqT K H a (tI one)/\SqT K H b (tI other)/\one.length<=1000/\(∀x∈one,x<other.length) /\
 ∀(r:Addr) (H':Hp),H r=none->y4 H H'->H' r=some (.tup (tI (one.map λx=>other.getD x 0)))->Q (.ref r) H'
theorem zn1:v1 ["_law_one","_law_other"] ["_law_one","_law_other"] (y6 N3):=scq
theorem zl8 (D:Def K mg "_law_behind" N3 ["_law_one","_law_other"] f fd) (B:Blt mg):p6 P w K mg base CX0 1 f fd ["_law_one","_law_other"] (zs2 K):=by
 refine D.F.ok zn1 (λvs H Q E h=>?_) (λcdv A outer s H vs Q E hr h=>?_)
 ·obtain ⟨a,b,one,other,rfl,_⟩:=h
  rfl
 obtain ⟨a,b,one,other,rfl,ha,hb,hl,hlt,q⟩:=h
 refine ⟨_,z9 (v7 (v9 c9 rfl B.tuple Z6 (z0 (f9 [1] ["_law_x","_law_other"] rfl (zw1 (pv 0)) (λ_ _ _ _=>l9 N0 (pv 1) (pv 0) (λ_ _=>rfl))) z4))),?_⟩
 refine ⟨_,rfl,a,rfl,⟨_,ha⟩,A7 ha (tI (one.map λx=>other.getD x 0)) (by rw [u5,u5,ae]) (by rw [u5];exact small hl) ?_ ?_⟩
 ·intro i H1 x hx s1 _ _ _ _
  obtain ⟨p,hp,rfl⟩:=D6 hx
  have hpl:p<other.length:=hlt p (ax hp)
  have hg:other[p]?=some other[p]:=aa hpl
  refine ⟨_,rfl,_,rfl,b,_,_,_,rfl,rfl,s1.seqT hb,O6 hg,y4.refl _,?_⟩
  rw [zx8,ag,hp]
  simp [ar,hg]
 ·intro Dl H1 hD s1 hl1
  exact ⟨Dl,_,rfl,.inl ⟨SqL.of hl1,λl hl2=>q l _ (s1.free hl2) (p0 s1 (s1.free hl2) _) z5⟩⟩
def R6:Sp:=λvs H Q _=>∃(c:Int) (n:Nat),vs=[.int c,.int n]/\n<=100/\∀(r:Addr) (H':Hp) (row:List Nat),H r=none->y4 H H'->TM.IsT n row->H' r=some (.tup (tI row))->Q (.ref r) H'
theorem n5:v1 ["_law_cell_here","_law_many","_law_whole_here","_law_k","_law_left","_law_found"] ["_law_cell_here","_law_many"] (y6 P7):=scq
theorem zh5 (D:Def K mg "_law_turning" P7 ["_law_cell_here","_law_many"] f fd) (B:Blt mg):p6 P w K mg base CX0 1 f fd ["_law_cell_here","_law_many"] R6:=by
 refine D.F.ok n5 (λvs H Q E h=>?_) (λcdv A outer s H vs Q E hr h=>?_)
 ·obtain ⟨c,n,rfl,_⟩:=h
  rfl
 obtain ⟨c,n,rfl,hn,q⟩:=h
 refine ⟨_,z6 (y9 (i:=2) n5.nd rfl (Or.inl rfl) z8)
  (z6 (W7 PassesOwn.never rfl (yr7 rfl B.range (z0 z8 (z0 (v0 i9 (pv 1) z8) z4))) (m7 (i:=3) n5.nd rfl (Or.inl rfl))
   (z9 (y9 (i:=2) n5.nd rfl (Or.inl rfl) (v0 P4 (pv 2) (pv 3)))))
  (z6 (y9 (i:=0) n5.nd rfl (Or.inl rfl) (v0 l4 (pv 0) (pv 2)))
  (z6 (y9 (i:=4) n5.nd rfl (Or.inl rfl) (v9 (c8 rfl) rfl B.list Y7 (z0 (v9 Y8 rfl B.range X9 (z0 (pv 1) z4)) z4)))
  (z6 (y9 (i:=5) n5.nd rfl (Or.inl rfl) (b9 z4))
  (z6 (W7 PassesOwn.never rfl (yr9 rfl B.range (z0 (pv 1) (z0 z8 (z0 (xi1 xb7 z8) z4)))) (m7 (i:=3) n5.nd rfl (Or.inl rfl))
   (z6 (h9 (J1 PySem.F.plainAttrs_list PySem.F.slot_list_append PySem.F.type_list_append b8 (pv 5) (z0 (J1 PySem.F.plainAttrs_list PySem.F.slot_list_pop PySem.F.type_list_pop yx8 (pv 4) (z0 (v0 l4 (pv 0) (pv 3)) z4)) z4)))
   (z9 (y9 (i:=0) n5.nd rfl (Or.inl rfl) (v0 W0 (pv 0) (pv 3))))))
  (z9 (v7 (v9 c9 rfl B.tuple Z6 (z0 (pv 5) z4))))))))),?_⟩
 refine ⟨_,rfl,_,_,rfl,rfl,2,_,rfl,⟨by decide,by decide,by lia,by lia⟩,ze1 (lo:=2) (n:=((n:Int)+1-2).toNat) (λi σ H2=>∃(z:Int) (v3:Option V),σ=[some (.int c),some (.int n),some (.int z),v3,none,none]/\H2=H/\0<z)
  ⟨1,none,rfl,rfl,by decide⟩ ?_ ?_⟩
 ·rintro i σ H2 hi ⟨z,v3,rfl,rfl,hz⟩
  refine ⟨_,rfl,_,rfl,_,_,rfl,rfl,.inr ⟨by lia,by lia⟩,z*(2+(i:Int)),_,rfl,rfl,?_⟩
  exact Int.mul_pos hz (by lia)
 rintro σ H2 ⟨z,v3,rfl,rfl,hz⟩
 refine ⟨_,rfl,_,rfl,_,_,rfl,rfl,hz,?_⟩
 dsimp only
 generalize c % z=num
 refine ⟨_,rfl,_,rfl,λp hp=>⟨p,0,(n:Int),rfl,z5,⟨by lia,by lia,by lia,by lia,by lia⟩,λl hl=>?_⟩⟩
 rw [show ((n:Int)-0).toNat=n by lia,U3]
 refine ⟨(by show 0<=sizeLine;decide),λr hr'=>?_⟩
 have pl:p≠l:=y0 z5 hl
 have lr:l≠r:=y0 z5 hr'
 have hl0:H2 l=none:=by
  have:=hl
  rwa [z7 (Ne.symm pl)] at this
 have hr0:H2 r=none:=by
  have h1:=hr'
  have pr:p≠r:=by
   intro e
   subst e
   rw [z7 pl,z5] at h1
   cases h1
  rwa [z7 (Ne.symm lr),z7 (Ne.symm pr)] at h1
 have s0:y4 H2 (upd (upd (upd H2 p (.rng 0 (n:Int))) l (.lst (tI (List.range n)))) r (.lst [])):=p0 (p0 (y8 hp _) hl0 _) hr0 _
 refine ⟨_,rfl,_,rfl,(n:Int),0,rfl,⟨by lia,by lia,by lia,by lia⟩,yg9 (lo:=(n:Int)) (n:=((n:Int)-0).toNat) (λi σ H3=>∃(nu:Int) (row left:List Nat) (v3:Option V),σ=[some (.int nu),some (.int n),some (.int z),v3,some (.ref l),some (.ref r)]/\y4 H2 H3/\H3 l=some (.lst (tI left))/\H3 r=some (.lst (tI row))/\TM.IsT n (row++left)/\left.length+i=n)
  ⟨num,[],List.range n,v3,rfl,s0,by rw [z7 lr,z5],z5,TM.IsT.range n,by rw [aA];rfl⟩ ?_ ?_⟩
 ·rintro i σ H3 hi ⟨nu,row,left,v3,rfl,s2,hl2,hr2,hT,hlen⟩
  have hi':i<n:=by lia
  have hsz:(0:Int)<(n:Int)-(i:Int):=by lia
  have e1:∃k:Nat,nu % ((n:Int)-(i:Int))=(k:Int)/\k<left.length:=by
   have h1:=br nu (show (n:Int)-(i:Int)≠0 by lia)
   have h2:=bV nu hsz
   exact ⟨(nu % ((n:Int)-(i:Int))).toNat,by lia,by lia⟩
  obtain ⟨k,ek,hk⟩:=e1
  have hx:left[k]?=some left[k]:=aa hk
  have hrl:row.length<=n:=by
   have:=hT.length
   rw [aq] at this
   lia
  refine ⟨_,rfl,.inl ⟨rfl,_,SqL.of hr2⟩,_,rfl,.inl ⟨rfl,_,SqL.of hl2⟩,_,rfl,_,rfl,_,_,rfl,rfl,hsz,l,_,_,k,V.int (left[k]:Int),rfl,rfl,hl2,?_,?_,?_,xi5 hx,r,tI row,_,rfl,rfl,?_,?_,?_⟩
  ·show -(2 ^ 63)<=nu % ((n:Int)-(i:Int))
   rw [ek];lia
  ·show nu % ((n:Int)-(i:Int))<2 ^ 63
   rw [ek];lia
  ·show seqIndex? (nu % ((n:Int)-(i:Int))) (tI left).length=some k
   rw [ek,u5]
   exact xg2 hk
  ·rw [z7 (Ne.symm lr)]
   exact hr2
  ·rw [u5]
   exact zr8 (by lia)
  ·refine ⟨_,rfl,_,rfl,_,_,rfl,rfl,⟨hsz,by lia⟩,?_⟩
   refine ⟨_,row++[left[k]],left.eraseIdx k,_,rfl,p0 (p0 s2 hl0 _) hr0 _,?_,?_,TM.draw_perm hT hx,?_⟩
   ·rw [z7 lr,z5,ye7]
   ·rw [z5,zf4]
    rfl
   ·rw [List.length_eraseIdx_of_lt hk]
    lia
 ·rintro σ H3 ⟨nu,row,left,v3,rfl,s2,hl2,hr2,hT,hlen⟩
  have e:left=[]:=bL.mp (by lia)
  subst e
  rw [ca] at hT
  exact ⟨_,rfl,r,tI row,rfl,.inl ⟨SqL.of hr2,λtp htp=>q tp _ row (s2.free htp) (s2.trans (y8 htp _)) hT z5⟩⟩
def ye5:Sp:=λvs H Q _=>∃c:Int,vs=[.int c]/\∀z:Int,Q (.int z) H
theorem X5:v1 ["_law_cell_here","_law_number","_law_found","_law_turn"] ["_law_cell_here"] (y6 E2):=scq
theorem zv2 (D:Def K mg "_law_spun" E2 ["_law_cell_here"] f fd) (B:Blt mg):p6 P w K mg base CX0 1 f fd ["_law_cell_here"] ye5:=by
 refine D.F.ok X5 (λvs H Q E h=>?_) (λcdv A outer s H vs Q E hr h=>?_)
 ·obtain ⟨c,rfl,_⟩:=h
  rfl
 obtain ⟨c,rfl,q⟩:=h
 refine ⟨_,z6 (y9 (i:=1) X5.nd rfl (Or.inl rfl) (v0 l4 (v0 P4 (v0 i9 (v0 l4 (pv 0) z8) z8) z8) z8))
  (z6 (y9 (i:=2) X5.nd rfl (Or.inl rfl) z8)
  (z6 (W7 PassesOwn.never rfl (X1 rfl B.range (z0 z8 z4)) (m7 (i:=3) X5.nd rfl (Or.inl rfl))
   (z6 (y9 (i:=1) X5.nd rfl (Or.inl rfl) (v0 l4 (v0 i9 (v0 i9 (v0 P4 (pv 1) z8) (v0 P4 z8 (pv 3))) z8) z8))
   (z9 (y9 (i:=2) X5.nd rfl (Or.inl rfl) (v0 i9 (v0 P4 (pv 2) z8) (pv 1))))))
  (z9 (v7 (pv 2))))),?_⟩
 refine ⟨_,rfl,_,_,rfl,rfl,(by show (0:Int)<2147483629;decide),_,_,rfl,rfl,_,_,rfl,rfl,.inr ⟨by decide,by decide⟩,_,_,rfl,rfl,(by show (0:Int)<2147483647;decide),?_⟩
 refine ⟨9,rfl,by decide,by decide,ze1 (lo:=0) (n:=((9:Int)).toNat) (λi σ H2=>∃(a b:Int) (v3:Option V),σ=[some (.int c),some (.int a),some (.int b),v3]/\H2=H)
  ⟨_,_,none,rfl,rfl⟩ ?_ ?_⟩
 ·rintro i σ H2 hi ⟨a,b,v3,rfl,rfl⟩
  refine ⟨_,rfl,_,_,rfl,rfl,.inr ⟨by decide,by decide⟩,_,rfl,_,_,rfl,rfl,.inl ⟨by decide,by decide⟩,_,_,rfl,rfl,_,_,rfl,rfl,_,_,rfl,rfl,(by show (0:Int)<2147483647;decide),?_⟩
  exact ⟨_,rfl,_,_,rfl,rfl,.inr ⟨by decide,by decide⟩,_,rfl,_,_,rfl,rfl,_,_,_,rfl,rfl⟩
 ·rintro σ H2 ⟨a,b,v3,rfl,rfl⟩
  exact ⟨_,rfl,q b⟩
def T7:Sp:=λvs H Q _=>∃(c:Int) (n k:Nat),vs=[.int c,.int n,.int k]/\n<=60/\∀(r:Addr) (H':Hp) (W:List Nat),H r=none->y4 H H'->W.Nodup->(∀x∈W,x<n)->W.length=min k n->H' r=some (.lst (tI W))->Q (.ref r) H'
theorem zn2:v1 ["_law_cell_here","_law_many","_law_size"] ["_law_cell_here","_law_many","_law_size"] (y6 N6):=scq
theorem xc7 (t:List Nat)(k:Nat):A8 (tI t) none (some ((k:Nat):Int))=tI (t.take k):=by
 unfold A8 tI
 rw [HT.sIx_none,HT.sIx_nat,dv,dI,fc]
 by_cases h:k<=(t.map λ(x:Nat)=>V.int x).length
 ·rw [eA h]
 ·rw [Nat.min_eq_right (by lia),bz,bF (by lia)]
theorem zm1 (D:Def K mg "_law_window" N6 ["_law_cell_here","_law_many","_law_size"] f fd) (B:Blt mg) (KT:r8 P w K mg base 1 "_law_turning" ["_law_cell_here","_law_many"] R6) (KS:r8 P w K mg base 1 "_law_spun" ["_law_cell_here"] ye5):p6 P w K mg base CX0 2 f fd ["_law_cell_here","_law_many","_law_size"] T7:=by
 refine D.F.ok zn2 (λvs H Q E h=>?_) (λcdv A outer s H vs Q E hr h=>?_)
 ·obtain ⟨c,n,k,rfl,_⟩:=h
  rfl
 obtain ⟨c,n,k,rfl,hn,q⟩:=h
 refine ⟨_,z9 (v7 (G8 zc7 (v9 Q5 rfl B.list Y7 (z0 (u4 KT hr rfl (z0 (u4 KS hr rfl (z0 (pv 0) z4)) (z0 (pv 1) z4))) z4)) zw3 (L5 (pv 2)))),?_⟩
 refine ⟨_,rfl,c,rfl,λz=>⟨_,rfl,z,n,rfl,by lia,λr H1 row hr0 s1 hT hr1=>?_⟩⟩
 refine ⟨r,_,rfl,.inr (SqT.of hr1),λl hl=>?_⟩
 have s2:=y8 hl (.lst (tI row))
 have e2:(upd H1 l (.lst (tI row))) l=some (.lst (tI row)):=z5
 generalize upd H1 l (.lst (tI row))=H2 at s2 e2 ⊢
 refine ⟨_,rfl,_,rfl,l,_,rfl,SqL.of e2,λl2 hl2=>?_⟩
 rw [xc7]
 have s12:=s1.trans s2
 exact q l2 _ (row.take k) (s12.free hl2) (s12.trans (y8 hl2 _)) (List.Nodup.sublist (bB _ _) hT.nodup) (λx hx=>hT.lt (bh hx)) (by rw [aT,hT.length]) z5
def W9:Sp:=λvs H Q _=>∃(pa wa:Addr) (n:Nat) (row W:List Nat),vs=[.ref pa,.ref wa,.int n]/\(H pa=some (.lst (tI row))∨H pa=some (.tup (tI row)))/\H wa=some (.lst (tI W))/\TM.IsT row.length row/\row.length<=W.length/\W.Nodup/\(∀x∈W,x<n)/\n<=60/\∀(r:Addr) (H':Hp) (t:List Nat),H r=none->y4 H H'->TM.IsT n t->TM.Sprd n (W.take row.length) row row.length t->H' r=some (.tup (tI t))->Q (.ref r) H'
theorem P8:v1 ["_law_part","_law_window_here","_law_many","_law_found","_law_k"] ["_law_part","_law_window_here","_law_many"] (y6 N5):=scq
theorem zm0 (D:Def K mg "_law_spread" N5 ["_law_part","_law_window_here","_law_many"] f fd) (B:Blt mg):p6 P w K mg base CX0 1 f fd ["_law_part","_law_window_here","_law_many"] W9:=by
 refine D.F.ok P8 (λvs H Q E h=>?_) (λcdv A outer s H vs Q E hr h=>?_)
 ·obtain ⟨pa,wa,n,row,W,rfl,_⟩:=h
  rfl
 obtain ⟨pa,wa,n,row,W,rfl,hpa,hwa,hrow,hle,hW,hlt,hn,q⟩:=h
 refine ⟨_,z6 (y9 (i:=3) P8.nd rfl (Or.inl rfl) (v9 (c8 rfl) rfl B.list Y7 (z0 (v9 Y8 rfl B.range X9 (z0 (pv 2) z4)) z4)))
  (z6 (W7 PassesOwn.never rfl (X1 rfl B.range (z0 (v8 u6 rfl B.len g7 (z0 (pv 0) z4)) z4)) (m7 (i:=4) P8.nd rfl (Or.inl rfl))
   (z9 (zw5 (l9 p8 (pv 1) (l9 xk3 (pv 0) (pv 4) (λ_ _=>rfl)) (λ_ _=>rfl)) (zv9 (pv 3) (l9 p8 (pv 1) (pv 4) (λ_ _=>rfl)) zc6))))
  (z9 (v7 (v9 c9 rfl B.tuple Z6 (z0 (pv 3) z4))))),?_⟩
 refine ⟨_,rfl,_,rfl,λp hp=>⟨p,0,(n:Int),rfl,z5,⟨by lia,by lia,by lia,by lia,by lia⟩,λl hl=>?_⟩⟩
 rw [show ((n:Int)-0).toNat=n by lia,U3]
 have pl:p≠l:=y0 z5 hl
 have hl0:H l=none:=by
  have:=hl
  rwa [z7 (Ne.symm pl)] at this
 have s1:y4 H (upd (upd H p (.rng 0 (n:Int))) l (.lst (tI (List.range n)))):=p0 (y8 hp _) hl0 _
 have el:(upd (upd H p (.rng 0 (n:Int))) l (.lst (tI (List.range n)))) l=some (.lst (tI (List.range n))):=z5
 generalize upd (upd H p (.rng 0 (n:Int))) l (.lst (tI (List.range n)))=H1 at s1 el ⊢
 have hSq:∀H3:Hp,y4 H H3->SqL K H3 pa (tI row)∨SqT K H3 pa (tI row):=λH3 s3=>hpa.elim (λe=>.inl (SqL.of (s3 _ _ e))) λe=>.inr (SqT.of (s3 _ _ e))
 have hWl:W.length<=n:=by
  have:=TM.nodup_below hW hlt
  exact this
 have hWt:(W.take row.length).Nodup:=List.Nodup.sublist (bB _ _) hW
 have hWlt:∀x∈W.take row.length,x<n:=λx hx=>hlt x (bh hx)
 have hTl:(W.take row.length).length=row.length:=by rw [aT];lia
 refine ⟨_,rfl,pa,_,rfl,hSq _ s1,?_⟩
 rw [u5]
 refine ⟨_,rfl,by lia,by lia,ze1 (lo:=0) (n:=((row.length:Nat):Int).toNat) (λi σ H3=>∃(g:List Nat) (v4:Option V),σ=[some (.ref pa),some (.ref wa),some (.int n),some (.ref l),v4]/\y4 H H3/\H3 l=some (.lst (tI g))/\TM.Sprd n (W.take row.length) row i g)
  ⟨List.range n,none,rfl,s1,el,TM.Sprd.start⟩ ?_ ?_⟩
 ·rintro i σ H3 hi ⟨g,v4,rfl,s3,h3l,sp⟩
  rw [show (0:Int)+(i:Int)=(i:Int) by lia]
  have hi:i<row.length:=by lia
  have hy:row[i]?=some row[i]:=aa hi
  have hyl:row[i]<row.length:=hrow.lt (bH hi)
  have hWi:W[i]?=some W[i]:=aa (by lia)
  have hWy:W[row[i]]?=some W[row[i]]:=aa (by lia)
  have tWi:(W.take row.length)[i]?=some W[i]:=by rw [bW hi,hWi]
  have ey:row.getD i 0=row[i]:=TM.getD_of hy
  have ew:(W.take row.length).getD (row.getD i 0) 0=W[row[i]]:=by rw [ey];exact TM.getD_of (by rw [bW hyl,hWy])
  have hgl:W[i]<g.length:=by rw [sp.len];exact hlt _ (bH _)
  have w3:=s3 _ _ hwa
  have st:=sp.step hWt hWlt tWi
  rw [ew] at st
  have fin:∀H4:Hp,H4=H3->True:=λ_ _=>trivial
  refine ⟨_,rfl,_,rfl,_,rfl,?_⟩
  have X3:∀(Z:VK),(∀v,v=V.int ((row[i]:Nat):Int)->Z v H3)->rIx K (V.ref pa) (V.int ((i:Nat):Int)) H3 Z:=λZ hZ=>(hSq _ s3).elim (λe=>.inl ⟨pa,_,_,_,rfl,rfl,e,O6 hy,hZ _ rfl⟩) λe=>.inr (.inl ⟨pa,_,_,_,rfl,rfl,e,O6 hy,hZ _ rfl⟩)
  refine X3 _ λv ev=>?_
  subst ev
  refine ⟨wa,_,_,_,rfl,rfl,SqL.of w3,O6 hWy,_,rfl,_,rfl,_,rfl,wa,_,_,_,rfl,rfl,SqL.of w3,O6 hWi,l,tI g,_,W[i],rfl,rfl,h3l,by rw [u5];exact za4 hgl,?_⟩
  exact ⟨g.set W[i] W[row[i]],_,rfl,p0 s3 hl0 _,by rw [z5,zf5],st⟩
 ·rintro σ H3 ⟨g,v4,rfl,s3,h3l,sp⟩
  rw [dB,←hTl] at sp
  rw [hTl] at sp
  obtain ⟨gT,gO⟩:=TM.Sprd.done hWt hWlt (by rw [hTl];exact hrow) (by rw [hTl];exact sp)
  exact ⟨_,rfl,l,_,rfl,.inl ⟨SqL.of h3l,λtp htp=>q tp _ g (s3.free htp) (s3.trans (y8 htp _)) gT sp z5⟩⟩
theorem xc6 (t:List Nat){a b:Nat}(ha:a<=b)(hb:b<=t.length):A8 (tI t) (some ((a:Nat):Int)) (some ((b:Nat):Int))=tI ((t.drop a).take (b-a)):=by
 unfold A8
 rw [HT.sIx_nat,HT.sIx_nat,u5,eA hb,eA (aB ha hb)]
 unfold tI
 rw [fc,ff]
theorem yg2 (t:List Nat){a:Nat}(ha:a<=t.length):A8 (tI t) (some ((a:Nat):Int)) none=tI (t.drop a):=by
 rw [zz1 (by rw [u5];exact ha)]
 unfold tI
 rw [ff]
theorem yg1 {xa:Addr}{xs:List Addr}{fr:List Nat}{te:CT TE}{σ:St}{H1:Hp}{Q:Addr->Hp->Prop}(Pr:List Nat->Prop)(hX:H1 xa=some (.lst (xs.map V.ref)))(hz:xs.length<=sizeLine)
  (turn:∀(i:Nat) (H:Hp) (x:Addr),xs[i]?=some x->y4 H1 H->∀C₀ s₀ H₀ fp,te C₀ s₀ H₀ fp (some (V.ref x)::fr.map λj=>(σ[j]?).getD none) H λv H4=>y4 H H4/\∃b:Addr×List Nat,v=.ref b.1/\(H4 b.1=some (.tup (tI b.2))/\Pr b.2)/\[b.1].Nodup/\∀a∈[b.1],H a=none/\∃o,H4 a=some o)
  (fin:∀(D:Addr) (H:Hp) (as:List Addr) (us:List (List Nat)),H1 D=none->y4 H1 H->H D=some (.lst (as.map V.ref))->Z5 H as us->us.length=xs.length->(∀u∈us,Pr u)->Q D H) :
  ∀D,H1 D=none->∃W:Nat->Nat->St->Hp->Prop,(∃m,W 0 m (V0 1 fr σ) (upd H1 D (.lst [])))/\∀i m' σ' H',W i m' σ' H'->((Itl K xa).stop i H'/\Q D H')∨((Itl K xa).go i H'/\∀x H2,(Itl K xa).yld i H' x H2->∀C₀ s₀ H₀ fp,p3 0 x σ' H2 λσ3 H3=>∃N:VK,te C₀ s₀ H₀ fp σ3 H3 N/\∀y H4,N y H4 ->
   ∃ys m'',H4 D=some (.lst ys)/\ys.length<sizeLine/\m''<m'/\W (i+1) m'' σ3 (upd H4 D (.lst (ys++[y])))):=by
 refine A6 (J:=Itl K xa) (Prod.fst:Addr×List Nat->Addr) (λb=>[b.1]) (λH _ b=>H b.1=some (.tup (tI b.2))/\Pr b.2) (n:=xs.length) hz (λH3 H4 D' xs i b hb hD fr hn'=>⟨fr _ _ (λz=>hn' (by rw [ah.mp z];simp)) hb.1,hb.2⟩) (λH s=>⟨_,SqL.of (s _ _ hX),by rw [ae];exact af _⟩) (λi H hi s=>⟨_,_,SqL.of (s _ _ hX),aa (by rw [ae];exact hi)⟩) ?_ ?_
 ·rintro i Hx v Hy hi sx ⟨rfl,hy⟩
  have:=hy _ (SqL.of (sx _ _ hX))
  obtain ⟨x,hx,rfl⟩:=zb9 this
  exact ⟨rfl,turn i _ x hx sx⟩
 ·intro D' H3 bs hD s3 hl3 hbl hR _ _
  have hR':∀b∈bs,H3 b.1=some (.tup (tI b.2))/\Pr b.2:=λb hb=>by
   obtain ⟨i,hi,e⟩:=aY.mp hb
   exact hR i b (by rw [aa hi,e])
  refine fin D' H3 (bs.map Prod.fst) (bs.map Prod.snd) hD s3 (by rw [bC];exact hl3) (K7 bs λb hb=>(hR' b hb).1) (by rw [ae];exact hbl) λu hu=>?_
  obtain ⟨b,hb,rfl⟩:=aw.mp hu
  exact (hR' b hb).2
theorem xd6 {m:Int}(hm:0<m){x y:Int}(e:x % m=y % m)(h1:x-y<m)(h2:y-x<m):x=y:=by
 have a:=fk x m
 have b:=fk y m
 have c:x-y=m*(x / m-y / m):=by rw [Int.mul_sub];lia
 rcases Int.lt_trichotomy (x / m-y / m) 0 with z|z|z
 ·have:=eQ (show x / m-y / m<=-1 by lia) (bx hm)
  lia
 ·rw [z,Int.mul_zero] at c
  lia
 ·have:=eQ (show 1<=x / m-y / m by lia) (bx hm)
  lia
theorem ym0 {m:Nat}(hm:0<m)(f:Nat->Int)(hf:∀i j,i<m->j<m->i<j->f i≠f j/\f i-f j<(m:Int)/\f j-f i<(m:Int)):TM.IsT m ((List.range m).map λk=>(f k % (m:Int)).toNat):=by
 have h1:∀c:Int,0<=c % (m:Int)/\c % (m:Int)<(m:Int):=λc=>⟨br c (by lia),bV c (by lia)⟩
 refine TM.isT_of (by rw [ae,aA]) ?_ λx hx=>?_
 ·refine dL.mpr (ba.mpr ?_)
  refine List.Pairwise.imp_of_mem (λ{a b} ha hb hab e=>?_) (dP (n:=m))
  have ha:=aH.mp ha
  have hb:=aH.mp hb
  obtain ⟨g1,g2,g3⟩:=hf a b ha hb hab
  have u:=h1 (f a)
  have v:=h1 (f b)
  exact g1 (xd6 (by lia) (by lia) g2 g3)
 ·obtain ⟨k,hk,rfl⟩:=aw.mp hx
  have u:=h1 (f k)
  lia
def E4 (H:Hp)(r:Addr):Prop:=∃(n:Nat) (w m:Addr) (W:List Nat) (as:List Addr) (ts:List (List Nat)),H r=some (.lst [.ref w,.ref m,.int n])/\H m=some (.lst (as.map V.ref))/\Z5 H as ts/\ts.length<=200/\0<n/\n<=60/\(∀t∈ts,TM.IsT n t)/\TM.Few n ts 1000/\H w=some (.lst (tI W))/\W.Nodup/\(∀x∈W,x<n)/\0<W.length
theorem xn9 (sz:Nat):((List.range sz).map λ(k:Nat)=>(((k:Int)+1) % (sz:Int)).toNat)=TM.dh sz 1 1:=by
 unfold TM.dh
 refine bg λk _=>?_
 rw [show (1:Int)+1*(k:Int)=(k:Int)+1 by lia]
theorem yp7 (sz:Nat)(c:Int):((List.range sz).map λ(k:Nat)=>((c-(k:Int)) % (sz:Int)).toNat)=TM.dh sz c (-1):=by
 unfold TM.dh
 refine bg λk _=>?_
 rw [show c + -1*(k:Int)=c-(k:Int) by lia]
theorem zx7 {n:Nat}{W row t:List Nat}(hW:W.Nodup)(hlt:∀x∈W,x<n)(hl:row.length=W.length)(h:TM.Sprd n (W.take row.length) row row.length t):t=TM.sp n W row:=by
 rw [hl,bz] at h
 exact TM.sprd_sp hW hlt h
def ye2 (K:W.Frag):Sp:=λvs H Q _=>∃(a:Addr) (ns:List Int) (n:Nat),vs=[.ref a,.int n]/\SqL K H a (ns.map V.int)/\3<=n/\n<=60/\∀(r:Addr) (H':Hp),y4 H H'->E4 H' r->Q (.ref r) H'
theorem Q9:v1 ["_law_script","_law_many","_law_size","_law_window_here","_law_makers"] ["_law_script","_law_many"] (y6 F9):=scq
theorem zv0 (D:Def K mg "_law_ring" F9 ["_law_script","_law_many"] f fd) (B:Blt mg) (KC:r8 P w K mg base 1 "_law_cell" ["_law_script","_law_k"] (P9 K)) (KW:r8 P w K mg base 2 "_law_window" ["_law_cell_here","_law_many","_law_size"] T7) (KP:r8 P w K mg base 1 "_law_spread" ["_law_part","_law_window_here","_law_many"] W9):p6 P w K mg base CX0 3 f fd ["_law_script","_law_many"] (ye2 K):=by
 refine D.F.ok Q9 (λvs H Q E h=>?_) (λcdv A outer s H vs Q E hr h=>?_)
 ·obtain ⟨a,ns,n,rfl,_⟩:=h
  rfl
 obtain ⟨a,ns,n,rfl,hS,hn3,hn,q⟩:=h
 refine ⟨_,z6 (y9 (i:=2) Q9.nd rfl (Or.inr rfl) (v0 i9 z8 (v0 l4 (v0 W0 (u4 KC hr rfl (z0 (pv 0) (z0 z8 z4))) z8) (v0 zv5 (pv 1) z8))))
  (z6 (y9 (i:=3) Q9.nd rfl (Or.inl rfl) (u4 KW hr rfl (z0 (u4 KC hr rfl (z0 (pv 0) (z0 z8 z4))) (z0 (pv 1) (z0 (pv 2) z4)))))
  (z6 (y9 (i:=4) Q9.nd rfl (Or.inl rfl) (b9 (z0 (u4 KP hr rfl (z0 (f9 [2] ["_law_k","_law_size"] rfl (X1 rfl B.range (z0 (pv 2) z4)) (λ_ _ _ _=>v0 l4 (v0 i9 (pv 0) z8) (pv 1))) (z0 (pv 3) (z0 (pv 1) z4)))) z4)))
  (z6 (k8 (o4 ym2 (v0 l4 (u4 KC hr rfl (z0 (pv 0) (z0 z8 z4))) z8) z8 (p7 _)) (z9 (h9 (J1 PySem.F.plainAttrs_list PySem.F.slot_list_append PySem.F.type_list_append b8 (pv 4) (z0 (u4 KP hr rfl (z0 (f9 [2,0] ["_law_k","_law_size","_law_script"] rfl (X1 rfl B.range (z0 (pv 2) z4)) (λ_ _ _ _=>v0 l4 (v0 zv5 (u4 KC hr rfl (z0 (pv 2) (z0 z8 z4))) (pv 0)) (pv 1))) (z0 (pv 3) (z0 (pv 1) z4)))) z4)))) u8)
  (z9 (v7 (b9 (z0 (pv 3) (z0 (pv 4) (z0 (pv 1) z4))))))))),?_⟩
 have hz1:∀k,k<=1000->k<=sizeLine:=λk hk=>aB hk (by decide)
 refine ⟨_,rfl,a,ns,0,rfl,hS,_,_,rfl,rfl,⟨by decide,by decide⟩,_,rfl,_,_,rfl,rfl,_,_,rfl,rfl,(by show (0:Int)<(n:Int)-1;lia),_,_,rfl,rfl,?_⟩
 obtain ⟨m0,em,hm⟩:=zh1 (c:=ns.getD 0 0 / 6) (k:=n-1) (by lia)
 have em:ns.getD 0 0 / 6 % ((n:Int)-1)=(m0:Int):=by rw [←em,show ((n-1:Nat):Int)=(n:Int)-1 by lia]
 dsimp only [p3]
 obtain ⟨sz,hsz⟩:∃sz,sz=2+m0:=⟨_,rfl⟩
 rw [show ns.getD ((0:Nat)) 0 / 6 % ((n:Int)-1)=(m0:Int) from em,show (2:Int)+(m0:Int)=((sz:Nat):Int) by lia]
 have hs2:0<sz:=by lia
 have hsn:sz<=n:=by lia
 refine ⟨_,rfl,a,ns,2,rfl,hS,_,rfl,_,rfl,_,n,sz,rfl,hn,λwa H1 W hwa0 s1 hWn hWl hWlen hwa=>?_⟩
 have hWlen:W.length=sz:=by rw [hWlen];lia
 dsimp only [p3]
 refine ⟨_,rfl,_,rfl,by lia,by lia,G1 (((List.range sz).map λ(k:Nat)=>(((k:Int)+1) % (sz:Int)).toNat).map λ(x:Nat)=>V.int x) (by rw [ae,ae,aA];lia) (hz1 _ (by lia)) ?_ ?_⟩
 ·intro i H2 hi s2 _ _ _ _
  have hi:i<sz:=by lia
  refine ⟨_,rfl,_,_,rfl,rfl,_,rfl,_,_,rfl,rfl,(by show (0:Int)<(sz:Int);lia),y4.refl _,?_⟩
  rw [ag,ag,aM hi]
  have h0:=br (((i:Int)+1)) (show (sz:Int)≠0 by lia)
  show some (V.int ((((((i:Int)+1) % (sz:Int)).toNat:Nat)):Int))=some (V.int ((0+(i:Int)+1) % (sz:Int)))
  rw [bJ h0,show (0:Int)+(i:Int)+1=(i:Int)+1 by lia]
 intro l2 H2 hl2 s2 hr2
 have hr2:H2 l2=some (.lst (tI ((List.range sz).map λ(k:Nat)=>(((k:Int)+1) % (sz:Int)).toNat))):=hr2
 have T1:TM.IsT sz ((List.range sz).map λ(k:Nat)=>(((k:Int)+1) % (sz:Int)).toNat):=ym0 hs2 (λk=>(k:Int)+1) λi j hi hj hij=>⟨by lia,by lia,by lia⟩
 have L1:=T1.length
 have s12:=s1.trans s2
 refine ⟨_,rfl,_,rfl,l2,wa,n,_,W,rfl,.inl hr2,s2 _ _ hwa,by rw [L1];exact T1,by rw [L1];lia,hWn,hWl,hn,λr1 H3 t1 hr10 s3 ht1 sp1 hr1=>?_⟩
 have sp1:=(zx7 hWn hWl (by rw [L1,hWlen]) sp1).trans (by rw [xn9])
 have s13:=s12.trans s3
 refine ⟨(by show 1<=sizeLine;decide),λm hm0=>?_⟩
 have s4:=y8 hm0 (.lst [V.ref r1])
 have e4:(upd H3 m (.lst [V.ref r1])) m=some (.lst ([r1].map V.ref)):=z5
 have hmH:H m=none:=s13.free hm0
 generalize upd H3 m (.lst [V.ref r1])=H4 at s4 e4 ⊢
 have s14:=s13.trans s4
 have r14:=s4 _ _ hr1
 dsimp only [p3]
 refine zb6 (λσ H5=>∃(as:List Addr) (ts:List (List Nat)),σ=[some (.ref a),some (.int n),some (.int sz),some (.ref wa),some (.ref m)]/\y4 H H5/\H5 m=some (.lst (as.map V.ref))/\Z5 H5 as ts/\ts.length<=2/\(∀t∈ts,TM.IsT n t)/\TM.Few n ts 1000/\H5 wa=some (.lst (tI W))) ?_ λN hN=>?_
 ·rintro σ H5 ⟨as,ts,rfl,s5,hm5,hts5,hl5,hT5,hF5,hw5⟩
  refine ⟨_,rfl,_,rfl,_,rfl,(by show 3<=sizeLine;decide),λr hr0=>q r _ (s5.trans (y8 hr0 _)) ⟨n,wa,m,W,as,ts,z5,?_,?_,by lia,by lia,hn,hT5,hF5,y8 hr0 _ _ _ hw5,hWn,hWl,by lia⟩⟩
  ·exact y8 hr0 _ _ _ hm5
  ·exact hts5.same (y8 hr0 _)
 ·refine ⟨_,rfl,a,ns,3,rfl,s14.seq hS,_,_,rfl,rfl,(by show (0:Int)<3;decide),_,_,rfl,rfl,_,rfl,yw4 (λc=>?_) (λc=>?_)⟩
  ·refine ⟨_,rfl,.inl ⟨rfl,_,SqL.of e4⟩,?_⟩
   refine ⟨_,rfl,_,rfl,by lia,by lia,G1 (((List.range sz).map λ(k:Nat)=>((ns.getD 3 0-(k:Int)) % (sz:Int)).toNat).map λ(x:Nat)=>V.int x) (by rw [ae,ae,aA];lia) (hz1 _ (by lia)) ?_ ?_⟩
   ·intro i H5 hi s5 _ _ _ _
    have hi:i<sz:=by lia
    refine ⟨_,rfl,a,ns,3,rfl,(s14.trans s5).seq hS,_,rfl,_,_,rfl,rfl,_,rfl,_,_,rfl,rfl,(by show (0:Int)<(sz:Int);lia),y4.refl _,?_⟩
    rw [ag,ag,aM hi]
    have h0:=br ((ns.getD 3 0-(i:Int))) (show (sz:Int)≠0 by lia)
    show some (V.int (((((ns.getD 3 0-(i:Int)) % (sz:Int)).toNat:Nat)):Int))=some (V.int ((ns.getD 3 0-(0+(i:Int))) % (sz:Int)))
    rw [bJ h0,show ns.getD 3 0-(0+(i:Int))=ns.getD 3 0-(i:Int) by lia]
   intro l5 H5 hl5 s5 hr5
   have hr5:H5 l5=some (.lst (tI ((List.range sz).map λ(k:Nat)=>((ns.getD 3 0-(k:Int)) % (sz:Int)).toNat))):=hr5
   have T2:TM.IsT sz ((List.range sz).map λ(k:Nat)=>((ns.getD 3 0-(k:Int)) % (sz:Int)).toNat):=ym0 hs2 (λk=>ns.getD 3 0-(k:Int)) λi j hi hj hij=>⟨by lia,by lia,by lia⟩
   have L2:=T2.length
   refine ⟨_,rfl,_,rfl,l5,wa,n,_,W,rfl,.inl hr5,s5 _ _ (s4 _ _ (s3 _ _ (s2 _ _ hwa))),by rw [L2];exact T2,by rw [L2];lia,hWn,hWl,hn,λr2 H6 t2 hr20 s6 ht2 sp2 hr2'=>?_⟩
   have sp2:=(zx7 hWn hWl (by rw [L2,hWlen]) sp2).trans (by rw [yp7])
   have s46:=s5.trans s6
   refine ⟨m,_,_,rfl,rfl,s46 _ _ e4,(by show 1<sizeLine;decide),hN _ _ ⟨[r1,r2],[t1,t2],rfl,p0 (s14.trans s46) hmH _,?_,?_,by simp,?_,TM.few_spread hWn hWl hWlen hs2 (by lia) λt ht=>?_,?_⟩⟩
   ·rw [z5]
    rfl
   ·have nm:∀xs,H6 m≠some (.tup xs):=λxs z=>by rw [s46 _ _ e4] at z;cases z
    exact Z5.upd (.cons (s46 _ _ r14) (.cons hr2' .nil)) nm
   ·intro t ht
    simp only [ay,aP,or_false] at ht
    rcases ht with rfl|rfl
    ·exact ht1
    ·exact ht2
   ·simp only [ay,aP,or_false] at ht
    rcases ht with rfl|rfl
    ·exact ⟨_,_,.inl rfl,sp1⟩
    ·exact ⟨_,_,.inr rfl,sp2⟩
   ·rw [z7 (y0 (s3 _ _ (s2 _ _ hwa)) hm0)]
    exact s46 _ _ (s4 _ _ (s3 _ _ (s2 _ _ hwa)))
  ·exact hN _ _ ⟨[r1],[t1],rfl,s14,e4,.cons r14 .nil,by simp,λt ht=>by rw [ah.mp ht];exact ht1,TM.few_spread hWn hWl hWlen hs2 (by lia) λt ht=>⟨1,1,.inl rfl,by rw [ah.mp ht];exact sp1⟩,s4 _ _ (s3 _ _ (s2 _ _ hwa))⟩
def zr9 (K:W.Frag):Sp:=λvs H Q _=>∃(a:Addr) (ns:List Int) (n:Nat),vs=[.ref a,.int n]/\SqL K H a (ns.map V.int)/\12<=n/\n<=60/\∀(r:Addr) (H':Hp),y4 H H'->E4 H' r->Q (.ref r) H'
theorem N7:v1 ["_law_script","_law_many","_law_size","_law_window_here"] ["_law_script","_law_many"] (y6 K0):=scq
theorem zo6 (D:Def K mg "_law_apart" K0 ["_law_script","_law_many"] f fd) (B:Blt mg) (KC:r8 P w K mg base 1 "_law_cell" ["_law_script","_law_k"] (P9 K)) (KW:r8 P w K mg base 2 "_law_window" ["_law_cell_here","_law_many","_law_size"] T7) (KP:r8 P w K mg base 1 "_law_spread" ["_law_part","_law_window_here","_law_many"] W9):p6 P w K mg base CX0 3 f fd ["_law_script","_law_many"] (zr9 K):=by
 refine D.F.ok N7 (λvs H Q E h=>?_) (λcdv A outer s H vs Q E hr h=>?_)
 ·obtain ⟨a,ns,n,rfl,_⟩:=h
  rfl
 obtain ⟨a,ns,n,rfl,hS,hn12,hn,q⟩:=h
 refine ⟨_,z6 (y9 (i:=2) N7.nd rfl (Or.inl rfl) (v0 i9 z8 (v0 l4 (v0 W0 (u4 KC hr rfl (z0 (pv 0) (z0 z8 z4))) z8) z8)))
  (z6 (y9 (i:=3) N7.nd rfl (Or.inr rfl) (u4 KW hr rfl (z0 (u4 KC hr rfl (z0 (pv 0) (z0 z8 z4))) (z0 (pv 1) (z0 (v0 P4 z8 (pv 2)) z4)))))
  (z9 (v7 (b9 (z0 (pv 3) (z0 (f9 [3,1] ["_law_k","_law_window_here","_law_many"] rfl (X1 rfl B.range (z0 (pv 2) z4)) (λ_ _ _ _=>u4 KP hr rfl (z0 (b9 (z0 z8 (z0 z8 z4))) (z0 (G8 zc7 (pv 1) (L5 (v0 P4 z8 (pv 0))) (L5 (v0 i9 (v0 P4 z8 (pv 0)) z8))) (z0 (pv 2) z4))))) (z0 (pv 1) z4))))))),?_⟩
 have hz1:∀k,k<=1000->k<=sizeLine:=λk hk=>aB hk (by decide)
 obtain ⟨z,ez,hz⟩:=zh1 (c:=ns.getD 0 0 / 6) (k:=6) (by decide)
 have ez:ns.getD 0 0 / 6 % 6=(z:Int):=ez
 refine ⟨_,rfl,a,ns,0,rfl,hS,_,_,rfl,rfl,⟨by decide,by decide⟩,_,_,rfl,rfl,(by show (0:Int)<6;decide),_,_,rfl,rfl,?_⟩
 dsimp only [p3]
 rw [ez,show (1:Int)+(z:Int)=((1+z:Nat):Int) by lia]
 obtain ⟨sz,hsz⟩:∃sz,sz=1+z:=⟨_,rfl⟩
 rw [←hsz]
 refine ⟨_,rfl,a,ns,2,rfl,hS,_,rfl,_,rfl,_,_,rfl,rfl,.inl ⟨by decide,by decide⟩,ns.getD 2 0,n,2*sz,?_,by lia,λwa H1 W hwa0 s1 hWn hWl hWlen hwa=>?_⟩
 ·rw [show ((2*sz:Nat):Int)=2*(sz:Int) by lia]
  rfl
 have hWlen:W.length=2*sz:=by rw [hWlen];lia
 dsimp only [p3]
 refine ⟨_,rfl,_,rfl,_,rfl,by lia,by lia,zj4 (m:=((sz:Nat):Int).toNat) (λi u=>TM.IsT n u/\u=TM.sp n ((W.drop (2*i)).take 2) [1,0]) (hz1 _ (by lia)) ?_ ?_⟩
 ·intro i H2 hi s2 _ _ _ _
  have hi:i<sz:=by lia
  rw [show (0:Int)+(i:Int)=(i:Int) by lia]
  refine ⟨(by show 2<=sizeLine;decide),λpr hpr=>?_⟩
  have s3:=y8 hpr (.lst [V.int 1,V.int 0])
  have e3:(upd H2 pr (.lst [V.int 1,V.int 0])) pr=some (.lst (tI [1,0])):=z5
  generalize upd H2 pr (.lst [V.int 1,V.int 0])=H3 at s3 e3 ⊢
  have w3':=s3 _ _ (s2 _ _ hwa)
  refine ⟨_,rfl,_,rfl,_,_,rfl,rfl,.inl ⟨by decide,by decide⟩,_,rfl,_,rfl,_,_,rfl,rfl,.inl ⟨by decide,by decide⟩,_,_,rfl,rfl,_,rfl,wa,_,rfl,SqL.of w3',λsl hsl=>?_⟩
  have ec:A8 (tI W) (some (2*(i:Int))) (some (2*(i:Int)+2))=tI ((W.drop (2*i)).take 2):=by
   have:=xc6 W (a:=2*i) (b:=2*i+2) (by lia) (by lia)
   rw [show 2*i+2-2*i=2 by lia] at this
   rw [←this,show ((2*i:Nat):Int)=2*(i:Int) by lia,show ((2*i+2:Nat):Int)=2*(i:Int)+2 by lia]
  dsimp only at hsl ⊢
  rw [ec]
  have s4:=y8 hsl (.lst (tI ((W.drop (2*i)).take 2)))
  have e4:(upd H3 sl (.lst (tI ((W.drop (2*i)).take 2)))) sl=some (.lst (tI ((W.drop (2*i)).take 2))):=z5
  generalize upd H3 sl (.lst (tI ((W.drop (2*i)).take 2)))=H4 at s4 e4 ⊢
  have s24:=s3.trans s4
  have sub:((W.drop (2*i)).take 2).Sublist W:=(bB _ _).trans (cq _ _)
  refine ⟨_,rfl,pr,sl,n,[1,0],_,rfl,.inl (s4 _ _ e3),e4,TM.isT_of rfl (by decide) (by decide),?_,List.Nodup.sublist sub hWn,λx hx=>hWl x (sub.subset hx),by lia,λr H5 u hr0 s5 uT us5 hr5=>⟨s24.trans s5,(r,u),rfl,⟨hr5,uT,zx7 (List.Nodup.sublist sub hWn) (λx hx=>hWl x (sub.subset hx)) (by rw [aT,be];simp only [az,cn];lia) us5⟩,cH,λb hb=>by cases hb⟩⟩
  ·rw [aT,be]
   simp only [az,cn]
   lia
 ·intro m H2 as us hm0 s2 hm2 ht2 hul hu2
  have hul:us.length=sz:=by lia
  have eus:us=TM.exs n W sz:=by
   apply bZ
   intro k
   unfold TM.exs
   rw [ag]
   by_cases hk:k<sz
   ·rw [aM hk]
    have h:us[k]?=some us[k]:=aa (by lia)
    rw [h,(hu2 k _ h).2]
    rfl
   ·rw [cm.mpr (by lia),cm.mpr (by rw [aA];lia)]
    rfl
  refine ⟨_,rfl,(by show 3<=sizeLine;decide),λr hr0=>q r _ ((s1.trans s2).trans (y8 hr0 _)) ⟨n,wa,m,W,as,us,z5,y8 hr0 _ _ _ hm2,ht2.same (y8 hr0 _),by lia,by lia,by lia,λt ht=>?_,?_,y8 hr0 _ _ _ (s2 _ _ hwa),hWn,hWl,by lia⟩⟩
  ·obtain ⟨k,hk,e⟩:=aY.mp ht
   exact (hu2 k t (by rw [aa hk,e])).1
  ·rw [eus]
   exact (TM.few_exs2 hWn hWl hWlen).more (aB (cK (by decide) (show sz<=6 by lia)) (by decide))
theorem yf9 {X:Cx}:R3 X (.type "range") (λxs H Q=>∃i j,xs=[.int i,.int j]/\∀p,H p=none->Q (.ref p) (upd H p (.rng i j))):=by
 intro pins s σ H xs us Q I r h
 obtain ⟨i,j,rfl,q⟩:=h
 obtain ⟨u,v,rfl,⟨t,rfl⟩,⟨t',rfl⟩⟩:=xb9 r
 exact call_range_2 ⟨.ref s.heap.objs.size,_,I.laid (λb o e=>av _ e) (af _) (show n8 X.prog X.w _ _ _ (.rng i j) from ⟨_,_,_,aG _ rfl⟩),rfl,q _ (I.hok.fresh (af _))⟩
theorem yq4 (a b:Nat):X7 (a:Int) b=tI (List.range' a b):=by
 unfold X7 tI
 rw [List.range'_eq_map_range,bC]
 refine bg λi _=>?_
 show V.int ((a:Int)+(i:Nat))=V.int ((a+i:Nat):Int)
 rw [show ((a+i:Nat):Int)=(a:Int)+(i:Int) by lia]
theorem zv3 {n:Nat}{W row t:List Nat}(hW:W.Nodup)(hlt:∀x∈W,x<n)(hr:TM.IsT row.length row)(hl:row.length<=W.length)(h:TM.Sprd n (W.take row.length) row row.length t):TM.Only n W t:=by
 have e:(W.take row.length).length=row.length:=by rw [aT];lia
 exact TM.Only.more (TM.Sprd.done (List.Nodup.sublist (bB _ _) hW) (λx hx=>hlt x (bh hx)) (by rw [e];exact hr) (by rw [e];exact h)).2 λx hx=>bh hx
def zn4 (K:W.Frag):Sp:=λvs H Q _=>∃(a:Addr) (ns:List Int) (n:Nat),vs=[.ref a,.int n]/\SqL K H a (ns.map V.int)/\6<=n/\n<=60/\∀(r:Addr) (H':Hp),y4 H H'->E4 H' r->Q (.ref r) H'
theorem U2:v1 ["_law_script","_law_many","_law_size","_law_window_here","_law_makers"] ["_law_script","_law_many"] (y6 N4):=scq
theorem zl9 (D:Def K mg "_law_copies" N4 ["_law_script","_law_many"] f fd) (B:Blt mg) (KC:r8 P w K mg base 1 "_law_cell" ["_law_script","_law_k"] (P9 K)) (KT:r8 P w K mg base 1 "_law_turning" ["_law_cell_here","_law_many"] R6) (KW:r8 P w K mg base 2 "_law_window" ["_law_cell_here","_law_many","_law_size"] T7) (KP:r8 P w K mg base 1 "_law_spread" ["_law_part","_law_window_here","_law_many"] W9):p6 P w K mg base CX0 3 f fd ["_law_script","_law_many"] (zn4 K):=by
 refine D.F.ok U2 (λvs H Q E h=>?_) (λcdv A outer s H vs Q E hr h=>?_)
 ·obtain ⟨a,ns,n,rfl,_⟩:=h
  rfl
 obtain ⟨a,ns,n,rfl,hS,hn6,hn,q⟩:=h
 refine ⟨_,z6 (y9 (i:=2) U2.nd rfl (Or.inl rfl) (v0 i9 z8 (v0 l4 (v0 W0 (u4 KC hr rfl (z0 (pv 0) (z0 z8 z4))) z8) z8)))
  (z6 (y9 (i:=3) U2.nd rfl (Or.inl rfl) (u4 KW hr rfl (z0 (u4 KC hr rfl (z0 (pv 0) (z0 z8 z4))) (z0 (pv 1) (z0 (v0 P4 z8 (pv 2)) z4)))))
  (z6 (y9 (i:=4) U2.nd rfl (Or.inl rfl) (b9 (z0 (u4 KP hr rfl (z0 (u4 KT hr rfl (z0 (u4 KC hr rfl (z0 (pv 0) (z0 z8 z4))) (z0 (pv 2) z4))) (z0 (pv 3) (z0 (pv 1) z4)))) z4)))
  (z6 (h9 (J1 PySem.F.plainAttrs_list PySem.F.slot_list_append PySem.F.type_list_append b8 (pv 4) (z0 (u4 KP hr rfl (z0 (v0 xe5 (v9 (c8 rfl) rfl B.list Y7 (z0 (v9 yf9 rfl B.range X9 (z0 (pv 2) (z0 (v0 P4 z8 (pv 2)) z4))) z4)) (v9 (c8 rfl) rfl B.list Y7 (z0 (v9 Y8 rfl B.range X9 (z0 (pv 2) z4)) z4))) (z0 (pv 3) (z0 (pv 1) z4)))) z4)))
  (z9 (v7 (b9 (z0 (pv 3) (z0 (pv 4) (z0 (pv 1) z4))))))))),?_⟩
 have hz1:∀k,k<=1000->k<=sizeLine:=λk hk=>aB hk (by decide)
 obtain ⟨z,ez,hz⟩:=zh1 (c:=ns.getD 0 0 / 6) (k:=2) (by decide)
 have ez:ns.getD 0 0 / 6 % 2=(z:Int):=ez
 refine ⟨_,rfl,a,ns,0,rfl,hS,_,_,rfl,rfl,⟨by decide,by decide⟩,_,_,rfl,rfl,(by show (0:Int)<2;decide),_,_,rfl,rfl,?_⟩
 dsimp only [p3]
 rw [ez,show (2:Int)+(z:Int)=((2+z:Nat):Int) by lia]
 obtain ⟨sz,hsz⟩:∃sz,sz=2+z:=⟨_,rfl⟩
 rw [←hsz]
 refine ⟨_,rfl,a,ns,2,rfl,hS,_,rfl,_,rfl,_,_,rfl,rfl,.inl ⟨by decide,by decide⟩,ns.getD 2 0,n,2*sz,?_,by lia,λwa H1 W hwa0 s1 hWn hWl hWlen hwa=>?_⟩
 ·rw [show ((2*sz:Nat):Int)=2*(sz:Int) by lia]
  rfl
 have hWlen:W.length=2*sz:=by rw [hWlen];lia
 dsimp only [p3]
 refine ⟨_,rfl,a,ns,3,rfl,s1.seq hS,_,rfl,_,sz,rfl,by lia,λrt H2 u hrt0 s2 uT hrt=>?_⟩
 refine ⟨_,rfl,_,rfl,rt,wa,n,u,W,rfl,.inr hrt,s2 _ _ hwa,by rw [uT.length];exact uT,by rw [uT.length];lia,hWn,hWl,by lia,λr1 H3 t1 hr10 s3 ht1 sp1 hr1=>?_⟩
 have s13:=s1.trans (s2.trans s3)
 refine ⟨(by show 1<=sizeLine;decide),λm hm0=>?_⟩
 have s4:=y8 hm0 (.lst [V.ref r1])
 have e4:(upd H3 m (.lst [V.ref r1])) m=some (.lst ([r1].map V.ref)):=z5
 have hmH:H m=none:=s13.free hm0
 generalize upd H3 m (.lst [V.ref r1])=H4 at s4 e4 ⊢
 have s14:=s13.trans s4
 have r14:=s4 _ _ hr1
 dsimp only [p3]
 refine ⟨_,rfl,.inl ⟨rfl,_,SqL.of e4⟩,?_⟩
 refine ⟨_,rfl,_,rfl,_,_,rfl,rfl,.inl ⟨by decide,by decide⟩,_,_,rfl,λp hp=>⟨p,(sz:Int),2*(sz:Int),rfl,z5,⟨by lia,by lia,by lia,by lia,by lia⟩,λl hl=>?_⟩⟩
 rw [show (2*(sz:Int)-(sz:Int)).toNat=sz by lia,yq4]
 have pl:p≠l:=y0 z5 hl
 have hl0:H4 l=none:=by
  have:=hl
  rwa [z7 (Ne.symm pl)] at this
 have s5:y4 H4 (upd (upd H4 p (.rng (sz:Int) (2*(sz:Int)))) l (.lst (tI (List.range' sz sz)))):=p0 (y8 hp _) hl0 _
 have e5:(upd (upd H4 p (.rng (sz:Int) (2*(sz:Int)))) l (.lst (tI (List.range' sz sz)))) l=some (.lst (tI (List.range' sz sz))):=z5
 generalize upd (upd H4 p (.rng (sz:Int) (2*(sz:Int)))) l (.lst (tI (List.range' sz sz)))=H5 at s5 e5 ⊢
 refine ⟨_,rfl,_,rfl,λp2 hp2=>⟨p2,0,(sz:Int),rfl,z5,⟨by lia,by lia,by lia,by lia,by lia⟩,λl2 hl2=>?_⟩⟩
 rw [show ((sz:Int)-0).toNat=sz by lia,U3]
 have pl2:p2≠l2:=y0 z5 hl2
 have hl20:H5 l2=none:=by
  have:=hl2
  rwa [z7 (Ne.symm pl2)] at this
 have s6:y4 H5 (upd (upd H5 p2 (.rng 0 (sz:Int))) l2 (.lst (tI (List.range sz)))):=p0 (y8 hp2 _) hl20 _
 have e6:(upd (upd H5 p2 (.rng 0 (sz:Int))) l2 (.lst (tI (List.range sz)))) l2=some (.lst (tI (List.range sz))):=z5
 generalize upd (upd H5 p2 (.rng 0 (sz:Int))) l2 (.lst (tI (List.range sz)))=H6 at s6 e6 ⊢
 refine ⟨l,l2,_,_,rfl,rfl,SqL.of (s6 _ _ e5),SqL.of e6,by rw [u5,u5,List.length_range',aA];exact hz1 _ (by lia),λl3 hl3=>?_⟩
 have ecat:tI (List.range' sz sz)++tI (List.range sz)=tI (List.range' sz sz++List.range sz):=by
  unfold tI
  rw [aV]
 rw [ecat]
 have s7:=y8 hl3 (.lst (tI (List.range' sz sz++List.range sz)))
 have e7:(upd H6 l3 (.lst (tI (List.range' sz sz++List.range sz)))) l3=some (.lst (tI (List.range' sz sz++List.range sz))):=z5
 generalize upd H6 l3 (.lst (tI (List.range' sz sz++List.range sz)))=H7 at s7 e7 ⊢
 have rl:(List.range' sz sz++List.range sz).length=2*sz:=by rw [aq,List.length_range',aA];lia
 have rT:TM.IsT (2*sz) (List.range' sz sz++List.range sz):=by
  have h23:sz=2∨sz=3:=by lia
  rcases h23 with e|e <;> (rw [e];exact TM.isT_of rfl (by decide) (by decide))
 have s47:=s5.trans (s6.trans s7)
 refine ⟨_,rfl,_,rfl,l3,wa,n,_,W,rfl,.inl e7,s47 _ _ (s4 _ _ (s3 _ _ (s2 _ _ hwa))),by rw [rl];exact rT,by rw [rl];lia,hWn,hWl,by lia,λr2 H8 t2 hr20 s8 ht2 sp2 hr2=>?_⟩
 have s48:=s47.trans s8
 refine ⟨m,_,_,rfl,rfl,s48 _ _ e4,(by show 1<sizeLine;decide),?_⟩
 have nm:∀xs,H8 m≠some (.tup xs):=λxs z=>by rw [s48 _ _ e4] at z;cases z
 have w9:(upd H8 m (.lst ([r1].map V.ref++[V.ref r2]))) wa=some (.lst (tI W)):=by
  rw [z7 (y0 (s3 _ _ (s2 _ _ hwa)) hm0)]
  exact s48 _ _ (s4 _ _ (s3 _ _ (s2 _ _ hwa)))
 have t9:Z5 (upd H8 m (.lst ([r1].map V.ref++[V.ref r2]))) [r1,r2] [t1,t2]:=Z5.upd (.cons (s48 _ _ r14) (.cons hr2 .nil)) nm
 have m9:(upd H8 m (.lst ([r1].map V.ref++[V.ref r2]))) m=some (.lst ([r1,r2].map V.ref)):=z5
 have s09:y4 H (upd H8 m (.lst ([r1].map V.ref++[V.ref r2]))):=p0 (s14.trans s48) hmH _
 generalize upd H8 m (.lst ([r1].map V.ref++[V.ref r2]))=H9 at t9 m9 s09 w9 ⊢
 refine ⟨_,rfl,_,rfl,_,rfl,(by show 3<=sizeLine;decide),λr hr0=>q r _ (s09.trans (y8 hr0 _)) ⟨n,wa,m,W,[r1,r2],[t1,t2],z5,y8 hr0 _ _ _ m9,t9.same (y8 hr0 _),by simp,by lia,hn,?_,?_,y8 hr0 _ _ _ w9,hWn,hWl,by lia⟩⟩
 ·intro t ht
  simp only [ay,aP,or_false] at ht
  rcases ht with rfl|rfl
  ·exact ht1
  ·exact ht2
 ·refine TM.few6 (W:=W) ?_ ?_ hWn hWl (by lia)
  ·intro t ht
   simp only [ay,aP,or_false] at ht
   rcases ht with rfl|rfl
   ·exact ht1
   ·exact ht2
  ·intro t ht
   simp only [ay,aP,or_false] at ht
   rcases ht with rfl|rfl
   ·exact zv3 hWn hWl (by rw [uT.length];exact uT) (by rw [uT.length];lia) sp1
   ·exact zv3 hWn hWl (by rw [rl];exact rT) (by rw [rl];lia) sp2
def zs1 (K:W.Frag):Sp:=λvs H Q _=>∃(a:Addr) (ns:List Int),vs=[.ref a]/\SqL K H a (ns.map V.int)/\∀(r:Addr) (H':Hp),y4 H H'->E4 H' r->Q (.ref r) H'
theorem i7:v1 ["_law_script","_law_way","_law_cell_here","_law_many","_law_window_here","_law_some"] ["_law_script"] (y6 K1):=scq
theorem zo8 (D:Def K mg "_law_drawn" K1 ["_law_script"] f fd) (B:Blt mg) (KC:r8 P w K mg base 1 "_law_cell" ["_law_script","_law_k"] (P9 K)) (KT:r8 P w K mg base 1 "_law_turning" ["_law_cell_here","_law_many"] R6) (KW:r8 P w K mg base 2 "_law_window" ["_law_cell_here","_law_many","_law_size"] T7) (KP:r8 P w K mg base 1 "_law_spread" ["_law_part","_law_window_here","_law_many"] W9) (KR:r8 P w K mg base 3 "_law_ring" ["_law_script","_law_many"] (ye2 K)) (KA:r8 P w K mg base 3 "_law_apart" ["_law_script","_law_many"] (zr9 K)) (KO:r8 P w K mg base 3 "_law_copies" ["_law_script","_law_many"] (zn4 K)):p6 P w K mg base CX0 4 f fd ["_law_script"] (zs1 K):=by
 refine D.F.ok i7 (λvs H Q E h=>?_) (λcdv A outer s H vs Q E hr h=>?_)
 ·obtain ⟨a,ns,rfl,_⟩:=h
  rfl
 obtain ⟨a,ns,rfl,hS,q⟩:=h
 refine ⟨_,z6 (y9 (i:=1) i7.nd rfl (Or.inl rfl) (v0 l4 (u4 KC hr rfl (z0 (pv 0) (z0 z8 z4))) z8))
  (z6 (y9 (i:=2) i7.nd rfl (Or.inl rfl) (u4 KC hr rfl (z0 (pv 0) (z0 z8 z4))))
  (z6 (k8 (o4 O3 (pv 1) z8 (p7 _)) (z9 (v7 (u4 KR hr rfl (z0 (pv 0) (z0 (v0 i9 z8 (v0 l4 (pv 2) z8)) z4))))) u8)
  (z6 (k8 (o4 O3 (pv 1) z8 (p7 _)) (z9 (v7 (u4 KA hr rfl (z0 (pv 0) (z0 (v0 i9 z8 (v0 l4 (pv 2) z8)) z4))))) u8)
  (z6 (k8 (o4 O3 (pv 1) z8 (p7 _)) (z9 (v7 (u4 KO hr rfl (z0 (pv 0) (z0 (v0 i9 z8 (v0 l4 (pv 2) z8)) z4))))) u8)
  (z6 (y9 (i:=3) i7.nd rfl (Or.inr rfl) (v0 i9 z8 (v0 l4 (pv 2) z8)))
  (z6 (k8 (o4 O3 (pv 1) z8 (p7 _)) (z9 (v7 (b9 (z0 (v9 (c8 rfl) rfl B.list Y7 (z0 (v9 Y8 rfl B.range X9 (z0 (pv 3) z4)) z4)) (z0 (b9 (z0 (u4 KT hr rfl (z0 (u4 KC hr rfl (z0 (pv 0) (z0 z8 z4))) (z0 (pv 3) z4))) z4)) (z0 (pv 3) z4)))))) u8)
  (z6 (y9 (i:=3) i7.nd rfl (Or.inr rfl) (v0 i9 z8 (v0 l4 (pv 2) z8)))
  (z6 (y9 (i:=4) i7.nd rfl (Or.inr rfl) (v9 (c8 rfl) rfl B.list Y7 (z0 (v9 Y8 rfl B.range X9 (z0 (pv 3) z4)) z4)))
  (z6 (k8 (o4 O3 (pv 1) z8 (p7 _)) (z6 (y9 (i:=3) i7.nd rfl (Or.inr rfl) (v0 i9 z8 (v0 l4 (pv 2) z8)))
   (z9 (y9 (i:=4) i7.nd rfl (Or.inr rfl) (u4 KW hr rfl (z0 (u4 KC hr rfl (z0 (pv 0) (z0 z8 z4))) (z0 (pv 3) (z0 (v0 i9 z8 (v0 l4 (v0 W0 (u4 KC hr rfl (z0 (pv 0) (z0 z8 z4))) z8) z8)) z4))))))) u8)
  (z6 (yc8 (i:=5) [0,4] ["_law_k","_law_script","_law_window_here"] i7.nd rfl rfl rfl (X1 rfl B.range (z0 (v0 l4 (v0 W0 (u4 KC hr rfl (z0 (pv 0) (z0 z8 z4))) z8) z8) z4)) (λ_ _ _ _=>u4 KT hr rfl (z0 (u4 KC hr rfl (z0 (pv 1) (z0 (v0 i9 z8 (pv 0)) z4))) (z0 (v8 u6 rfl B.len g7 (z0 (pv 2) z4)) z4))))
  (z9 (v7 (b9 (z0 (pv 4) (z0 (f9 [4,3] ["_law_part","_law_window_here","_law_many"] rfl (W1 (pv 5)) (λ_ _ _ _=>u4 KP hr rfl (z0 (pv 0) (z0 (pv 1) (z0 (pv 2) z4))))) (z0 (pv 3) z4)))))))))))))))),?_⟩
 have hz1:∀k,k<=1000->k<=sizeLine:=λk hk=>aB hk (by decide)
 have seqS:∀H2:Hp,y4 H H2->SqL K H2 a (ns.map V.int):=λH2 s2=>s2.seq hS
 refine ⟨_,rfl,a,ns,0,rfl,hS,_,_,rfl,rfl,(by show (0:Int)<6;decide),?_⟩
 obtain ⟨way,ew,hw⟩:=zh1 (c:=ns.getD 0 0) (k:=6) (by decide)
 have ew:ns.getD 0 0 % 6=(way:Int):=ew
 dsimp only [p3]
 rw [ew]
 refine ⟨_,rfl,a,ns,1,rfl,hS,?_⟩
 dsimp only [p3]
 generalize ns.getD 1 0=c1
 have many:∀(b k:Nat),0<k->∃n:Nat,(b:Int)+c1 % (k:Int)=(n:Int)/\b<=n/\n<b+k:=λb k hk=>by
  obtain ⟨m,em,hm⟩:=zh1 (c:=c1) hk
  exact ⟨b+m,by rw [em];lia,by lia,by lia⟩
 refine ⟨_,rfl,rfl,_,rfl,?_⟩
 rw [o7]
 by_cases w2:way=2
 ·rw [decide_eq_true (show ((way:Nat):Int)=2 by lia)]
  obtain ⟨n,en,hn1,hn2⟩:=many 3 58 (by decide)
  have en:(3:Int)+c1 % 58=(n:Int):=en
  refine b6 ⟨_,rfl,_,rfl,_,_,rfl,rfl,(by show (0:Int)<58;decide),_,_,rfl,rfl,a,ns,n,?_,hS,hn1,by lia,λr H' s' hd=>q r H' s' hd⟩
  show [V.ref a,V.int (3+c1 % 58)]=_
  rw [en]
 rw [decide_eq_false (show ¬((way:Nat):Int)=2 by lia)]
 refine k9 ⟨_,rfl,rfl,_,rfl,?_⟩
 rw [o7]
 by_cases w3:way=3
 ·rw [decide_eq_true (show ((way:Nat):Int)=3 by lia)]
  obtain ⟨n,en,hn1,hn2⟩:=many 12 49 (by decide)
  have en:(12:Int)+c1 % 49=(n:Int):=en
  refine b6 ⟨_,rfl,_,rfl,_,_,rfl,rfl,(by show (0:Int)<49;decide),_,_,rfl,rfl,a,ns,n,?_,hS,hn1,by lia,λr H' s' hd=>q r H' s' hd⟩
  show [V.ref a,V.int (12+c1 % 49)]=_
  rw [en]
 rw [decide_eq_false (show ¬((way:Nat):Int)=3 by lia)]
 refine k9 ⟨_,rfl,rfl,_,rfl,?_⟩
 rw [o7]
 by_cases w4:way=4
 ·rw [decide_eq_true (show ((way:Nat):Int)=4 by lia)]
  obtain ⟨n,en,hn1,hn2⟩:=many 6 55 (by decide)
  have en:(6:Int)+c1 % 55=(n:Int):=en
  refine b6 ⟨_,rfl,_,rfl,_,_,rfl,rfl,(by show (0:Int)<55;decide),_,_,rfl,rfl,a,ns,n,?_,hS,hn1,by lia,λr H' s' hd=>q r H' s' hd⟩
  show [V.ref a,V.int (6+c1 % 55)]=_
  rw [en]
 rw [decide_eq_false (show ¬((way:Nat):Int)=4 by lia)]
 obtain ⟨n0,en0,hn01,hn02⟩:=many 1 15 (by decide)
 have en0:(1:Int)+c1 % 15=(n0:Int):=en0
 refine k9 ⟨_,rfl,_,_,rfl,rfl,(by show (0:Int)<15;decide),_,_,rfl,rfl,?_⟩
 dsimp only [p3]
 rw [en0]
 have laid:∀{H4:Hp} {n:Int} {p l:Addr} {o:HO},H4 p=none->(upd H4 p (.rng 0 n)) l=none->H4 l=none/\y4 H4 (upd (upd H4 p (.rng 0 n)) l o):=λ{H4 n p l o} hp hl=>by
  have hl0:H4 l=none:=by
   have:=hl
   rwa [z7 (Ne.symm (y0 z5 hl))] at this
  exact ⟨hl0,p0 (y8 hp _) hl0 _⟩
 refine ⟨_,rfl,rfl,_,rfl,?_⟩
 rw [o7]
 by_cases w5:way=5
 ·rw [decide_eq_true (show ((way:Nat):Int)=5 by lia)]
  refine b6 ⟨_,rfl,_,rfl,λp hp=>⟨p,0,(n0:Int),rfl,z5,⟨by lia,by lia,by lia,by lia,by lia⟩,λl hl=>?_⟩⟩
  obtain ⟨hl0,s4⟩:=laid (o:=.lst (tI (List.range n0))) hp hl
  rw [show ((n0:Int)-0).toNat=n0 by lia,U3]
  have hl4:(upd (upd H p (.rng 0 (n0:Int))) l (.lst (tI (List.range n0)))) l=some (.lst (tI (List.range n0))):=z5
  generalize upd (upd H p (.rng 0 (n0:Int))) l (.lst (tI (List.range n0)))=H4 at s4 hl4 ⊢
  refine ⟨_,rfl,a,ns,3,rfl,seqS _ s4,_,rfl,_,n0,rfl,by lia,λr H5 u hr0 s5 uT hr5=>?_⟩
  refine ⟨(by show 1<=sizeLine;decide),λm hm0=>⟨_,rfl,(by show 3<=sizeLine;decide),λr2 hr2=>?_⟩⟩
  have sm:=y8 hm0 (.lst [V.ref r])
  have sr:=y8 hr2 (.lst [V.ref l,V.ref m,V.int n0])
  exact q r2 _ ((s4.trans (s5.trans sm)).trans sr) ⟨n0,l,m,List.range n0,[r],[u],z5,sr _ _ z5,.cons (sr _ _ (sm _ _ hr5)) .nil,by simp,by lia,by lia,λt ht=>by rw [ah.mp ht];exact uT,TM.few15 uT (by lia),sr _ _ (sm _ _ (s5 _ _ hl4)),bQ,λx hx=>aH.mp hx,by rw [aA];lia⟩
 rw [decide_eq_false (show ¬((way:Nat):Int)=5 by lia)]
 obtain ⟨n1,en1,hn11,hn12⟩:=many 1 5 (by decide)
 have en1:(1:Int)+c1 % 5=(n1:Int):=en1
 refine k9 ⟨_,rfl,_,_,rfl,rfl,(by show (0:Int)<5;decide),_,_,rfl,rfl,?_⟩
 dsimp only [p3]
 rw [en1]
 refine ⟨_,rfl,_,rfl,λp hp=>⟨p,0,(n1:Int),rfl,z5,⟨by lia,by lia,by lia,by lia,by lia⟩,λl hl=>?_⟩⟩
 obtain ⟨hl0,s4⟩:=laid (o:=.lst (tI (List.range n1))) hp hl
 rw [show ((n1:Int)-0).toNat=n1 by lia,U3]
 have hl4:(upd (upd H p (.rng 0 (n1:Int))) l (.lst (tI (List.range n1)))) l=some (.lst (tI (List.range n1))):=z5
 generalize upd (upd H p (.rng 0 (n1:Int))) l (.lst (tI (List.range n1)))=H4 at s4 hl4 ⊢
 dsimp only [p3]
 refine zb6 (λσ H5=>∃(n:Nat) (wa:Addr) (W:List Nat),σ=[some (.ref a),some (.int way),some (.int c1),some (.int n),some (.ref wa),none]/\y4 H H5/\H5 wa=some (.lst (tI W))/\W.Nodup/\(∀x∈W,x<n)/\0<W.length/\W.length<=5/\n<=60) ?_ λN hN=>?_
 ·rintro σ H5 ⟨n,wa,W,rfl,s5,hwa,hWn,hWl,hW0,hW5,hn⟩
  obtain ⟨y,ey,hy⟩:=zh1 (c:=ns.getD 0 0 / 24) (k:=5) (by decide)
  have ey:ns.getD 0 0 / 24 % 5=(y:Int):=ey
  have h0n:0<n:=bT (aQ _) (hWl _ (bH hW0))
  refine ⟨_,rfl,a,ns,0,rfl,seqS _ s5,_,_,rfl,rfl,⟨by decide,by decide⟩,_,_,rfl,rfl,(by show (0:Int)<5;decide),_,rfl,(by show -(2 ^ 62)<=ns.getD 0 0 / 24 % 5;lia),(by show ns.getD 0 0 / 24 % 5<2 ^ 62;lia),zy8 (m:=(ns.getD 0 0 / 24 % 5).toNat) (TM.IsT W.length) (hz1 _ (by lia)) ?_ ?_⟩
  ·intro i H6 hi s6 _ _ _ _
   rw [show (0:Int)+(i:Int)=(i:Int) by lia]
   refine ⟨_,rfl,_,rfl,_,_,rfl,rfl,a,ns,3+i,?_,seqS _ (s5.trans s6),_,rfl,wa,_,rfl,.inl (SqL.of (s6 _ _ hwa)),ns.getD (3+i) 0,W.length,?_,by lia,λr H7 u hr0 s7 uT hr7=>⟨s7,(r,u),rfl,⟨hr7,uT⟩,by simp,λb hb=>?_⟩⟩
   ·rw [show ((3+i:Nat):Int)=3+(i:Int) by lia]
    rfl
   ·rw [u5]
    rfl
   ·rw [ah.mp hb]
    exact ⟨hr0,_,hr7⟩
  intro m1 H6 as1 us1 hm10 s6 hm1 ht1 hul1 hu1
  dsimp only [p3]
  have hal1:as1.length=us1.length:=Paired.length ht1
  refine ⟨_,rfl,_,rfl,m1,rfl,⟨_,SqL.of hm1⟩,yg1 (xs:=as1) (λu=>TM.IsT n u/\TM.Only n W u) hm1 (hz1 _ (by lia)) ?_ ?_⟩
  ·intro i H7 x hx s7 _ _ _ _
   obtain ⟨u,hu,hxu⟩:=o0 ht1 i x hx
   have huT:=hu1 u (ax hu)
   refine ⟨_,rfl,_,rfl,_,rfl,x,wa,n,u,W,rfl,.inr (s7 _ _ hxu),s7 _ _ (s6 _ _ hwa),by rw [huT.length];exact huT,by rw [huT.length];lia,hWn,hWl,by lia,λr H8 u' hr0 s8 uT us8 hr8=>⟨s8,(r,u'),rfl,⟨hr8,uT,zv3 hWn hWl (by rw [huT.length];exact huT) (by rw [huT.length];lia) us8⟩,by simp,λb hb=>?_⟩⟩
   rw [ah.mp hb]
   exact ⟨hr0,_,hr8⟩
  intro m H7 as us hm0 s7 hm7 ht7 hul hu7
  have s57:=s5.trans (s6.trans s7)
  refine ⟨_,rfl,(by show 3<=sizeLine;decide),λr hr0=>?_⟩
  have sr:=y8 hr0 (.lst [V.ref wa,V.ref m,V.int n])
  exact q r _ (s57.trans sr) ⟨n,wa,m,W,as,us,z5,sr _ _ hm7,ht7.same sr,by lia,h0n,hn,λt ht=>(hu7 t ht).1,TM.few6 (W:=W) (λt ht=>(hu7 t ht).1) (λt ht=>(hu7 t ht).2) hWn hWl (by lia),sr _ _ (s7 _ _ (s6 _ _ hwa)),hWn,hWl,hW0⟩
 refine ⟨_,rfl,rfl,_,rfl,?_⟩
 rw [o7]
 by_cases w1:way=1
 ·rw [decide_eq_true (show ((way:Nat):Int)=1 by lia)]
  obtain ⟨n,en,hna,hnb⟩:=many 6 55 (by decide)
  have en:(6:Int)+c1 % 55=(n:Int):=en
  refine b6 ⟨_,rfl,_,_,rfl,rfl,(by show (0:Int)<55;decide),_,_,rfl,rfl,?_⟩
  dsimp only [p3]
  rw [en]
  obtain ⟨z,ez,hz⟩:=zh1 (c:=ns.getD 0 0 / 6) (k:=4) (by decide)
  have ez:ns.getD 0 0 / 6 % 4=(z:Int):=ez
  refine ⟨_,rfl,a,ns,2,rfl,seqS _ s4,_,rfl,_,rfl,a,ns,0,rfl,seqS _ s4,_,_,rfl,rfl,⟨by decide,by decide⟩,_,_,rfl,rfl,(by show (0:Int)<4;decide),_,_,rfl,rfl,ns.getD 2 0,n,2+z,?_,by lia,λwa H6 W hwa0 s6 hWn hWl hWlen hwa=>?_⟩
  ·show [V.int (ns.getD 2 0),V.int n,V.int (2+ns.getD 0 0 / 6 % 4)]=_
   rw [ez,show ((2+z:Nat):Int)=2+(z:Int) by lia]
  exact hN _ _ ⟨n,wa,W,rfl,s4.trans s6,hwa,hWn,hWl,by lia,by lia,by lia⟩
 ·rw [decide_eq_false (show ¬((way:Nat):Int)=1 by lia)]
  exact k9 (hN _ _ ⟨n1,l,List.range n1,rfl,s4,hl4,bQ,λx hx=>aH.mp hx,by rw [aA];lia,by rw [aA];lia,by lia⟩)
def kT (t:List Nat):List Key:=t.map λ(x:Nat)=>Sum.inl (x:Int)
theorem yw7 (t:List Nat):(kT t).map kV=tI t:=by
 unfold kT tI
 rw [bC]
 rfl
theorem yw6:∀{t u:List Nat},kT t=kT u->t=u
 | [],[],_=>rfl
 | x::t,y::u,h=>by
  have h:Sum.inl (x:Int)::kT t=(Sum.inl (y:Int)::kT u:List Key):=h
  obtain ⟨h1,h2⟩:=List.cons.inj h
  have h1:=Sum.inl.inj h1
  rw [yw6 h2,show x=y by lia]
 | [],_::_,h=>by cases h
 | _::_,[],h=>by cases h
def kTs (L:List (List Nat)):List (List Key×V):=L.map λt=>(kT t,V.bl true)
theorem zf7 (u:List Nat):∀L:List (List Nat),J5 (kTs L) (kT u)=if u∈L then some (V.bl true) else none
 | []=>rfl
 | t::L=>by
  have e:kTs (t::L)=(kT t,V.bl true)::kTs L:=rfl
  rw [e]
  by_cases h:t=u
  ·subst h
   rw [if_pos au]
   exact M4 (p:=(kT t,V.bl true)) rfl
  ·rw [O1 (p:=(kT t,V.bl true)) λz=>h (yw6 z),zf7 u L]
   by_cases h2:u∈L
   ·rw [if_pos h2,if_pos (ao _ h2)]
   ·rw [if_neg h2,if_neg λz=>(ay.mp z).elim (λe=>h e.symm) h2]
theorem ys2 {u:List Nat}{L:List (List Nat)}(h:u∉L):putK (kTs L) (kT u) (V.bl true)=kTs (L++[u]):=by
 have e:=zf7 u L
 rw [if_neg h] at e
 unfold putK
 rw [M3,e]
 show kTs L++[(kT u,V.bl true)]=kTs (L++[u])
 unfold kTs
 rw [aV]
 rfl
structure Fnd (n:Nat) (S L:List (List Nat)) (k:Nat):Prop where
 nd:L.Nodup
 one:List.range n∈L
 grp:∀x∈L,TM.Grp n (λz=>z∈S) x
 done:∀i x,i<k->L[i]?=some x->∀s∈S,TM.beh x s∈L
 le:k<=L.length
def Srt (L:List (List Nat)):Prop:=L.Pairwise λx y=>HT.lexLt (TM.iN y) (TM.iN x)=false
theorem yl7 (t:List Nat):(TM.iN t).map Int.toNat=t:=by
 unfold TM.iN
 rw [bC]
 conv=>rhs;rw [←eE t]
 exact bg λx _=>by simp
theorem ys4 {L:List (List Nat)}{qs:List (List Int)}(h:qs.Perm (L.map TM.iN)):∃M:List (List Nat),M.Perm L/\qs=M.map TM.iN:=by
 refine ⟨qs.map λx=>x.map Int.toNat,?_,?_⟩
 ·have h2:=h.map λx:List Int=>x.map Int.toNat
  rw [bC] at h2
  have e:(L.map ((λx:List Int=>x.map Int.toNat) ∘ TM.iN))=L:=by
   conv=>rhs;rw [←eE L]
   exact bg λt _=>yl7 t
  rwa [e] at h2
 ·rw [bC]
  conv=>lhs;rw [←eE qs]
  refine bg λx hx=>?_
  obtain ⟨t,_,e⟩:=aw.mp (h.mem_iff.mp hx)
  show x=TM.iN (x.map Int.toNat)
  rw [←e,yl7]
theorem xh0 {H:Hp}{as:List Addr}{L:List (List Nat)}(h:Z5 H as L):Paired (λa x=>H a=some (.tup (x.map V.int))) as (L.map TM.iN):=by
 induction h with
 | nil=>exact .nil
 | cons f _ ih=>exact .cons (by rw [zr1];exact f) ih
theorem ym9 {H:Hp}:∀{as:List Addr} {L:List (List Nat)},Paired (λa x=>H a=some (.tup (x.map V.int))) as (L.map TM.iN)->Z5 H as L
 | [],[],_=>.nil
 | [],_::_,h=>by cases h
 | _::_,[],h=>by cases h
 | a::as,t::L,h=>by
  cases h with
  | cons f r=>exact .cons (by rw [←zr1];exact f) (ym9 r)
def yn2:Sp:=λvs H Q _=>∃(la:Addr) (n:Nat) (mas:List Addr) (S:List (List Nat)),vs=[.int n,.ref la]/\H la=some (.lst (mas.map V.ref))/\Z5 H mas S/\(∀s∈S,TM.IsT n s)/\TM.Few n S 360360/\0<n/\n<=60 /\
 ∀(l:Addr) (as:List Addr) (L:List (List Nat)) (H':Hp),H l=none->y4 H H'->H' l=some (.lst (as.map V.ref))->Z5 H' as L->L.length<=360360->L.Nodup->Srt L->(∀x,x∈L↔TM.Grp n (λz=>z∈S) x)->Q (.ref l) H'
theorem Y6:v1 ["_law_many","_law_makers","_law_found","_law_seen","_law_at","_law_one","_law_made"] ["_law_many","_law_makers"] (y6 B9):=scq
theorem yb9 (D:Def K mg "_law_all" B9 ["_law_many","_law_makers"] f fd) (B:Blt mg) (KB:r8 P w K mg base 1 "_law_behind" ["_law_one","_law_other"] (zs2 K)):p6 P w K mg base CX0 2 f fd ["_law_many","_law_makers"] yn2:=by
 refine D.F.ok Y6 (λvs H Q E h=>?_) (λcdv A outer s H vs Q E hr h=>?_)
 ·obtain ⟨la,n,mas,S,rfl,_⟩:=h
  rfl
 obtain ⟨la,n,mas,S,rfl,hla,hmas,hS,few,hn0,hn,q⟩:=h
 have hu:=xo4 hr
 refine ⟨_,z6 (y9 (i:=2) Y6.nd rfl (Or.inl rfl) (b9 (z0 (v9 (P1 rfl) rfl B.tuple Z6 (z0 (v9 Y8 rfl B.range X9 (z0 (pv 0) z4)) z4)) z4)))
  (z6 (y9 (i:=3) Y6.nd rfl (Or.inl rfl) (yr6 hu (l9 p8 (pv 2) z8 (λ_ _=>rfl)) X6))
  (z6 (y9 (i:=4) Y6.nd rfl (Or.inl rfl) z8)
  (z6 (yc9 PassesOwn.never (o4 ym3 (pv 4) (v8 u6 rfl B.len g7 (z0 (pv 2) z4)) (p7 _))
   (z6 (W7 PassesOwn.never rfl (W1 (pv 1)) (m7 (i:=5) Y6.nd rfl (Or.inl rfl))
    (z6 (y9 (i:=6) Y6.nd rfl (Or.inl rfl) (u4 KB hr rfl (z0 (l9 p8 (pv 2) (pv 4) (λ_ _=>rfl)) (z0 (pv 5) z4))))
    (z9 (k8 (zm7 (D2 hu (pv 6) (pv 3))) (z6 (zi2 hu (pv 3) (pv 6) X6 rfl)
     (z9 (h9 (J1 PySem.F.plainAttrs_list PySem.F.slot_list_append PySem.F.type_list_append b8 (pv 2) (z0 (pv 6) z4))))) u8))))
   (z9 (y9 (i:=4) Y6.nd rfl (Or.inl rfl) (v0 i9 (pv 4) z8)))))
  (z9 (v7 (v8 zt2 rfl B.sorted zd6 (z0 (pv 2) z4))))))),?_⟩
 refine ⟨_,rfl,_,rfl,λp hp=>⟨p,0,(n:Int),rfl,z5,⟨by lia,by lia,by lia,by lia,by lia⟩,λr hr'=>?_⟩⟩
 rw [show ((n:Int)-0).toNat=n by lia,U3]
 have pr:p≠r:=y0 z5 hr'
 have hr0:H r=none:=by
  have:=hr'
  rwa [z7 (Ne.symm pr)] at this
 have s1:y4 H (upd (upd H p (.rng 0 (n:Int))) r (.tup (tI (List.range n)))):=p0 (y8 hp _) hr0 _
 have r1:(upd (upd H p (.rng 0 (n:Int))) r (.tup (tI (List.range n)))) r=some (.tup (tI (List.range n))):=z5
 generalize upd (upd H p (.rng 0 (n:Int))) r (.tup (tI (List.range n)))=H1 at s1 r1 ⊢
 refine ⟨(by show 1<=sizeLine;decide),λfl hfl=>?_⟩
 have hfl0:H fl=none:=s1.free hfl
 have s2:=y8 hfl (.lst [V.ref r])
 have f2:(upd H1 fl (.lst [V.ref r])) fl=some (.lst ([r].map V.ref)):=z5
 generalize upd H1 fl (.lst [V.ref r])=H2 at s2 f2 ⊢
 refine λhd hhd=>?_
 have hhd0:H hd=none:=s1.free (s2.free hhd)
 have fd:fl≠hd:=y0 f2 hhd
 have rd:r≠hd:=y0 (s2 _ _ r1) hhd
 refine ⟨_,rfl,fl,_,_,_,rfl,rfl,SqL.of (by rw [z7 fd];exact f2),rfl,z5,kT (List.range n),r,rfl,by rw [yw7,z7 rd];exact s2 _ _ r1,?_⟩
 have S3:y4 H (upd (upd H2 hd (.dT [])) hd (.dT [(kT (List.range n),V.bl true)])):=p0 (p0 (s1.trans s2) hhd0 _) hhd0 _
 have d3:(upd (upd H2 hd (.dT [])) hd (.dT [(kT (List.range n),V.bl true)])) hd=some (.dT (kTs [List.range n])):=z5
 have f3:(upd (upd H2 hd (.dT [])) hd (.dT [(kT (List.range n),V.bl true)])) fl=some (.lst ([r].map V.ref)):=by rw [z7 fd,z7 fd];exact f2
 have r3:(upd (upd H2 hd (.dT [])) hd (.dT [(kT (List.range n),V.bl true)])) r=some (.tup (tI (List.range n))):=by rw [z7 rd,z7 rd];exact s2 _ _ r1
 generalize upd (upd H2 hd (.dT [])) hd (.dT [(kT (List.range n),V.bl true)])=H3 at S3 d3 f3 r3 ⊢
 have hsz:360361<sizeLine:=by decide
 refine xc0 (λσ H4=>∃(k:Nat) (L:List (List Nat)) (as:List Addr) (v5 v6:Option V),σ=[some (.int n),some (.ref la),some (.ref fl),some (.ref hd),some (.int k),v5,v6]/\y4 H H4/\H4 fl=some (.lst (as.map V.ref))/\Z5 H4 as L/\H4 hd=some (.dT (kTs L))/\Fnd n S L k)
  (λ(σ:St) (_:Hp)=>match σ with|[_,_,_,_,some (.int k),_,_]=>360361-k.toNat|_=>0)
  ⟨0,[List.range n],[r],none,none,rfl,S3,f3,.cons r3 .nil,d3,by simp,by simp,λx hx=>by rw [ah.mp hx];exact .one,λi x hi=>absurd hi (cW _),aQ _⟩ ?_ ?_
 ·rintro σ H4 ⟨k,L,as,v5,v6,rfl,s4,f4,t4,d4,fnd⟩
  have hLl:=few L fnd.nd fnd.grp
  have hal:as.length=L.length:=Paired.length t4
  refine ⟨_,rfl,_,rfl,fl,_,rfl,.inl (SqL.of f4),_,_,rfl,rfl,_,rfl,?_⟩
  rw [ae,hal]
  by_cases hk:k<L.length
  ·rw [decide_eq_true (show ((k:Nat):Int)<((L.length:Nat):Int) by lia)]
   refine b6 ?_
   have hx:L[k]?=some L[k]:=aa hk
   have hxG:=fnd.grp _ (bH hk)
   have hxT:=hxG.isT hS
   generalize L[k]=x at hx hxG hxT
   refine ⟨_,rfl,la,rfl,⟨_,SqL.of (s4 _ _ hla)⟩,R4 (K:=K) (a:=la) (xs:=mas.map V.ref) (λj σ H5=>∃(L':List (List Nat)) (as':List Addr) (v5 v6:Option V),σ=[some (.int n),some (.ref la),some (.ref fl),some (.ref hd),some (.int k),v5,v6]/\y4 H H5/\H5 fl=some (.lst (as'.map V.ref))/\Z5 H5 as' L'/\H5 hd=some (.dT (kTs L'))/\L'.Nodup/\(∀y∈L',TM.Grp n (λz=>z∈S) y)/\(∃m,L'=L++m)/\∀s∈S.take j,TM.beh x s∈L')
    ⟨L,as,v5,v6,rfl,s4,f4,t4,d4,fnd.nd,fnd.grp,⟨[],(ca _).symm⟩,λs hs=>by rw [fK] at hs;cases hs⟩ (λj σ H5 _ ⟨_,_,_,_,_,s5,_⟩=>SqL.of (s5 _ _ hla)) ?_ ?_⟩
   ·rintro j y σ H5 hj ⟨L',as',v5,v6,rfl,s5,f5,t5,d5,nd5,grp5,⟨m5,em5⟩,dn5⟩
    obtain ⟨c,hc,rfl⟩:=zb9 hj
    obtain ⟨t,ht,hct⟩:=o0 hmas j c hc
    have htS:t∈S:=ax ht
    have htT:=hS t htS
    have hx5:L'[k]?=some x:=by rw [em5,aN hk];exact hx
    obtain ⟨b,hb1,hb2⟩:=X0 t5 k x hx5
    have gb:atI (as'.map V.ref) ((k:Nat):Int)=some (V.ref b):=i4 (by rw [ag,hb1];rfl)
    have zT:=hxT.beh htT
    have hL5:=few L' nd5 grp5
    have hal5:as'.length=L'.length:=Paired.length t5
    refine ⟨_,rfl,_,rfl,fl,_,_,_,rfl,rfl,SqL.of f5,gb,_,rfl,b,c,x,t,rfl,SqT.of hb2,SqT.of (s5 _ _ hct),by rw [hxT.length];lia,λz hz=>by rw [htT.length];exact hxT.lt hz,λtp H7 htp s7 e7=>?_⟩
    have e7:H7 tp=some (.tup (tI (TM.beh x t))):=e7
    have S7:=s5.trans s7
    have d7:=s7 _ _ d5
    have f7:=s7 _ _ f5
    have t7:=t5.same s7
    have e7k:H7 tp=some (.tup ((kT (TM.beh x t)).map kV)):=by rw [yw7];exact e7
    have zG:TM.Grp n (λz=>z∈S) (TM.beh x t):=.mul hxG htS
    refine ⟨_,rfl,_,rfl,hd,_,rfl,U6.t d7 e7k,_,rfl,?_⟩
    rw [zf7]
    by_cases hz:TM.beh x t∈L'
    ·rw [if_pos hz]
     refine k9 ⟨L',as',_,_,rfl,S7,f7,t7,d7,nd5,grp5,⟨m5,em5⟩,λs hs=>?_⟩
     rw [bO,ht] at hs
     rcases aE.mp hs with h|h
     ·exact dn5 s h
     ·obtain rfl:s=t:=by simpa using h
      exact hz
    ·rw [if_neg hz]
     refine b6 ?_
     have hkl:(kTs L').length<sizeLine:=by unfold kTs;rw [ae];lia
     refine ⟨_,rfl,_,rfl,hd,_,rfl,zn8.t d7 e7k hkl,?_⟩
     rw [ys2 hz]
     have fd7:fl≠hd:=fd
     have tph:tp≠hd:=λz=>by subst z;rw [d7] at e7;cases e7
     have ntd:∀xs,H7 hd≠some (.tup xs):=λxs z=>by rw [d7] at z;cases z
     have S8:y4 H (upd H7 hd (.dT (kTs (L'++[TM.beh x t])))):=p0 S7 hhd0 _
     have f8:(upd H7 hd (.dT (kTs (L'++[TM.beh x t])))) fl=some (.lst (as'.map V.ref)):=by rw [z7 fd7];exact f7
     have d8:(upd H7 hd (.dT (kTs (L'++[TM.beh x t])))) hd=some (.dT (kTs (L'++[TM.beh x t]))):=z5
     have t8:=Z5.upd (o:=.dT (kTs (L'++[TM.beh x t]))) t7 ntd
     have e8:(upd H7 hd (.dT (kTs (L'++[TM.beh x t])))) tp=some (.tup (tI (TM.beh x t))):=by rw [z7 tph];exact e7
     generalize upd H7 hd (.dT (kTs (L'++[TM.beh x t])))=H8 at S8 f8 d8 t8 e8 ⊢
     refine ⟨_,rfl,.inl ⟨rfl,_,SqL.of f8⟩,_,rfl,fl,_,_,rfl,rfl,f8,by rw [ae,hal5];lia,?_⟩
     have ntf:∀xs,H8 fl≠some (.tup xs):=λxs z=>by rw [f8] at z;cases z
     refine ⟨L'++[TM.beh x t],as'++[tp],_,_,rfl,p0 S8 hfl0 _,by rw [z5,aV];rfl,Paired.snoc (t8.upd ntf) (by rw [z7 (λz=>by subst z;rw [f8] at e8;cases e8)];exact e8),by rw [z7 (Ne.symm fd)];exact d8,?_,λy hy=>?_,⟨m5++[TM.beh x t],by rw [em5,bD]⟩,λs hs=>?_⟩
     ·refine bj.mpr ⟨nd5,by simp,λa ha c hc e=>hz ?_⟩
      rw [←ah.mp hc,←e]
      exact ha
     ·rcases aE.mp hy with h|h
      ·exact grp5 y h
      ·rw [ah.mp h];exact zG
     ·rw [bO,ht] at hs
      rcases aE.mp hs with h|h
      ·exact aJ _ (dn5 s h)
      ·obtain rfl:s=t:=by simpa using h
       exact aD _ (by simp)
   ·rintro σ H5 ⟨L',as',v5,v6,rfl,s5,f5,t5,d5,nd5,grp5,⟨m5,em5⟩,dn5⟩
    rw [ae,Paired.length hmas,bz] at dn5
    have hL5:=few L' nd5 grp5
    refine ⟨_,rfl,_,_,rfl,rfl,⟨k+1,L',as',v5,v6,?_,s5,f5,t5,d5,nd5,by rw [em5];exact aJ _ fnd.one,grp5,λi y hi hy s hs=>?_,?_⟩,?_⟩
    ·rw [show ((k+1:Nat):Int)=(k:Int)+1 by lia]
     rfl
    ·by_cases e:i=k
     ·subst e
      rw [em5,aN hk,hx] at hy
      rw [←Option.some.inj hy]
      exact dn5 s hs
     ·have hi':i<k:=by lia
      rw [em5,aN (by lia)] at hy
      rw [em5]
      exact aJ _ (fnd.done i y hi' hy s hs)
    ·rw [em5,aq]
     lia
    ·show 360361-((k:Int)+1).toNat<360361-((k:Int)).toNat
     lia
  ·rw [decide_eq_false (show ¬((k:Nat):Int)<((L.length:Nat):Int) by lia)]
   refine k9 ?_
   have hle:=fnd.le
   have gAll:=TM.grp_closed hS fnd.nd fnd.one fnd.grp λy hy s hs=>by
    obtain ⟨i,hi,e⟩:=aY.mp hy
    exact fnd.done i y (by lia) (by rw [aa hi,e]) s hs
   refine ⟨_,rfl,fl,as,L.map TM.iN,rfl,SqL.of f4,xh0 t4,λx hx=>?_,by rw [ae];lia,λl bs qs hl0 hq1 hq2 hq3=>?_⟩
   ·obtain ⟨y,hy,rfl⟩:=aw.mp hx
    intro e
    have hl:=((fnd.grp y hy).isT hS).length
    have:y.length=0:=by rw [show y.length=(TM.iN y).length by unfold TM.iN;rw [ae],e];rfl
    lia
   ·obtain ⟨M,hM,rfl⟩:=ys4 hq1
    have sl:=y8 hl0 (.lst (bs.map V.ref))
    refine q l bs M _ (s4.free hl0) (s4.trans sl) z5 ((ym9 hq3).same sl) (by rw [hM.length_eq];lia) (hM.nodup_iff.mpr fnd.nd) (ba.mp hq2) λx=>?_
    rw [hM.mem_iff]
    exact gAll x
 ·rintro σ H4 Q1 Q2 h ⟨a1,e1,a2,e2,a3,a4,e3,sq,b1,b2,e4,e5,k,e6,q1⟩
  exact ⟨a1,e1,a2,e2,a3,a4,e3,sq,b1,b2,e4,e5,k,e6,h _ _ q1⟩
theorem yf6 (n:Nat):(List.replicate n true).all id=true:=by
 induction n with
 | zero=>rfl
 | succ n ih=>rw [fq,fg,ih];rfl
def ye3:Sp:=λvs H Q _=>∃(a b:Addr) (as bs:List Addr) (us:List (List Nat)) (n:Nat),vs=[.ref a,.ref b]/\H a=some (.lst (as.map V.ref))/\Z5 H as us/\H b=some (.lst (bs.map V.ref))/\Z5 H bs us/\(∀u∈us,TM.IsT n u)/\n<=60/\∀H',y4 H H'->Q (.bl true) H'
theorem zc5:v1 ["_law_found","_law_due","_law_one"] ["_law_found","_law_due"] (y6 E1):=scq
theorem zv1 (D:Def K mg "_law_rows" E1 ["_law_found","_law_due"] f fd) (B:Blt mg) (KW:r8 P w K mg base 1 "_law_whole" ["_law_found"] zd2):p6 P w K mg base CX0 2 f fd ["_law_found","_law_due"] ye3:=by
 refine D.F.ok zc5 (λvs H Q E h=>?_) (λcdv A outer s H vs Q E hr h=>?_)
 ·obtain ⟨a,b,as,bs,us,n,rfl,_⟩:=h
  rfl
 obtain ⟨a,b,as,bs,us,n,rfl,ha,hta,hb,htb,hT,hn,q⟩:=h
 refine ⟨_,z6 (k8 (PW.pt (J2 (Y0 (Y1 (v8 Z2 rfl B.isinstance i5 (z0 (pv 0) (z0 (O4 (v:=.ty "list") rfl B.list Y7 rfl) z4))))) (N1 (o4 (yy5 hr.units) (pv 0) (pv 1) (p7 _))))) (z9 (v7 X6)) u8)
  (z6 (W7 PassesOwn.never rfl (W1 (pv 0)) (m7 (i:=2) zc5.nd rfl (Or.inl rfl))
   (z9 (k8 (PW.pt (J2 (Y0 (Y1 (v8 Z2 rfl B.isinstance i5 (z0 (pv 2) (z0 (O4 (v:=.ty "tuple") rfl B.tuple Z6 rfl) z4))))) (N1 (Y0 (Y1 (v8 (zd7 rfl) rfl B.all yf8 (z0 (f9 [] ["_law_x"] rfl (zw1 (pv 2)) (λ_ _ _ _=>u4 KW hr rfl (z0 (pv 0) z4))) z4))))))) (z9 (v7 X6)) u8)))
  (z9 (v7 X6))),?_⟩
 obtain ⟨tR,tS⟩:=zg7 us
 refine ⟨_,rfl,_,_,_,_,rfl,M7.lst ha,M8 za5,_,rfl,k9 ?_⟩
 refine ⟨_,rfl,_,rfl,.list (us.map Y3),.list (us.map Y3),.lst (SqL.of ha) (yd2 hta),.lst (SqL.of hb) (yd2 htb),tS,tS,_,rfl,?_⟩
 show if (!PyData.eqv (.list (us.map Y3)) (.list (us.map Y3)))=true then _ else _
 rw [tR]
 refine k9 ⟨_,rfl,a,rfl,⟨_,SqL.of ha⟩,R4 (K:=K) (a:=a) (xs:=as.map V.ref) (λi σ H2=>∃v2,σ=[some (.ref a),some (.ref b),v2]/\y4 H H2) ⟨none,rfl,y4.refl _⟩ (λi σ H2 _ ⟨_,_,s2⟩=>SqL.of (s2 _ _ ha)) ?_ ?_⟩
 ·rintro i x σ H2 hx ⟨v2,rfl,s2⟩
  obtain ⟨r,hr',rfl⟩:=ag .. ▸ hx |> λh=>df.mp h
  obtain ⟨u,hu,hxu⟩:=o0 hta i r hr'
  have uT:=hT u (ax hu)
  have ul:=uT.length
  have r2:=s2 _ _ hxu
  dsimp only [p3]
  refine ⟨_,rfl,_,_,_,_,rfl,M7.tup r2,M8 zk9,_,rfl,k9 ?_⟩
  refine ⟨_,rfl,r,rfl,⟨_,SqT.of r2⟩,A7 (SqT.of r2) ((List.replicate n true).map V.bl) (by rw [ae,cA,u5,ul]) (by rw [u5,ul];exact aB hn (by decide)) ?_ ?_⟩
  ·intro i H3 v hv s3 _ _ _ _
   obtain ⟨y,hy,rfl⟩:=D6 hv
   have hi:i<n:=by rw [←ul];exact (ap.mp hy).1
   refine ⟨_,rfl,_,rfl,y4.refl _,?_⟩
   rw [ag,de,if_pos hi]
   rfl
  intro nm H3 _ s3 hnm
  refine ⟨nm,_,rfl,SqL.of hnm,_,rfl,?_⟩
  rw [yf6]
  exact k9 ⟨_,rfl,s2.trans s3⟩
 ·rintro σ H2 ⟨v2,rfl,s2⟩
  exact q H2 s2
theorem xc4 (us:List (List Nat))(t:List Nat):((us.map Y3).any λe=>PyData.eqv e (Y3 t))=decide (t∈us):=by
 induction us with
 | nil=>rfl
 | cons u us ih =>
  rw [aR,eG,ih,xd0]
  by_cases h:u=t
  ·subst h
   rw [decide_eq_true rfl,decide_eq_true au]
   rfl
  ·rw [decide_eq_false h,fO]
   exact decide_eq_decide.mpr ⟨λz=>ao _ z,λz=>(ay.mp z).resolve_left λq=>h q.symm⟩
theorem ym8 {H:Hp}{a:Addr}{t:List Nat}(h:H a=some (.tup (tI t))):Dt H (.ref a) (Y3 t):=by
 unfold Y3
 rw [bC]
 exact yi8 h
theorem yz4 {H:Hp}{as:List Addr}{ts:List (List Nat)}(h:Z5 H as ts):Dts H (as.map V.ref) (ts.map Y3):=by
 induction h with
 | nil=>exact .nil
 | cons h _ ih=>exact .cons (ym8 h) ih
theorem V3 {t1 u:TS}{D:J3}{σ:St}{H:Hp}(h:∀N:St->Hp->Prop,(∀σ H,u D σ H->N σ H)->t1 { D with nx:=N } σ H):xb4 t1 u D σ H:=h (λσ H=>u D σ H) λ_ _ h=>h
theorem yd8 {X:Cx}{st:List Stmt}{R:TS->Prop}{t:TS}(h:DSs X st t)(r:R t):∃t,PSs X st t/\R t:=⟨t,h.h,r⟩
structure A4 (cG cC cB cS:Addr) (H:Hp) (g:Addr) (n:Nat) (ts L:List (List Nat)) (S:ChS):Prop where
 ga:u7 cG cC cB cS n H g ts S
 len:L.length=S.chn.many n n
 nth:∀i u,L[i]?=some u->S.chn.NthL (List.range' 0 n) i (List.range n) u
 mem:∀u,u∈L↔TM.Grp n (λz=>z∈ts) u
theorem A4.same {cG cC cB cS:Addr}{H H':Hp}{g:Addr}{n:Nat}{ts L:List (List Nat)}{S:ChS}(h:A4 cG cC cB cS H g n ts L S)(s:y4 H H'):A4 cG cC cB cS H' g n ts L S:=⟨h.ga.same s,h.len,h.nth,h.mem⟩
def zs0 (K:W.Frag)(cG cC cB cS:Addr):Sp:=λvs H Q _=>∃(g ea wa:Addr) (n:Nat) (ts L:List (List Nat)) (S:ChS) (es:List Addr) (W:List Nat) (c:Int),vs=[.ref g,.ref ea,.ref wa,.int c]/\A4 cG cC cB cS H g n ts L S/\H ea=some (.lst (es.map V.ref))/\Z5 H es L/\L.length<=1000/\H wa=some (.lst (tI W))/\W.Nodup/\(∀x∈W,x<n)/\0<W.length/\∀H',y4 H H'->Q (.bl true) H'
theorem i6:v1 ["_law_group","_law_every","_law_window_here","_law_cell_here","_law_many","_law_k","_law_one","_law_found","_law_at","_law_to","_law_near"] ["_law_group","_law_every","_law_window_here","_law_cell_here"] (y6 Q7):=scq
theorem zo7 {cG cC cB cS:Addr}(D:Def K mg "_law_asked" Q7 ["_law_group","_law_every","_law_window_here","_law_cell_here"] f fd) (B:Blt mg) (cg:h8 K cG U8) (MN:Z1 P w K mg base 3 cG "nth" ["self","k"] (yn7 cG cC cB cS)) (MP:Z1 P w K mg base 6 cG "place_of" ["self","thing"] (yn8 cG cC cB cS)) (MH:Z1 P w K mg base 4 cG "has" ["self","thing"] (zx4 cG cC cB cS)) (KW:r8 P w K mg base 1 "_law_whole" ["_law_found"] zd2) (KT:r8 P w K mg base 1 "_law_turning" ["_law_cell_here","_law_many"] R6) (KP:r8 P w K mg base 1 "_law_spread" ["_law_part","_law_window_here","_law_many"] W9):p6 P w K mg base CX0 7 f fd ["_law_group","_law_every","_law_window_here","_law_cell_here"] (zs0 K cG cC cB cS):=by
 refine D.F.ok i6 (λvs H Q E h=>?_) (λcdv Ar outer sh H vs Q E hr h=>?_)
 ·obtain ⟨g,ea,wa,n,ts,L,S,es,W,c,rfl,_⟩:=h
  rfl
 obtain ⟨g,ea,wa,n,ts,L,S,es,W,c,rfl,al,hea,hes,hL,hwa,hWn,hWl,hW0,q⟩:=h
 have hu:(Ar.deeper (PyProof.Rows.envOfC "_law_asked" (y6 Q7) sh.heap.objs.size f cdv)).units+65<cLine:=by have:=hr.un;lia
 refine ⟨_,z6 (y9 (i:=4) i6.nd rfl (Or.inl rfl) (v8 u6 rfl B.len g7 (z0 (l9 p8 (pv 1) z8 (λ_ _=>rfl)) z4)))
  (z6 (y9 (i:=5) i6.nd rfl (Or.inl rfl) (v0 l4 (v0 W0 (pv 3) z8) (v8 u6 rfl B.len g7 (z0 (pv 1) z4))))
  (z6 (y9 (i:=6) i6.nd rfl (Or.inl rfl) (l9 p8 (pv 1) (pv 5) (λ_ _=>rfl)))
  (z6 (k8 (PW.pt (J2 (o4 (yy5 hr.units) (c5 cg.cls MN hr (pv 0) (z0 (pv 5) z4)) (pv 6) (p7 _)) (J2 (Y0 (Y1 (u4 KW hr rfl (z0 (c5 cg.cls MP hr (pv 0) (z0 (pv 6) z4)) z4)))) (N1 (o4 yc5 (c5 cg.cls MP hr (pv 0) (z0 (pv 6) z4)) (pv 5) (p7 _)))))) (z9 (v7 X6)) u8)
  (z6 (y9 (i:=7) i6.nd rfl (Or.inl rfl) (v9 Q5 rfl B.list Y7 (z0 (pv 6) z4)))
  (z6 (y9 (i:=8) i6.nd rfl (Or.inl rfl) (l9 p8 (pv 2) (v0 l4 (v0 W0 (pv 3) z8) (v8 u6 rfl B.len g7 (z0 (pv 2) z4))) (λ_ _=>rfl)))
  (z6 (y9 (i:=9) i6.nd rfl (Or.inl rfl) (v0 l4 (v0 W0 (pv 3) z8) (pv 4)))
  (z6 (zw5 (B7 (z0 (l9 p8 (pv 7) (pv 9) (λ_ _=>rfl)) (z0 (l9 p8 (pv 7) (pv 8) (λ_ _=>rfl)) z4))) (yi4 rfl (V7 (zv9 (pv 7) (pv 8) zc6) (V7 (zv9 (pv 7) (pv 9) zc6) zi1))))
  (z6 (y9 (i:=10) i6.nd rfl (Or.inl rfl) (v9 c9 rfl B.tuple Z6 (z0 (pv 7) z4)))
  (z6 (k8 (o4 O3 (v0 l4 (pv 3) z8) z8 (p7 _)) (z9 (y9 (i:=10) i6.nd rfl (Or.inl rfl) (u4 KP hr rfl (z0 (u4 KT hr rfl (z0 (v0 W0 (pv 3) z8) (z0 (v8 u6 rfl B.len g7 (z0 (pv 2) z4)) z4))) (z0 (pv 2) (z0 (pv 4) z4)))))) u8)
  (z6 (k8 (o4 (xe6 hu) (pv 10) (pv 1) rfl) (z9 (v7 (S9 yc2 (c5 cg.cls MH hr (pv 0) (z0 (pv 10) z4)) X6 (p7 _)))) u8)
  (z9 (v7 (S9 yc2 (c5 cg.cls MH hr (pv 0) (z0 (pv 10) z4)) X6 (p7 _)))))))))))))),?_⟩
 have ga:=al.ga
 have hn:=ga.n60
 have hn0:=ga.n0
 have hTs:∀s,s∈ts->TM.IsT n s:=ga.tT
 have hLT:∀u∈L,TM.IsT n u:=λu hu=>((al.mem u).mp hu).isT hTs
 have hl0:0<L.length:=di ((al.mem _).mpr .one)
 have el:es.length=L.length:=Paired.length hes
 have rowAt:∀i,i<L.length->∃(r:Addr) (u:List Nat),(es.map V.ref)[i]?=some (V.ref r)/\L[i]?=some u/\H r=some (.tup (tI u)):=λi hi=>by
  have h1:es[i]?=some es[i]:=aa (by lia)
  obtain ⟨u,hu,hx⟩:=o0 hes i _ h1
  exact ⟨_,u,by rw [ag,h1];rfl,hu,hx⟩
 obtain ⟨dx,ma,A,mas,h1,h2,h3,h4⟩:=ga.at'
 obtain ⟨r0,u0,hr0,hu0,hx0⟩:=rowAt 0 hl0
 refine V3 λN hN=>?_
 refine ⟨_,rfl,_,_,_,_,rfl,rfl,SqL.of hea,i4 hr0,r0,_,rfl,.inr (SqT.of hx0),?_⟩
 rw [u5,(hLT u0 (ax hu0)).length]
 refine hN _ _ ?_
 clear hN N
 refine V3 λN hN=>?_
 refine ⟨_,rfl,_,_,rfl,rfl,⟨by decide,by decide⟩,_,rfl,ea,_,rfl,.inl (SqL.of hea),?_⟩
 rw [ae,el]
 obtain ⟨k,ek,hk⟩:=zh1 (c:=c / 4) hl0
 refine ⟨_,_,rfl,rfl,(by show (0:Int)<((L.length:Nat):Int);lia),?_⟩
 dsimp only [p3]
 rw [ek]
 refine hN _ _ ?_
 clear hN N
 obtain ⟨r,u,hr1,hu1,hx1⟩:=rowAt k hk
 have uT:=hLT u (ax hu1)
 have uG:=(al.mem u).mp (ax hu1)
 have ul:=uT.length
 have hkm:k<S.chn.many n n:=by rw [←al.len];exact hk
 have hnu:=al.nth k u hu1
 obtain ⟨_,_,cu,eu⟩:=ga.nth hkm hnu
 refine V3 λN hN=>?_
 refine ⟨_,rfl,_,rfl,_,_,_,_,rfl,rfl,SqL.of hea,i4 hr1,hN _ _ ?_⟩
 clear hN N
 refine V3 λN hN=>?_
 refine ⟨_,rfl,g,dx,_,rfl,h1,rfl,_,rfl,g,n,k,ts,S,rfl,ga,hkm,λr2 x H1 s1 hr2 hx=>?_⟩
 obtain ⟨_,_,cx,ex⟩:=ga.nth hkm hx
 obtain rfl:x=u:=ga.st.inv.ok.num_inj n 0 (List.range n) x u (bo n) ga.shut (TM.IsT.range n) cx cu (by rw [ex,eu])
 obtain ⟨sR,sS⟩:=K5 x
 refine ⟨_,rfl,Y3 x,Y3 x,L6 hr2,L6 (s1 _ _ hx1),sS,sS,_,rfl,?_⟩
 rw [sR]
 refine k9 ?_
 refine ⟨_,rfl,g,dx,_,rfl,s1 _ _ h1,rfl,_,rfl,g,r,n,ts,S,x,rfl,ga.same s1,s1 _ _ hx1,uT,uG,λH2 s2=>?_⟩
 have s12:=s1.trans s2
 rw [eu]
 refine ⟨_,rfl,_,rfl,k9 ?_⟩
 refine ⟨_,rfl,g,dx,_,rfl,s12 _ _ h1,rfl,_,rfl,g,r,n,ts,S,x,rfl,ga.same s12,s12 _ _ hx1,uT,uG,λH3 s3=>?_⟩
 have s13:=s12.trans s3
 rw [eu]
 refine ⟨_,rfl,rfl,_,rfl,?_⟩
 rw [o7,decide_eq_true rfl]
 refine k9 (hN _ _ ?_)
 clear hN N
 refine V3 λN hN=>?_
 refine ⟨_,rfl,r,_,rfl,.inr (SqT.of (s13 _ _ hx1)),λl hl=>?_⟩
 have s4:=y8 hl (.lst (tI x))
 have e4:(upd H3 l (.lst (tI x))) l=some (.lst (tI x)):=z5
 have hlH:H l=none:=s13.free hl
 generalize upd H3 l (.lst (tI x))=H4 at s4 e4 ⊢
 have s14:=s13.trans s4
 refine hN _ _ ?_
 clear hN N
 refine V3 λN hN=>?_
 obtain ⟨i0,ei0,hi0⟩:=zh1 (c:=c / 64) hW0
 refine ⟨_,rfl,_,rfl,_,_,rfl,rfl,⟨by decide,by decide⟩,_,rfl,wa,_,rfl,.inl (SqL.of (s14 _ _ hwa)),?_⟩
 rw [u5]
 refine ⟨_,_,rfl,rfl,(by show (0:Int)<((W.length:Nat):Int);lia),?_⟩
 dsimp only
 rw [ei0]
 have hWi:W[i0]?=some (W.getD i0 0):=by rw [ar,aa hi0];rfl
 have hi:W.getD i0 0<n:=hWl _ (ax hWi)
 generalize W.getD i0 0=i at hWi hi
 refine ⟨_,_,_,_,rfl,rfl,SqL.of (s14 _ _ hwa),O6 hWi,hN _ _ ?_⟩
 clear hN N
 refine V3 λN hN=>?_
 obtain ⟨j,ej,hj⟩:=zh1 (c:=c / 4096) hn0
 refine ⟨_,rfl,_,_,rfl,rfl,⟨by decide,by decide⟩,_,rfl,_,_,rfl,rfl,(by show (0:Int)<(n:Int);lia),?_⟩
 dsimp only [p3]
 rw [ej]
 refine hN _ _ ?_
 clear hN N
 refine V3 λN hN=>?_
 have ti:x[i]?=some (x.getD i 0):=uT.get_step hi
 have tj:x[j]?=some (x.getD j 0):=uT.get_step hj
 refine ⟨_,rfl,_,rfl,l,_,_,_,rfl,rfl,SqL.of e4,O6 tj,_,rfl,_,rfl,l,_,_,_,rfl,rfl,SqL.of e4,O6 ti,(by show 2<=sizeLine;decide),λp hp=>?_⟩
 have s5:=y8 hp (.tup [V.int ((x.getD j 0:Nat):Int),V.int ((x.getD i 0:Nat):Int)])
 have e5:=s5 _ _ e4
 have p5:(upd H4 p (.tup [V.int ((x.getD j 0:Nat):Int),V.int ((x.getD i 0:Nat):Int)])) p=some (.tup [V.int ((x.getD j 0:Nat):Int),V.int ((x.getD i 0:Nat):Int)]):=z5
 generalize upd H4 p (.tup [V.int ((x.getD j 0:Nat):Int),V.int ((x.getD i 0:Nat):Int)])=H5 at s5 e5 p5 ⊢
 refine ⟨p,_,rfl,SqT.of p5,rfl,_,_,rfl,_,rfl,_,rfl,l,tI x,_,i,rfl,rfl,e5,by rw [u5];exact za4 (by lia),_,_,rfl,_,rfl,_,rfl,l,tI (x.set i (x.getD j 0)),_,j,rfl,rfl,by rw [z5,zf5],by rw [u5,bE];exact za4 (by lia),rfl,?_⟩
 have yT:TM.IsT n ((x.set i (x.getD j 0)).set j (x.getD i 0)):=by
  have gi:x.getD i 0=x[i]'(by lia):=by rw [ar,aa (by lia)];rfl
  have gj:x.getD j 0=x[j]'(by lia):=by rw [ar,aa (by lia)];rfl
  rw [gi,gj]
  exact (List.set_set_perm (by lia) (by lia)).trans uT
 have s6:y4 H (upd (upd H5 l (.lst (tI (x.set i (x.getD j 0))))) l (.lst (tI ((x.set i (x.getD j 0)).set j (x.getD i 0))))):=p0 (p0 (s14.trans s5) hlH _) hlH _
 rw [zf5,zf5]
 have e6:(upd (upd H5 l (.lst (tI (x.set i (x.getD j 0))))) l (.lst (tI ((x.set i (x.getD j 0)).set j (x.getD i 0))))) l=some (.lst (tI ((x.set i (x.getD j 0)).set j (x.getD i 0)))):=z5
 generalize upd (upd H5 l (.lst (tI (x.set i (x.getD j 0))))) l (.lst (tI ((x.set i (x.getD j 0)).set j (x.getD i 0))))=H6 at s6 e6 ⊢
 generalize (x.set i (x.getD j 0)).set j (x.getD i 0)=y at yT e6
 refine hN _ _ ?_
 clear hN N
 refine V3 λN hN=>?_
 refine ⟨_,rfl,l,_,rfl,.inl ⟨SqL.of e6,λtp htp=>?_⟩⟩
 have s7:=s6.trans (y8 htp (.tup (tI y)))
 have t7:(upd H6 tp (.tup (tI y))) tp=some (.tup (tI y)):=z5
 generalize upd H6 tp (.tup (tI y))=H7 at s7 t7 ⊢
 refine hN _ _ ?_
 clear hN N
 refine zb6 (λσ H8=>∃(z:Addr) (t:List Nat),σ=[some (.ref g),some (.ref ea),some (.ref wa),some (.int c),some (.int n),some (.int k),some (.ref r),some (.ref l),some (.int i),some (.int j),some (.ref z)]/\y4 H H8/\H8 z=some (.tup (tI t))/\TM.IsT n t) ?_ λN hN=>?_
 ·rintro σ H8 ⟨z,t,rfl,s8,hz,tT⟩
  have is:∀b,(b=true↔TM.Grp n (λz=>z∈ts) t)->b=decide (t∈L):=λb hb=>by
   by_cases m:t∈L
   ·rw [decide_eq_true m];exact hb.mpr ((al.mem t).mp m)
   ·rw [decide_eq_false m]
    exact cE.mpr λh=>m ((al.mem t).mpr (hb.mp h))
  obtain ⟨_,dS⟩:=K5 t
  obtain ⟨_,lS⟩:=zg7 L
  refine V3 λN hN=>?_
  refine ⟨_,rfl,_,rfl,ea,es.map V.ref,L.map Y3,Y3 t,rfl,s8 _ _ hea,yz4 (hes.same s8),ym8 hz,lS,dS,_,rfl,?_⟩
  rw [xc4]
  by_cases m:t∈L
  ·rw [decide_eq_true m]
   refine b6 ⟨_,rfl,g,dx,_,rfl,s8 _ _ h1,rfl,_,rfl,.inl ⟨g,z,n,ts,S,t,rfl,ga.same s8,hz,tT,λb H9 s9 hb=>?_⟩⟩
   rw [is b hb,decide_eq_true m]
   exact ⟨_,_,rfl,rfl,q H9 (s8.trans s9)⟩
  ·rw [decide_eq_false m]
   refine k9 (hN _ _ ?_)
   refine ⟨_,rfl,g,dx,_,rfl,s8 _ _ h1,rfl,_,rfl,.inl ⟨g,z,n,ts,S,t,rfl,ga.same s8,hz,tT,λb H9 s9 hb=>?_⟩⟩
   rw [is b hb,decide_eq_false m]
   exact ⟨_,_,rfl,rfl,q H9 (s8.trans s9)⟩
 ·refine ⟨_,rfl,_,_,rfl,rfl,(by show (0:Int)<2;decide),rfl,_,rfl,?_⟩
  rw [o7]
  by_cases c2:c % 2=1
  ·rw [decide_eq_true c2]
   refine b6 ⟨_,rfl,_,_,rfl,rfl,⟨by decide,by decide⟩,_,rfl,wa,_,rfl,.inl (SqL.of (s7 _ _ hwa)),c / 2,W.length,by rw [u5];rfl,?_,λrt H8 row hrt0 s8 rT hrt=>?_⟩
   ·have:=TM.nodup_below hWn hWl
    lia
   refine ⟨_,rfl,_,rfl,rt,wa,n,row,W,rfl,.inr hrt,s8 _ _ (s7 _ _ hwa),by rw [rT.length];exact rT,by rw [rT.length];exact af _,hWn,hWl,hn,λr9 H9 t hr90 s9 tT _ hr9=>?_⟩
   exact hN _ _ ⟨r9,t,rfl,s7.trans (s8.trans s9),hr9,tT⟩
  ·rw [decide_eq_false c2]
   exact k9 (hN _ _ ⟨tp,y,rfl,s7,t7,yT⟩)
theorem u7.hasN {cG cC cB cS:Addr}{n:Nat}{H:Hp}{g:Addr}{ts:List (List Nat)}{S:ChS}(ga:u7 cG cC cB cS n H g ts S):TM.HasN n ts (S.chn.many n n):=by
 obtain ⟨L,h1,h2,h3⟩:=ga.st.inv.ok.all n (af n) λj _ hj=>ga.st.inv.shut (ga.st.done j hj)
 rw [cz] at h2
 exact ⟨L,h1,λx=>(h2 x).trans (ga.grp x),h3⟩
theorem HasN.many {cG cC cB cS:Addr}{n k:Nat}{H:Hp}{g:Addr}{ts:List (List Nat)}{S:ChS}(h:TM.HasN n ts k)(ga:u7 cG cC cB cS n H g ts S):S.chn.many n n=k:=by
 obtain ⟨L,h1,h2,h3⟩:=ga.hasN
 rw [←h3]
 exact h.uniq h1 h2
theorem u7.nth_uniq {cG cC cB cS:Addr}{n:Nat}{H:Hp}{g:Addr}{ts:List (List Nat)}{S:ChS}(ga:u7 cG cC cB cS n H g ts S){k:Nat}(hk:k<S.chn.many n n){x y:List Nat}(hx:S.chn.NthL (List.range' 0 n) k (List.range n) x)(hy:S.chn.NthL (List.range' 0 n) k (List.range n) y):x=y:=by
 obtain ⟨_,_,cx,ex⟩:=ga.nth hk hx
 obtain ⟨_,_,cy,ey⟩:=ga.nth hk hy
 exact ga.st.inv.ok.num_inj n 0 (List.range n) x y (bo n) ga.shut (TM.IsT.range n) cx cy (by rw [ex,ey])
def yd3 (n:Nat):List Nat->List Nat->List (List Nat)
 | _,[]=>[]
 | W,z::zs=>TM.sp n (W.take z) (TM.dh z 1 1)::yd3 n (W.drop z) zs
def xn3:St->Hp->Prop:=λ_ _=>True
theorem K9:xh2 xn3:=λ_ _ _ _ _=>trivial
theorem za8 {ds:List PyData}(h:Nat.ble ds.length 1000=true:=by rfl):ds.length<=sizeLine:=small (Nat.le_of_ble_eq_true h)
def xq1:List PyData:=[.list [.int 10,.int 10,.int 10],.list [.int 7,.int 11,.int 13],.list [.int 2,.int 20,.int 25]]
theorem zx9 {H:Hp}{v:V}{i j k:Int}(h:Dt H v (.list [.int i,.int j,.int k])):∃l,v=.ref l/\H l=some (.lst [.int i,.int j,.int k]):=by
 cases h with
 | @lst l xs _ e r =>
  cases r with
  | cons h1 r=>cases r with
   | cons h2 r=>cases r with
    | cons h3 r =>
     cases r
     cases h1
     cases h2
     cases h3
     exact ⟨l,rfl,e⟩
theorem xg5 {H:Hp}{v:V}(h:Dt H v (.list xq1)):∃l o1 o2 o3,v=.ref l/\H l=some (.lst [.ref o1,.ref o2,.ref o3])/\H o1=some (.lst (tI [10,10,10]))/\H o2=some (.lst (tI [7,11,13]))/\H o3=some (.lst (tI [2,20,25])):=by
 cases h with
 | @lst l xs _ e r =>
  cases r with
  | cons h1 r=>cases r with
   | cons h2 r=>cases r with
    | cons h3 r =>
     cases r
     obtain ⟨o1,rfl,e1⟩:=zx9 h1
     obtain ⟨o2,rfl,e2⟩:=zx9 h2
     obtain ⟨o3,rfl,e3⟩:=zx9 h3
     exact ⟨l,o1,o2,o3,rfl,e,e1,e2,e3⟩
def zs3 (K:W.Frag):Sp:=λvs H Q _=>∃(a:Addr) (ns:List Int),vs=[.ref a]/\SqL K H a (ns.map V.int)/\∀H',y4 H H'->Q (.bl true) H'
theorem p4:v1 ["_law_script","_law_sizes","_law_many","_law_window_here","_law_makers","_law_size","_law_group","_law_refused","_law_found","e","_law_k"] ["_law_script"] (y6 Q8):=scq
theorem zo9 {X TE cG cC cB cS:Addr}(D:Def K mg "_law_three" Q8 ["_law_script"] f fd) (B:Blt mg) (cg:h8 K cG U8) (KG:yf4 P w K mg base 7 cG "Group" ["self","many","makers"] (zn5 cG cC cB cS)) (MX:xc2 P w K mg base 4 cG "listed" ["self"] (T6 X cG cC cB cS)) (MS:Z1 P w K mg base 2 cG "size" ["self"] (zc8 cG cC cB cS)) (MH:Z1 P w K mg base 4 cG "has" ["self","thing"] (zx4 cG cC cB cS)) (MN:Z1 P w K mg base 3 cG "nth" ["self","k"] (yn7 cG cC cB cS)) (KC:r8 P w K mg base 1 "_law_cell" ["_law_script","_law_k"] (P9 K)) (KW:r8 P w K mg base 2 "_law_window" ["_law_cell_here","_law_many","_law_size"] T7) (KP:r8 P w K mg base 1 "_law_spread" ["_law_part","_law_window_here","_law_many"] W9) (ET:yt5 K mg TE) (EA:yt4 K mg TE "TooMany" X):p6 P w K mg base CX0 9 f fd ["_law_script"] (zs3 K):=by
 refine D.F.ok p4 (λvs H Q E h=>?_) (λcdv Ar outer sh H vs Q E hr h=>?_)
 ·obtain ⟨a,ns,rfl,_⟩:=h
  rfl
 obtain ⟨sc,ns,rfl,hS,q⟩:=h
 have hu:(Ar.deeper (PyProof.Rows.envOfC "_law_three" (y6 Q8) sh.heap.objs.size f cdv)).units<cLine:=by have:=hr.un;lia
 apply yd8
 ·apply n4
  ·exact xj3 (i:=1) p4.nd rfl (Or.inl rfl) (xn8 p8 (zv7 (C:=xn3) (ds:=xq1) (Z8 K9 (zv7 (Z8 K9 L0 (Z8 K9 L0 (Z8 K9 L0 zi0))) za8) (Z8 K9 (zv7 (Z8 K9 L0 (Z8 K9 L0 (Z8 K9 L0 zi0))) za8) (Z8 K9 (zv7 (Z8 K9 L0 (Z8 K9 L0 (Z8 K9 L0 zi0))) za8) zi0))) za8) (v0 l4 (u4 KC hr rfl (z0 (pv 0) (z0 z8 z4))) z8) (λ_ _=>rfl))
  apply n4
  ·exact DS.mk (y9 (i:=2) p4.nd rfl (Or.inl rfl) (v0 i9 z8 (v0 l4 (v0 W0 (u4 KC hr rfl (z0 (pv 0) (z0 z8 z4))) z8) z8)))
  apply n4
  ·exact DS.mk (y9 (i:=3) p4.nd rfl (Or.inl rfl) (u4 KW hr rfl (z0 (u4 KC hr rfl (z0 (pv 0) (z0 z8 z4))) (z0 (pv 2) (z0 (v8 (yp0 rfl) rfl B.sum xj2 (z0 (pv 1) z4)) z4)))))
  apply n4
  ·exact DS.mk (y9 (i:=4) p4.nd rfl (Or.inl rfl) (b9 z4))
  apply n4
  ·exact DS.mk (W7 PassesOwn.never rfl (W1 (pv 1)) (m7 (i:=5) p4.nd rfl (Or.inr rfl))
    (z6 (h9 (J1 PySem.F.plainAttrs_list PySem.F.slot_list_append PySem.F.type_list_append b8 (pv 4) (z0 (u4 KP hr rfl (z0 (f9 [5] ["_law_k","_law_size"] rfl (X1 rfl B.range (z0 (pv 5) z4)) (λ_ _ _ _=>v0 l4 (v0 i9 (pv 0) z8) (pv 1))) (z0 (pv 3) (z0 (pv 2) z4)))) z4)))
    (z9 (y9 (i:=3) p4.nd rfl (Or.inl rfl) (G8 zc7 (pv 3) (L5 (pv 5)) zw3)))))
  apply n4
  ·exact DS.mk (y9 (i:=6) p4.nd rfl (Or.inl rfl) (zm2 KG hr rfl (z0 (pv 2) (z0 (pv 4) z4))))
  apply n4
  ·exact DS.mk (y9 (i:=7) p4.nd rfl (Or.inl rfl) X6)
  apply n4
  ·exact DS.mk (y9 (i:=8) p4.nd rfl (Or.inl rfl) (b9 z4))
  apply n4
  ·exact DS.mk (xf3 (yz1 (yz0 (i:=8) cg.cls MX hr (pv 6) p4.nd rfl (Or.inl rfl)) xf5) (xp4 (i:=9) EA.c ET.c (by simp) rfl ET.m p4.nd rfl rfl (λea=>z9 (y9 (i:=7) p4.nd rfl (Or.inl rfl) (v8 zt0 rfl B.isinstance i5 (z0 (pv 9) (z0 (ym5 (v:=.ref X) rfl EA.m rfl) z4)))))) rfl rfl)
  apply n4
  ·exact DS.mk (k8 (o4 O3 (l9 p8 (pv 1) z8 (λ_ _=>rfl)) z8 (p7 _)) (z9 (v7 (L3 (pv 7) (G7 (S9 O3 (W6 cg.cls MS hr (pv 6)) z8 (p7 _)))))) u8)
  apply n4
  ·exact DS.mk (k8 (PW.pt (J2 (Y1 (pv 7)) (J2 (o4 yc5 (v8 u6 rfl B.len g7 (z0 (pv 8) z4)) z8 (p7 _)) (N1 (o4 yc5 (W6 cg.cls MS hr (pv 6)) z8 (p7 _)))))) (z9 (v7 X6)) u8)
  apply n4
  ·exact DS.mk (W7 PassesOwn.never rfl (yr8 rfl B.range (z0 z8 (z0 z8 (z0 z8 z4)))) (m7 (i:=10) p4.nd rfl (Or.inl rfl))
    (z9 (k8 (PW.pt (J2 (Y0 (o4 (xl6 hu) (l9 p8 (pv 8) (pv 10) (λ_ _=>rfl)) (l9 p8 (pv 8) (v0 i9 (pv 10) z8) (λ_ _=>rfl)) (p7 _))) (N1 (o4 yc3 (c5 cg.cls MH hr (pv 6) (z0 (l9 p8 (pv 8) (pv 10) (λ_ _=>rfl)) z4)) X6 (p7 _))))) (z9 (v7 X6)) u8)))
  exact DSs.mk (z9 (v7 (L3 (S9 (zv4 hr.units) (l9 p8 (pv 8) z8 (λ_ _=>rfl)) (v9 (P1 rfl) rfl B.tuple Z6 (z0 (v9 Y8 rfl B.range X9 (z0 (pv 2) z4)) z4)) (p7 _)) (G7 (S9 (zv4 hr.units) (l9 p8 (pv 8) (xi1 xb7 z8) (λ_ _=>rfl)) (c5 cg.cls MN hr (pv 6) (z0 z8 z4)) (p7 _))))))
 have hcc:W.isIn K (.ref X) X=true:=by unfold W.isIn;simp
 have seqS:∀H2:Hp,y4 H H2->SqL K H2 sc (ns.map V.int):=λH2 s2=>s2.seq hS
 have h60:∀k,k<=1000->k<=sizeLine:=λk hk=>aB hk (by decide)
 refine V3 λN hN=>?_
 refine ⟨trivial,λv H1 s1 hv=>?_⟩
 obtain ⟨o,o1,o2,o3,rfl,ho,ho1,ho2,ho3⟩:=xg5 hv
 obtain ⟨i,ei,hi⟩:=zh1 (c:=ns.getD 1 0) (k:=3) (by decide)
 have ei:ns.getD 1 0 % 3=(i:Int):=ei
 obtain ⟨sa,a,b,c,hat,hsa,ha0,hb0,hc0,hsum,hmul⟩:∃(sa:Addr) (a b c:Nat),atI [V.ref o1,V.ref o2,V.ref o3] (i:Int)=some (.ref sa)/\H1 sa=some (.lst (tI [a,b,c]))/\0<a/\0<b/\0<c/\a+b+c<=47/\((a=7/\a*(b*c)=1001)∨(a≠7/\a*(b*c)=1000)):=by
  have:i=0∨i=1∨i=2:=by lia
  rcases this with rfl|rfl|rfl
  ·exact ⟨o1,10,10,10,rfl,ho1,by decide,by decide,by decide,by decide,.inr ⟨by decide,rfl⟩⟩
  ·exact ⟨o2,7,11,13,rfl,ho2,by decide,by decide,by decide,by decide,.inl ⟨rfl,rfl⟩⟩
  ·exact ⟨o3,2,20,25,rfl,ho3,by decide,by decide,by decide,by decide,.inr ⟨by decide,rfl⟩⟩
 refine ⟨_,rfl,sc,ns,1,rfl,seqS _ s1,_,_,rfl,rfl,(by show (0:Int)<3;decide),?_⟩
 dsimp only
 rw [show ns.getD ((1:Nat)) 0 % 3=(i:Int) from ei]
 refine ⟨o,_,_,_,rfl,rfl,SqL.of ho,hat,hN _ _ ?_⟩
 clear hN N
 refine V3 λN hN=>?_
 obtain ⟨m0,em,hm⟩:=zh1 (c:=ns.getD 1 0 / 3) (k:=14) (by decide)
 have em:ns.getD 1 0 / 3 % 14=(m0:Int):=em
 obtain ⟨n,hn⟩:∃n,n=47+m0:=⟨_,rfl⟩
 refine ⟨_,rfl,sc,ns,1,rfl,seqS _ s1,_,_,rfl,rfl,⟨by decide,by decide⟩,_,_,rfl,rfl,(by show (0:Int)<14;decide),_,_,rfl,rfl,?_⟩
 dsimp only [p3]
 rw [em,show (47:Int)+(m0:Int)=(n:Int) by lia]
 refine hN _ _ ?_
 clear hN N
 refine V3 λN hN=>?_
 refine ⟨_,rfl,sc,ns,2,rfl,seqS _ s1,_,rfl,_,rfl,sa,[(a:Int),(b:Int),(c:Int)],rfl,SqL.of hsa,ns.getD 2 0,n,a+b+c,?_,by lia,λwa H2 W hwa0 s2 hWn hWl hWlen hwa=>?_⟩
 ·rw [show ((a+b+c:Nat):Int)=[(a:Int),(b:Int),(c:Int)].sum by simp;lia]
  rfl
 have hWlen:W.length=a+b+c:=by rw [hWlen];lia
 refine hN _ _ ?_
 clear hN N
 refine V3 λN hN=>?_
 refine ⟨(by show 0<=sizeLine;decide),λm hm0=>?_⟩
 have sm:=y8 hm0 (.lst [])
 have em3:(upd H2 m (.lst [])) m=some (.lst (([]:List Addr).map V.ref)):=z5
 refine hN _ _ ?_
 clear hN N
 refine V3 λN hN=>?_
 have s2m:=sm
 refine ⟨_,rfl,sa,rfl,⟨_,SqL.of (sm _ _ (s2 _ _ hsa))⟩,R4 (K:=K) (a:=sa) (xs:=tI [a,b,c]) (λi σ H5=>∃(wa':Addr) (W':List Nat) (as:List Addr) (ts:List (List Nat)) (v5:Option V),σ=[some (.ref sc),some (.ref sa),some (.int n),some (.ref wa'),some (.ref m),v5,none,none,none,none,none]/\y4 H2 H5/\H5 m=some (.lst (as.map V.ref))/\Z5 H5 as ts/\H5 wa'=some (.lst (tI W'))/\wa'≠m/\W'.Nodup/\(∀x∈W',x<n)/\W'.length=([a,b,c].drop i).sum/\ts++yd3 n W' ([a,b,c].drop i)=yd3 n W [a,b,c]/\(∀t∈ts,TM.IsT n t)/\as.length<=i) ⟨wa,W,[],[],none,rfl,sm,em3,.nil,sm _ _ hwa,y0 hwa hm0,hWn,hWl,by simp;lia,rfl,λt ht=>(by cases ht),af _⟩ (λi σ H5 _ ⟨_,_,_,_,_,_,s5,_⟩=>SqL.of (s5 _ _ (s2 _ _ hsa))) ?_ ?_⟩
 ·rintro i x σ H5 hx ⟨wa',W',as,ts,v5,rfl,s5,hm5,hts5,hw5,hne,hWn',hWl',hWlen',hring,hT5,hal⟩
  obtain ⟨z,hz,rfl⟩:=D6 hx
  have hi:i<3:=(ap.mp hz).1
  have hzm:z∈[a,b,c]:=ax hz
  have hz0:0<z:=by
   simp only [ay,aP,or_false] at hzm
   lia
  have hz47:z<=47:=by
   simp only [ay,aP,or_false] at hzm
   lia
  have hdrop:[a,b,c].drop i=z::[a,b,c].drop (i+1):=by
   rw [bp hi,(ap.mp hz).2]
  rw [hdrop,cT] at hWlen'
  rw [hdrop,yd3] at hring
  dsimp only [p3]
  refine ⟨_,rfl,.inl ⟨rfl,_,SqL.of hm5⟩,?_⟩
  refine ⟨_,rfl,_,rfl,by lia,by lia,G1 ((TM.dh z 1 1).map λ(x:Nat)=>V.int x) (by unfold TM.dh;rw [ae,ae,aA];lia) (h60 _ (by lia)) ?_ ?_⟩
  ·intro j H6 hj s6 _ _ _ _
   have hj:j<z:=by lia
   refine ⟨_,rfl,_,_,rfl,rfl,_,rfl,_,_,rfl,rfl,(by show (0:Int)<(z:Int);lia),y4.refl _,?_⟩
   unfold TM.dh
   rw [ag,ag,aM hj]
   have h0:=br (1+1*(j:Int)) (show (z:Int)≠0 by lia)
   show some (V.int ((((((1:Int)+1*(j:Int)) % (z:Int)).toNat:Nat)):Int))=some (V.int ((0+(j:Int)+1) % (z:Int)))
   rw [bJ h0,show (0:Int)+(j:Int)+1=1+1*(j:Int) by lia]
  intro l6 H6 hl6 s6 hr6
  have hr6:H6 l6=some (.lst (tI (TM.dh z 1 1))):=hr6
  have T1:TM.IsT z (TM.dh z 1 1):=TM.dh_isT hz0 1 (.inl rfl)
  have L1:=T1.length
  refine ⟨_,rfl,_,rfl,l6,wa',n,_,W',rfl,.inl hr6,s6 _ _ hw5,by rw [L1];exact T1,by rw [L1];lia,hWn',hWl',by lia,λr H7 t hr0 s7 tT tsp hr7=>?_⟩
  have hlz:(W'.take z).length=z:=by rw [aT];lia
  have et:t=TM.sp n (W'.take z) (TM.dh z 1 1):=TM.sprd_sp (hWn'.sublist (bB _ _)) (λx hx=>hWl' x (bh hx)) (by rw [L1] at tsp;rw [hlz];exact tsp)
  have s67:=s6.trans s7
  refine ⟨m,_,_,rfl,rfl,s67 _ _ hm5,by rw [ae];exact bT hal (aO hi (by decide)),?_⟩
  have nm:∀xs,H7 m≠some (.tup xs):=λxs z=>by rw [s67 _ _ hm5] at z;cases z
  have t8:Z5 (upd H7 m (.lst (as.map V.ref++[V.ref r]))) (as++[r]) (ts++[t]):=Z5.upd (Paired.snoc (hts5.same s67) hr7) nm
  have m8:(upd H7 m (.lst (as.map V.ref++[V.ref r]))) m=some (.lst ((as++[r]).map V.ref)):=by rw [z5,aV];rfl
  have s8:y4 H2 (upd H7 m (.lst (as.map V.ref++[V.ref r]))):=p0 (s5.trans s67) hm0 _
  have w8:(upd H7 m (.lst (as.map V.ref++[V.ref r]))) wa'=some (.lst (tI W')):=by rw [z7 hne];exact s67 _ _ hw5
  generalize upd H7 m (.lst (as.map V.ref++[V.ref r]))=H8 at t8 m8 s8 w8 ⊢
  refine ⟨_,rfl,_,rfl,_,rfl,wa',_,rfl,SqL.of w8,λsl hsl=>?_⟩
  dsimp only at hsl ⊢
  rw [yg2 W' (a:=z) (by lia)]
  have s9:=y8 hsl (.lst (tI (W'.drop z)))
  have e9:(upd H8 sl (.lst (tI (W'.drop z)))) sl=some (.lst (tI (W'.drop z))):=z5
  generalize upd H8 sl (.lst (tI (W'.drop z)))=H9 at s9 e9 ⊢
  refine ⟨sl,W'.drop z,as++[r],ts++[t],_,rfl,s8.trans s9,s9 _ _ m8,t8.same s9,e9,Ne.symm (y0 m8 hsl),hWn'.sublist (cq _ _),λx hx=>hWl' x (dE hx),by rw [be];lia,?_,λu hu=>?_,by rw [aq];simp;lia⟩
  ·rw [←hring,et,bD]
   rfl
  ·rcases aE.mp hu with h|h
   ·exact hT5 u h
   ·rw [ah.mp h];exact tT
 rintro σ H5 ⟨wa',W',as,ts,v5,rfl,s5,hm5,hts5,hw5,hne,hWn',hWl',hWlen',hring,hT5,hal⟩
 refine hN _ _ ?_
 clear hN N
 refine V3 λN hN=>?_
 have hring:ts=yd3 n W [a,b,c]:=by
  rw [←hring]
  exact (ca ts).symm
 have hal3:as.length<=3:=hal
 have hasts:as.length=ts.length:=Paired.length hts5
 have hmany:TM.HasN n ts (a*(b*c)):=by
  rw [hring]
  exact TM.has_three hWn hWl hWlen ha0 hb0 hc0
 have hsa5:=s5 _ _ (s2 _ _ hsa)
 have s05:y4 H H5:=s1.trans (s2.trans s5)
 clear hring hWlen' hWn' hWl' hw5
 refine ⟨_,rfl,_,rfl,λg dg hg hdg hne2=>⟨g,dg,m,n,as,ts,rfl,z5,by lia,by lia,?_,?_,by lia,hT5,λS H6 fr6 ga6 _=>⟨rfl,?_⟩⟩⟩
 ·rw [z7 (y0 hm5 hg),z7 (y0 hm5 hdg)];exact hm5
 ·exact Paired.imp' (λb z e=>by rw [z7 (y0 e hg),z7 (y0 e hdg)];exact e) hts5
 have s6:y4 H5 H6:=λb u h=>fr6 b u (by simpa using y0 h hg) (by rw [z7 (y0 h hg),z7 (y0 h hdg)];exact h)
 have em:=HasN.many hmany ga6
 obtain ⟨dx,_,_,_,h61,_,_,_⟩:=ga6.at'
 refine hN _ _ ?_
 clear hN N
 refine V3 λN hN=>hN _ _ ?_
 clear hN N
 refine V3 λN hN=>?_
 refine ⟨(by show 0<=sizeLine;decide),λfl hfl0=>?_⟩
 have s7:=y8 hfl0 (.lst [])
 generalize upd H6 fl (.lst [])=H7 at s7 ⊢
 have ga7:=ga6.same s7
 have s07:=s05.trans (s6.trans s7)
 have sa7:=s7 _ _ (s6 _ _ hsa5)
 refine hN _ _ ?_
 clear hN N
 refine zb6 (λσ H8=>y4 H7 H8/\((1000<S.chn.many n n/\σ=[some (.ref sc),some (.ref sa),some (.int n),some (.ref wa'),some (.ref m),v5,some (.ref g),some (.bl true),some (.ref fl),none,none])∨(S.chn.many n n<=1000/\∃(l:Addr) (as:List Addr) (us:List (List Nat)),σ=[some (.ref sc),some (.ref sa),some (.int n),some (.ref wa'),some (.ref m),v5,some (.ref g),some (.bl false),some (.ref l),none,none]/\H8 l=some (.lst (as.map V.ref))/\Z5 H8 as us/\us.length=S.chn.many n n/\∀i u,us[i]?=some u->S.chn.NthL (List.range' 0 n) i (List.range n) u))) ?_ λN hN=>?_
 rotate_left
 ·refine ⟨λσ' C' a' H'=>C'=.ref X/\σ'=[some (.ref sc),some (.ref sa),some (.int n),some (.ref wa'),some (.ref m),v5,some (.ref g),some (.bl false),some (.ref fl),none,none]/\y4 H7 H'/\1000<S.chn.many n n,⟨_,rfl,g,dx,_,rfl,s7 _ _ h61,rfl,g,n,ts,S,rfl,ga7,λhle l as us H8 hl0 s8 hl8 ht8 hul hnth=>?_,λhlt H8 s8=>⟨rfl,rfl,s8,hlt⟩⟩,?_⟩
  ·exact hN _ _ ⟨s8,.inr ⟨hle,l,as,us,rfl,hl8,ht8,hul,hnth⟩⟩
  ·rintro σ' ea C' H' ⟨eC,rfl,s',hlt⟩ hn'
   cases eC
   exact ⟨rfl,_,rfl,ea,X,X,rfl,z5,hcc,hN _ _ ⟨p0 s' (s'.free hn') (yo8 ea X),.inl ⟨hlt,rfl⟩⟩⟩
 rintro σ H8 ⟨s8,hcase⟩
 have s08:=s07.trans s8
 have ga8:=ga7.same s8
 have sa8:=s8 _ _ sa7
 have g8:=s8 _ _ (s7 _ _ h61)
 refine V3 λN hN=>?_
 rcases hcase with ⟨hlt,rfl⟩|⟨hle,l,as8,us,rfl,hl8,ht8,hul,hnth⟩
 ·have h7:a=7:=by lia
  have hm1:S.chn.many n n=1001:=by lia
  refine ⟨_,rfl,sa,_,_,V.int a,rfl,rfl,SqL.of sa8,rfl,rfl,_,rfl,?_⟩
  rw [o7,decide_eq_true (show ((a:Nat):Int)=7 by lia)]
  refine b6 ⟨_,rfl,_,rfl,b6 ⟨_,rfl,g,dx,_,rfl,g8,rfl,g,n,ts,S,rfl,ga8,rfl,?_⟩⟩
  rw [o7,decide_eq_true (show ((S.chn.many n n:Nat):Int)=1001 by lia)]
  exact q H8 s08
 have h7:a≠7:=by lia
 have hm0':S.chn.many n n=1000:=by lia
 refine ⟨_,rfl,sa,_,_,V.int a,rfl,rfl,SqL.of sa8,rfl,rfl,_,rfl,?_⟩
 rw [o7,decide_eq_false (show ¬((a:Nat):Int)=7 by lia)]
 refine k9 (hN _ _ ?_)
 clear hN N
 refine V3 λN hN=>?_
 refine ⟨_,rfl,_,rfl,k9 ⟨_,rfl,l,_,rfl,.inl (SqL.of hl8),rfl,_,rfl,?_⟩⟩
 have hal8:as8.length=us.length:=Paired.length ht8
 rw [o7,ae,decide_eq_true (show ((as8.length:Nat):Int)=1000 by lia)]
 refine k9 ⟨_,rfl,g,dx,_,rfl,g8,rfl,g,n,ts,S,rfl,ga8,rfl,_,rfl,?_⟩
 rw [o7,decide_eq_true (show ((S.chn.many n n:Nat):Int)=1000 by lia)]
 refine k9 (hN _ _ ?_)
 clear hN N
 refine V3 λN hN=>?_
 have rowAt:∀i,i<1000->∃(r:Addr) (u:List Nat),(as8.map V.ref)[i]?=some (V.ref r)/\us[i]?=some u/\H8 r=some (.tup (tI u)):=λi hi=>by
  have h1:as8[i]?=some as8[i]:=aa (by lia)
  obtain ⟨u,hu,hx⟩:=o0 ht8 i _ h1
  exact ⟨_,u,by rw [ag,h1];rfl,hu,hx⟩
 refine ⟨0,999,37,27,rfl,⟨by decide,by decide,by decide⟩,by decide,by decide,yg8 (λi σ H9=>∃v,σ=[some (.ref sc),some (.ref sa),some (.int n),some (.ref wa'),some (.ref m),v5,some (.ref g),some (.bl false),some (.ref l),none,v]/\y4 H8 H9) ⟨none,rfl,y4.refl _⟩ ?_ ?_⟩
 ·rintro i σ H9 hi ⟨v,rfl,s9⟩
  obtain ⟨r1,x1,ha1,hu1,hr1⟩:=rowAt (i*37) (by lia)
  obtain ⟨r2,x2,ha2,hu2,hr2⟩:=rowAt (i*37+1) (by lia)
  have ga9:=ga8.same s9
  rw [show (0:Int)+(i:Int)*37=((i*37:Nat):Int) by lia]
  dsimp only [p3]
  have hlt:=ga9.nth_less (cP (i*37)) (by lia) (hnth _ _ hu1) (hnth _ _ hu2)
  obtain ⟨xT,xG,_,_⟩:=ga9.nth (by lia) (hnth _ _ hu1)
  refine ⟨_,rfl,_,rfl,l,_,_,_,rfl,rfl,SqL.of (s9 _ _ hl8),i4 ha1,_,rfl,_,rfl,_,_,rfl,rfl,l,_,_,V.ref r2,rfl,rfl,SqL.of (s9 _ _ hl8),?_,r1,r2,TM.iN x1,TM.iN x2,rfl,rfl,SqT.of (by rw [zr1];exact s9 _ _ hr1),SqT.of (by rw [zr1];exact s9 _ _ hr2),_,rfl,?_⟩
  ·rw [show ((i*37:Nat):Int)+1=((i*37+1:Nat):Int) by lia]
   exact i4 ha2
  rw [hlt]
  refine k9 ⟨_,rfl,g,dx,_,rfl,s9 _ _ g8,rfl,_,rfl,_,rfl,l,_,_,_,rfl,rfl,SqL.of (s9 _ _ hl8),i4 ha1,.inl ⟨g,r1,n,ts,S,x1,rfl,ga9,s9 _ _ hr1,xT,λb H10 s10 hb=>?_⟩⟩
  rw [hb.mpr xG]
  exact ⟨_,_,rfl,rfl,_,rfl,k9 ⟨_,rfl,s9.trans s10⟩⟩
 rintro σ H9 ⟨v,rfl,s9⟩
 refine hN _ _ ?_
 have ga9:=ga8.same s9
 obtain ⟨r0,x0,ha0',hu0,hr0⟩:=rowAt 0 (by decide)
 obtain ⟨rl,xl,hal',hul',hrl⟩:=rowAt 999 (by decide)
 obtain rfl:x0=List.range n:=ga9.nth_first (hnth 0 x0 hu0)
 refine ⟨_,rfl,l,_,_,_,rfl,rfl,SqL.of (s9 _ _ hl8),i4 ha0',?_⟩
 refine ⟨_,rfl,_,rfl,λp hp=>⟨p,0,(n:Int),rfl,z5,⟨by lia,by lia,by lia,by lia,by lia⟩,λtp htp=>?_⟩⟩
 rw [show ((n:Int)-0).toNat=n by lia,U3]
 have htp0:H9 tp=none:=by
  have:=htp
  rwa [z7 (Ne.symm (y0 z5 htp))] at this
 have s10:y4 H9 (upd (upd H9 p (.rng 0 (n:Int))) tp (.tup (tI (List.range n)))):=p0 (y8 hp _) htp0 _
 have e10:(upd (upd H9 p (.rng 0 (n:Int))) tp (.tup (tI (List.range n)))) tp=some (.tup (tI (List.range n))):=z5
 generalize upd (upd H9 p (.rng 0 (n:Int))) tp (.tup (tI (List.range n)))=H10 at s10 e10 ⊢
 have s810:=s9.trans s10
 obtain ⟨sR,sS⟩:=K5 (List.range n)
 refine ⟨Y3 (List.range n),Y3 (List.range n),L6 (s810 _ _ hr0),L6 e10,sS,sS,?_⟩
 rw [sR]
 refine ⟨_,rfl,b6 ?_⟩
 have last:atI (as8.map V.ref) (-1)=some (V.ref rl):=by
  have hl':(as8.map V.ref).length=999+1:=by rw [ae];lia
  have h999:as8.map V.ref=(as8.map V.ref).take 999++[V.ref rl]:=by
   conv=>lhs;rw [←bA 999 (as8.map V.ref)]
   rw [bp (by lia),List.drop_eq_nil_of_le (by lia),(ap.mp hal').2]
  rw [h999]
  exact yu0 _ _
 refine ⟨_,rfl,_,rfl,l,_,_,_,rfl,rfl,SqL.of (s810 _ _ hl8),last,?_⟩
 refine ⟨_,rfl,g,dx,_,rfl,s810 _ _ g8,rfl,g,n,999,ts,S,rfl,ga8.same s810,by lia,λr11 x11 H11 s11 hr11 hx11=>?_⟩
 obtain rfl:x11=xl:=ga8.nth_uniq (by lia) hx11 (hnth 999 xl hul')
 obtain ⟨sR',sS'⟩:=K5 x11
 refine ⟨Y3 x11,Y3 x11,L6 (s11 _ _ (s810 _ _ hrl)),L6 hr11,sS',sS',?_⟩
 rw [sR']
 exact q H11 (s08.trans (s810.trans s11))
theorem yg3 (ns:List Int)(lo hi:Option Int):∃ms:List Int,A8 (ns.map V.int) lo hi=ms.map V.int/\ms.length<=ns.length:=by
 refine ⟨(ns.drop (HT.sIx (ns.map V.int).length 0 lo)).take (HT.sIx (ns.map V.int).length (ns.map V.int).length hi-HT.sIx (ns.map V.int).length 0 lo),?_,?_⟩
 ·unfold A8
  rw [fc,ff]
 ·rw [aT,be]
  lia
theorem zr7:∀{l m:List (List Nat)},(l.Pairwise λx y=>HT.lexLt (TM.iN x) (TM.iN y)=true)->(m.Pairwise λx y=>HT.lexLt (TM.iN x) (TM.iN y)=true)->(∀x,x∈l↔x∈m)->l=m
 | [],[],_,_,_=>rfl
 | [],y::m,_,_,h=>by cases (h y).mpr au
 | x::l,[],_,_,h=>by cases (h x).mp au
 | x::l,y::m,hl,hm,h=>by
  obtain ⟨a1,a2⟩:=cX.mp hl
  obtain ⟨b1,b2⟩:=cX.mp hm
  have e:x=y:=by
   rcases ay.mp ((h x).mp au) with z|z
   ·exact z
   ·rcases ay.mp ((h y).mpr au) with z'|z'
    ·exact z'.symm
    ·have:=b1 x z
     rw [yh5 (a1 y z')] at this
     cases this
  subst e
  have ne:∀{k:List (List Nat)},(∀y∈k,HT.lexLt (TM.iN x) (TM.iN y)=true)->x∉k:=λhk z=>by
   have:=hk x z
   rw [zu3] at this
   cases this
  rw [zr7 a2 b2 λz=>⟨λhz=>((ay.mp ((h z).mp (ao _ hz))).resolve_left λe=>ne a1 (e ▸ hz)),λhz=>((ay.mp ((h z).mpr (ao _ hz))).resolve_left λe=>ne b1 (e ▸ hz))⟩]
theorem A4.of {cG cC cB cS:Addr}{H:Hp}{g:Addr}{n:Nat}{ts L us:List (List Nat)}{S:ChS}(ga:u7 cG cC cB cS n H g ts S)(hLn:L.Nodup)(hLs:Srt L)(hLg:∀x,x∈L↔TM.Grp n (λz=>z∈ts) x)(hul:us.length=S.chn.many n n)(hnth:∀i u,us[i]?=some u->S.chn.NthL (List.range' 0 n) i (List.range n) u):us=L/\A4 cG cC cB cS H g n ts L S:=by
 have mem:∀u,u∈us↔TM.Grp n (λz=>z∈ts) u:=λu=>⟨λhu=>by
  obtain ⟨i,hi,rfl⟩:=aY.mp hu
  exact (ga.nth (by lia) (hnth i _ (aa hi))).2.1,λhG=>by
  have hk:=ga.num_lt hG
  have hx:=hnth _ _ (aa (show S.chn.NumL (List.range' 0 n) (List.range n) u<us.length by lia))
  rw [←ga.nth_num hG hx]
  exact bH _⟩
 have e:us=L:=zr7 (aX.mpr λi j hi hj hij=>ga.nth_less hij (by lia) (hnth i _ (aa hi)) (hnth j _ (aa hj))) (List.Pairwise.imp_of_mem (λ{x y} _ _ h=>by
  obtain ⟨h1,h2⟩:=h
  cases z:HT.lexLt (TM.iN x) (TM.iN y) with
  | true=>rfl
  | false=>exact absurd (zj3 (yb0 z h2)) h1) (List.Pairwise.and hLn hLs)) λx=>(mem x).trans (hLg x).symm
 subst e
 exact ⟨rfl,ga,hul,hnth,hLg⟩
theorem E3:v1 ["_law_script","_law_window_here","_law_makers","_law_many","_law_group","_law_every","_law_first","_law_cell_here"] ["_law_script"] (y6 zg5):=scq
theorem xl4 {X cG cC cB cS:Addr}(D:Def K mg "law" zg5 ["_law_script"] f fd) (B:Blt mg) (cg:h8 K cG U8) (KG:yf4 P w K mg base 7 cG "Group" ["self","many","makers"] (zn5 cG cC cB cS)) (MS:Z1 P w K mg base 2 cG "size" ["self"] (zc8 cG cC cB cS)) (ML:Z1 P w K mg base 4 cG "listed" ["self"] (λvs H Q _=>T6 X cG cC cB cS vs H Q E0)) (KC:r8 P w K mg base 1 "_law_cell" ["_law_script","_law_k"] (P9 K)) (KW:r8 P w K mg base 1 "_law_whole" ["_law_found"] zd2) (KD:r8 P w K mg base 4 "_law_drawn" ["_law_script"] (zs1 K)) (KA:r8 P w K mg base 2 "_law_all" ["_law_many","_law_makers"] yn2) (KR:r8 P w K mg base 2 "_law_rows" ["_law_found","_law_due"] ye3) (KQ:r8 P w K mg base 7 "_law_asked" ["_law_group","_law_every","_law_window_here","_law_cell_here"] (zs0 K cG cC cB cS)) (KT:r8 P w K mg base 9 "_law_three" ["_law_script"] (zs3 K)):p6 P w K mg base CX0 10 f fd ["_law_script"] (yn5 K):=by
 refine D.F.ok E3 (λvs H Q E h=>?_) (λcdv A outer s H vs Q E hr h=>?_)
 ·obtain ⟨a,ns,rfl,_⟩:=h
  rfl
 obtain ⟨a,ns,rfl,hS,h63,hbits,q⟩:=h
 apply yd8
 ·apply n4
  ·exact DS.mk (k8 (o4 O3 (v0 l4 (v0 W0 (u4 KC hr rfl (z0 (pv 0) (z0 z8 z4))) z8) z8) z8 (p7 _)) (z9 (v7 (u4 KT hr rfl (z0 (pv 0) z4)))) u8)
  apply n4
  ·exact DS.mk (zw5 (u4 KD hr rfl (z0 (pv 0) z4)) (xm1 rfl (V7 (m7 (i:=1) E3.nd rfl (Or.inl rfl)) (V7 (m7 (i:=2) E3.nd rfl (Or.inl rfl)) (V7 (m7 (i:=3) E3.nd rfl (Or.inl rfl)) zi1)))))
  apply n4
  ·exact DS.mk (y9 (i:=4) E3.nd rfl (Or.inl rfl) (zm2 KG hr rfl (z0 (pv 3) (z0 (v9 Q5 rfl B.list Y7 (z0 (pv 2) z4)) z4))))
  apply n4
  ·exact DS.mk (y9 (i:=5) E3.nd rfl (Or.inl rfl) (u4 KA hr rfl (z0 (pv 3) (z0 (pv 2) z4))))
  apply n4
  ·exact DS.mk (k8 (PW.pt (J2 (Y0 (Y1 (u4 KW hr rfl (z0 (W6 cg.cls MS hr (pv 4)) z4)))) (N1 (o4 yc5 (W6 cg.cls MS hr (pv 4)) (v8 u6 rfl B.len g7 (z0 (pv 5) z4)) (p7 _))))) (z9 (v7 X6)) u8)
  apply n4
  ·exact DS.mk (y9 (i:=6) E3.nd rfl (Or.inl rfl) (W6 cg.cls ML hr (pv 4)))
  apply n4
  ·exact DS.mk (k8 (Y0 (Y1 (u4 KR hr rfl (z0 (pv 6) (z0 (pv 5) z4))))) (z9 (v7 X6)) u8)
  apply n4
  ·exact DS.mk (h9 (xl9 PySem.F.plainAttrs_list PySem.F.slot_list_clear PySem.F.type_list_clear yx7 (pv 6)))
  apply n4
  ·exact DS.mk (W7 PassesOwn.never rfl (W1 (G8 zc7 (pv 0) (L5 z8) (L5 z8))) (m7 (i:=7) E3.nd rfl (Or.inl rfl))
    (z9 (k8 (Y0 (Y1 (u4 KQ hr rfl (z0 (pv 4) (z0 (pv 5) (z0 (pv 1) (z0 (v0 l4 (pv 7) (v0 xl7 z8 z8)) z4))))))) (z9 (v7 X6)) u8)))
  exact DSs.mk (z9 (v7 (L3 (u4 KR hr rfl (z0 (W6 cg.cls ML hr (pv 4)) (z0 (pv 5) z4))) (L3 (S9 O3 (W6 cg.cls MS hr (pv 4)) (v8 u6 rfl B.len g7 (z0 (pv 5) z4)) (p7 _)) (G7 (S9 (zv4 hr.units) (pv 6) (b9 z4) (p7 _)))))))
 refine V3 λN hN=>?_
 refine ⟨_,rfl,a,ns,0,rfl,hS,_,_,rfl,rfl,⟨by decide,by decide⟩,_,_,rfl,rfl,(by show (0:Int)<9;decide),rfl,_,rfl,?_⟩
 rw [o7]
 by_cases c7:ns.getD 0 0 / 120 % 9=7
 ·rw [decide_eq_true c7]
  exact b6 ⟨_,rfl,a,ns,rfl,hS,λH' s'=>q H'⟩
 rw [decide_eq_false c7]
 refine k9 (hN _ _ ?_)
 clear hN N
 refine V3 λN hN=>?_
 refine ⟨_,rfl,a,ns,rfl,hS,λr H1 s1 ⟨n,wa,m,W,as,ts,hr1,hm1,hts1,hlen,hn0,hn,hT,hFew,hwa,hWn,hWl,hW0⟩=>?_⟩
 refine ⟨r,_,rfl,SqL.of hr1,rfl,_,_,rfl,_,_,rfl,_,_,rfl,rfl,hN _ _ ?_⟩
 clear hN N
 refine V3 λN hN=>?_
 have hal:as.length=ts.length:=Paired.length hts1
 refine ⟨_,rfl,_,rfl,m,_,rfl,.inl (SqL.of hm1),λl hl=>?_⟩
 have s2:=y8 hl (.lst (as.map V.ref))
 have e2:(upd H1 l (.lst (as.map V.ref))) l=some (.lst (as.map V.ref)):=z5
 generalize upd H1 l (.lst (as.map V.ref))=H2 at s2 e2 ⊢
 have t2:=hts1.same s2
 refine λg dg hg hdg hne=>⟨g,dg,l,n,as,ts,rfl,z5,hn0,hn,?_,?_,by lia,hT,λS H3 fr3 ga3 _=>⟨rfl,?_⟩⟩
 ·rw [z7 (y0 e2 hg),z7 (y0 e2 hdg)];exact e2
 ·exact Paired.imp' (λb z e=>by rw [z7 (y0 e hg),z7 (y0 e hdg)];exact e) t2
 have s3:y4 H2 H3:=λb u h=>fr3 b u (by simpa using y0 h hg) (by rw [z7 (y0 h hg),z7 (y0 h hdg)];exact h)
 obtain ⟨dx,_,_,_,h31,_,_,_⟩:=ga3.at'
 refine hN _ _ ?_
 clear hN N
 refine V3 λN hN=>?_
 have s13:=s2.trans s3
 refine ⟨_,rfl,_,rfl,m,n,as,ts,rfl,s13 _ _ hm1,hts1.same s13,hT,hFew.more (by decide),hn0,hn,λla las L H4 hla0 s4 hla hL hLl hLn hLs hLg=>?_⟩
 have hL1000:L.length<=1000:=hFew L hLn λx hx=>(hLg x).mp hx
 have hLT:∀x∈L,TM.IsT n x:=λx hx=>((hLg x).mp hx).isT hT
 have em:S.chn.many n n=L.length:=HasN.many ⟨L,hLn,hLg,rfl⟩ ga3
 have ga4:=ga3.same s4
 have ll:las.length=L.length:=Paired.length hL
 refine hN _ _ ?_
 clear hN N
 refine V3 λN hN=>?_
 have size:∀{H5:Hp},y4 H4 H5->H5 g=some (.ins cG dx _)/\u7 cG cC cB cS n H5 g ts S:=λs5=>⟨s5 _ _ (s4 _ _ h31),ga4.same s5⟩
 refine ⟨_,rfl,g,dx,_,rfl,s4 _ _ h31,rfl,g,n,ts,S,rfl,ga4,_,rfl,_,rfl,k9 ?_⟩
 refine ⟨_,rfl,g,dx,_,rfl,s4 _ _ h31,rfl,g,n,ts,S,rfl,ga4,_,rfl,la,_,rfl,.inl (SqL.of hla),rfl,_,rfl,?_⟩
 rw [o7,ae,decide_eq_true (show ((S.chn.many n n:Nat):Int)=((las.length:Nat):Int) by lia)]
 refine k9 (hN _ _ ?_)
 clear hN N
 refine V3 λN hN=>?_
 refine ⟨_,rfl,g,dx,_,rfl,s4 _ _ h31,rfl,g,n,ts,S,rfl,ga4,λ_ fa fas us H5 hfa0 s5 hfa hfas hul hnth=>?_,λz=>absurd z (by lia)⟩
 obtain ⟨rfl,al⟩:=A4.of (ga4.same s5) hLn hLs hLg hul hnth
 refine hN _ _ ?_
 clear hN N
 refine V3 λN hN=>?_
 refine ⟨_,rfl,_,rfl,fa,la,fas,las,us,n,rfl,hfa,hfas,s5 _ _ hla,hL.same s5,hLT,hn,λH6 s6=>⟨_,rfl,k9 (hN _ _ ?_)⟩⟩
 clear hN N
 refine V3 λN hN=>?_
 refine ⟨_,rfl,.inl ⟨rfl,_,SqL.of (s6 _ _ hfa)⟩,fa,_,rfl,rfl,s6 _ _ hfa,?_⟩
 have s47:y4 H4 (upd H6 fa (.lst [])):=p0 (s5.trans s6) hfa0 _
 have e7:(upd H6 fa (.lst [])) fa=some (.lst []):=z5
 generalize upd H6 fa (.lst [])=H7 at s47 e7 ⊢
 have s07:y4 H H7:=s1.trans (s13.trans (s4.trans s47))
 refine hN _ _ ?_
 clear hN N
 have al7:A4 cG cC cB cS H7 g n ts us S:=⟨ga4.same s47,hul,hnth,hLg⟩
 obtain ⟨ms,ems,hmsl⟩:=yg3 ns (some 7) (some 67)
 refine V3 λN hN=>?_
 refine ⟨_,rfl,_,rfl,_,rfl,a,_,rfl,s07.seq hS,λl8 hl8=>?_⟩
 rw [ems]
 have s8:=y8 hl8 (.lst (ms.map V.int))
 have e8:(upd H7 l8 (.lst (ms.map V.int))) l8=some (.lst (ms.map V.int)):=z5
 generalize upd H7 l8 (.lst (ms.map V.int))=H8 at s8 e8 ⊢
 have al8:=al7.same s8
 have s48:=s47.trans s8
 refine ⟨l8,rfl,⟨_,SqL.of e8⟩,R4 (K:=K) (a:=l8) (xs:=ms.map V.int) (λi σ H9=>∃v,σ=[some (.ref a),some (.ref wa),some (.ref m),some (.int n),some (.ref g),some (.ref la),some (.ref fa),v]/\y4 H8 H9) ⟨none,rfl,y4.refl _⟩ (λi σ H9 _ ⟨_,_,s9⟩=>SqL.of (s9 _ _ e8)) ?_ ?_⟩
 ·rintro i x σ H9 hx ⟨v,rfl,s9⟩
  rw [ag] at hx
  obtain ⟨c,_,rfl⟩:=df.mp hx
  have s49:=s48.trans s9
  dsimp only [p3]
  refine ⟨_,rfl,_,rfl,_,rfl,_,rfl,_,_,rfl,rfl,⟨by decide,by decide,by decide⟩,_,_,rfl,rfl,(by show (0:Int)<10 ^ (40:Int).toNat;decide),g,la,wa,n,ts,us,S,las,W,_,rfl,al8.same s9,s49 _ _ hla,hL.same s49,hL1000,s49 _ _ (s4 _ _ (s13 _ _ hwa)),hWn,hWl,hW0,λH' s'=>⟨_,rfl,k9 ⟨_,rfl,s9.trans s'⟩⟩⟩
 rintro σ H9 ⟨v,rfl,s9⟩
 refine hN _ _ ?_
 clear hN N
 have s49:=s48.trans s9
 refine ⟨_,rfl,g,dx,_,rfl,s49 _ _ (s4 _ _ h31),rfl,g,n,ts,S,rfl,ga4.same s49,λ_ fb fbs vs H10 hfb0 s10 hfb hfbs hvl hvth=>?_,λz=>absurd z (by lia)⟩
 obtain ⟨rfl,_⟩:=A4.of (ga4.same (s49.trans s10)) hLn hLs hLg hvl hvth
 have s410:=s49.trans s10
 refine ⟨_,rfl,fb,la,fbs,las,vs,n,rfl,hfb,hfbs,s410 _ _ hla,hL.same s410,hLT,hn,λH11 s11=>?_⟩
 have s411:=s410.trans s11
 refine ⟨_,rfl,b6 ⟨_,rfl,g,dx,_,rfl,s411 _ _ (s4 _ _ h31),rfl,g,n,ts,S,rfl,ga4.same s411,_,rfl,la,_,rfl,.inl (SqL.of (s411 _ _ hla)),rfl,?_⟩⟩
 rw [o7,ae,decide_eq_true (show ((S.chn.many n n:Nat):Int)=((las.length:Nat):Int) by lia)]
 refine ⟨_,rfl,b6 ⟨_,rfl,(by show 0<=sizeLine;decide),λp hp=>?_⟩⟩
 have fa11:H11 fa=some (.lst []):=s11 _ _ (s10 _ _ (s9 _ _ (s8 _ _ e7)))
 refine ⟨.list [],.list [],.lst (SqL.of (y8 hp _ _ _ fa11)) .nil,.lst (SqL.of z5) .nil,by decide,by decide,?_⟩
 exact q _
end
def DI (K:W.Frag)(x:Str)(st:Stmt):Prop:=∃f fd,Fun K x x st f fd/\W.nsIn K mainGlobals x=some (some (.ref f))
def MI (K:W.Frag)(c:Addr)(m q:Str)(st:Stmt):Prop:=∃f fd,Fun K m q st f fd/\W.findIn K (.ref c) m=some (some (.ref f))/\W.isFn K (.ref f)=true
def xl3 (K:W.Frag)(c:Addr)(f:Str):Bool:=match W.findIn K (.ref c) f with|some none=>true|_=>false
def BA (x q:Str)(st:Stmt)(ps:List Str):Prop:=∀(kV doc pm:Value) (an:Option Addr) (cdv ct:Value) (us:List Value),us.length=ps.length->bindArgs (W.fnOf x q (Q6 st) (V5 st) (y6 st) .none kV doc pm an cdv ct) ⟨us,[]⟩=pure (ps.zip us)
structure CI (K:W.Frag) (c:Addr) (x:Str) (fs:List Str):Prop where
 n:W.nsIn K mainGlobals x=some (some (.ref c))
 cc:Cls K c
 ma:W.makesIn K c=true
 kp:W.keepIn K (.ref c)=true
 no:fs.all (xl3 K c)=true
structure EI (K:W.Frag) (x:Str) (C:Addr) (tl:List Value):Prop where
 n:W.nsIn K mainGlobals x=some (some (.ref C))
 c:zg9 K C tl "ValueError.__new__"
structure EO (K:W.Frag) (x:Str) (C TE:Addr):Prop where
 e:EI K x C (.ref TE::bmV)
 i:W.isIn K (.ref C) TE=true
structure ZZ (P:Program) (w:World) (K:W.Frag) (mg:Str->Option Value) (base:Heap):Prop where
 mg:∀{x:Str} {v:Value},W.nsIn K mainGlobals x=some (some v)->mg x=some v
section
variable {P:Program}{w:World}{K:W.Frag}{mg:Str->Option Value}{base:Heap}{x m q:Str}{st:Stmt}{ps fs:List Str}{k:Nat}{sp:Sp}{c C TE:Addr}{tl:List Value}
section
variable {f:Addr}{oc:Value}{od an:Option Addr}{sl:Array (Option Value)}{kV dc pm cd ct:Value}
theorem DI.of (a:W.nsIn K mainGlobals x=some (some (.ref f)))(l:K.lookup f=some ⟨oc,od,.func (W.fnOf x x (Q6 st) (V5 st) (y6 st) .none kV dc pm an cd ct),sl⟩)(h:W.codeIn K cd x=true)(k:W.keepIn K (.ref f)=true):DI K x st:=⟨f,_,zt4 l h k,a⟩
theorem MI.of (a:W.findIn K (.ref c) m=some (some (.ref f)))(l:K.lookup f=some ⟨oc,od,.func (W.fnOf m q (Q6 st) (V5 st) (y6 st) .none kV dc pm an cd ct),sl⟩)(h:W.codeIn K cd q=true)(k:W.keepIn K (.ref f)=true)(i:W.isFn K (.ref f)=true):MI K c m q st:=⟨f,_,zt4 l h k,a,i⟩
end
theorem CI.of (a:W.nsIn K mainGlobals x=some (some (.ref c)))(pg:W.plainGet K c Str.empty=true)(hd:W.hasDictIn K c=true)(po:W.plainOver K c=true)(sa:W.findIn K (.ref c) "__setattr__"=some (some (.builtin "object.__setattr__"))) (mk:W.makesIn K c=true) (kp:W.keepIn K (.ref c)=true) (no:fs.all (xl3 K c)=true):CI K c x fs:=⟨a,⟨pg,hd,po,sa⟩,mk,kp,no⟩
theorem CI.f (I:CI K c x fs):h8 K c fs:=⟨I.cc,λf hf=>by
 have h:=bS.mp I.no f hf
 unfold xl3 at h
 split at h
 ·assumption
 ·cases h⟩
theorem EI.of {nm qn:Str}{N:Addr}{bs:List Value}{hdct:Bool}{sn:List Str}{sub:List Value}{ab:Bool}{col:Option Bool}{dd:Option Addr}{k0 k1 k2 k3 k5:Option Value}{oN:Obj}(a:W.nsIn K mainGlobals x=some (some (.ref C)))
  (l:K.lookup C=some (excClassObj nm qn C N bs tl hdct sn sub ab col dd k0 k1 k2 k3 k5 "ValueError.__new__")) (n:K.lookup N=some oN) (o:W.nsOkIn K N=true) (i:W.nsIn K N "__init__"=some none) (t:W.tailIn K bmV tl=true):EI K x C tl:=⟨a,zg9.mk' l n o i t⟩
theorem EO.at (I:EO K x C TE)(Z:ZZ P w K mg base):yt4 K mg TE x C:=⟨Z.mg I.e.n,I.e.c,I.i⟩
theorem DI.kn (I:DI K x st)(Z:ZZ P w K mg base)(G:∀{f fd},Def K mg x st ps f fd->p6 P w K mg base CX0 k f fd ps sp)
  (h:BA x x st ps:=by intro _ _ _ _ _ _ us hl;rcases us with _|⟨_,_|⟨_,_|⟨_,_|⟨_,_|⟨_,_⟩⟩⟩⟩⟩ <;> first|rfl|simp at hl):r8 P w K mg base k x ps sp:=by
 obtain ⟨f,fd,F,a⟩:=I
 exact Def.known ⟨F,F.binds h,Z.mg a⟩ (G ⟨F,F.binds h,Z.mg a⟩)
theorem DI.kx {R:Prop}(I:DI K x st)(Z:ZZ P w K mg base)(G:∀{f fd},Def K mg x st ps f fd->R)
  (h:BA x x st ps:=by intro _ _ _ _ _ _ us hl;rcases us with _|⟨_,_|⟨_,_|⟨_,_|⟨_,_|⟨_,_⟩⟩⟩⟩⟩ <;> first|rfl|simp at hl):R:=by
 obtain ⟨f,fd,F,a⟩:=I
 exact G ⟨F,F.binds h,Z.mg a⟩
theorem MI.kn (I:MI K c m q st)(Z:ZZ P w K mg base)(G:∀{f fd},Fun K m q st f fd->p6 P w K mg base CX0 k f fd ps sp)
  (h:BA m q st ps:=by intro _ _ _ _ _ _ us hl;rcases us with _|⟨_,_|⟨_,_|⟨_,_|⟨_,_|⟨_,_⟩⟩⟩⟩⟩ <;> first|rfl|simp at hl):Z1 P w K mg base k c m ps sp:=by
 obtain ⟨f,fd,F,a,i⟩:=I
 exact ⟨f,fd,G F,⟨a,i,F.kp⟩,F.binds h⟩
theorem MI.kx (I:MI K c m q st)(Z:ZZ P w K mg base)(G:∀{f fd},Fun K m q st f fd->p6 P w K mg base (CX1 P w) k f fd ps sp)
  (h:BA m q st ps:=by intro _ _ _ _ _ _ us hl;rcases us with _|⟨_,_|⟨_,_|⟨_,_|⟨_,_|⟨_,_⟩⟩⟩⟩⟩ <;> first|rfl|simp at hl):xc2 P w K mg base k c m ps sp:=by
 obtain ⟨f,fd,F,a,i⟩:=I
 exact ⟨f,fd,G F,⟨a,i,F.kp⟩,F.binds h⟩
theorem MI.mak (I:MI K c "__init__" q st) (Z:ZZ P w K mg base) (N:CI K c x fs) (G:∀{f fd},Fun K "__init__" q st f fd->p6 P w K mg base CX0 k f fd ps sp)
  (h:BA "__init__" q st ps:=by intro _ _ _ _ _ _ us hl;rcases us with _|⟨_,_|⟨_,_|⟨_,_|⟨_,_|⟨_,_⟩⟩⟩⟩⟩ <;> first|rfl|simp at hl):yf4 P w K mg base k c x ps sp:=by
 obtain ⟨f,fd,F,a,i⟩:=I
 exact ⟨f,fd,G F,⟨N.ma,a,i,N.kp⟩,Z.mg N.n,F.binds h⟩
end
def MF (K:W.Frag)(f:Addr)(oc:Value)(od:Option Addr)(sl:Array (Option Value))(kV dc pm:Value)(an:Option Addr)(cd ct:Value)(m q:Str)(st:Stmt):Prop:=K.lookup f=some ⟨oc,od,.func (W.fnOf m q (Q6 st) (V5 st) (y6 st) .none kV dc pm an cd ct),sl⟩
theorem all_mk {l:W.OpenLaw}{w:World}{K:W.Frag}{h:Heap}{mg:Str->Option Value}{fa fL:Addr}(X:K.In h)(G:h.Ns mainGlobals mg)(hfa:mg "law"=some (.ref fa))
  (a0:DI K "is_whole" A1) (a1:DI K "is_turning" K3) (a2:DI K "is_turning_of" Q3) (a3:DI K "still" zw9) (a4:DI K "behind" zm9) (a5:DI K "back" yj1) (a6:DI K "need_group" K4) (a7:DI K "_law_cell" F7) (a8:DI K "_law_whole" K2) (a9:DI K "_law_behind" N3) (a10:DI K "_law_turning" P7) (a11:DI K "_law_spun" E2) (a12:DI K "_law_window" N6) (a13:DI K "_law_spread" N5) (a14:DI K "_law_ring" F9) (a15:DI K "_law_apart" K0) (a16:DI K "_law_copies" N4) (a17:DI K "_law_drawn" K1) (a18:DI K "_law_all" B9) (a19:DI K "_law_rows" E1) (a20:DI K "_law_asked" Q7) (a21:DI K "_law_three" Q8)
  {od an:Option Addr} {sl:Array (Option Value)} {oc kV dc pm cd ct:Value} (aL:W.nsIn K mainGlobals "law"=some (some (.ref fL))) (lL:MF K fL oc od sl kV dc pm an cd ct "law" "law" zg5) (cL:W.codeIn K cd "law"=true) (kL:W.keepIn K (.ref fL)=true)
  {tk0 tk1 tk2 tk3:Tok} (gc0:W.nsIn K mainGlobals "MOST_PLACES"=some (some (.int 60 tk0))) (gc1:W.nsIn K mainGlobals "MOST_MAKERS"=some (some (.int 200 tk1))) (gc2:W.nsIn K mainGlobals "STILL_LINE"=some (some (.int 0 tk2))) (gc3:W.nsIn K mainGlobals "MOST_LISTED"=some (some (.int 1000 tk3)))
  {cBook:Addr} (nBook:CI K cBook "Book" zf9) {cStep:Addr} (nStep:CI K cStep "Step" O5) {cChain:Addr} (nChain:CI K cChain "Chain" Y4) {cGroup:Addr} (nGroup:CI K cGroup "Group" U8) (iBookinit:MI K cBook "__init__" "Book.__init__" R8) (iBookput:MI K cBook "put" "Book.put" B8) (iBookput_behind:MI K cBook "put_behind" "Book.put_behind" V9) (iBookput_back:MI K cBook "put_back" "Book.put_back" W2) (iStepinit:MI K cStep "__init__" "Step.__init__" Q0) (iStepput_mover:MI K cStep "put_mover" "Step.put_mover" T5) (iStepput_place:MI K cStep "put_place" "Step.put_place" X4) (iStepnext_pair:MI K cStep "next_pair" "Step.next_pair" T4) (iChaininit:MI K cChain "__init__" "Chain.__init__" U9) (iChainsifted:MI K cChain "sifted" "Chain.sifted" U0) (iChainholds:MI K cChain "holds" "Chain.holds" N2) (iChainfound_mover:MI K cChain "found_mover" "Chain.found_mover" b7) (iChainsettle:MI K cChain "settle" "Chain.settle" P5) (iChaintake:MI K cChain "take" "Chain.take" L8) (iChainsize:MI K cChain "size" "Chain.size" L7) (iGroupinit:MI K cGroup "__init__" "Group.__init__" T0) (iGroupsize:MI K cGroup "size" "Group.size" L9) (iGrouphas:MI K cGroup "has" "Group.has" R5) (iChainturning_to:MI K cChain "turning_to" "Chain.turning_to" Z4) (iChainbase_steps:MI K cChain "base_steps" "Chain.base_steps" W8) (iGroupneed_in:MI K cGroup "need_in" "Group.need_in" R9) (iGroupnth:MI K cGroup "nth" "Group.nth" F6) (iGroupplace_of:MI K cGroup "place_of" "Group.place_of" T3) (iGrouplisted:MI K cGroup "listed" "Group.listed" P6) {xC0:Addr} (xe0:EI K "TurnError" xC0 bmV) {xC1:Addr} (xe1:EO K "TooMany" xC1 xC0) (xv:W.nsIn K mainGlobals "ValueError"=some none)
  (zz:(["len","range","list","tuple","isinstance","int","bool","str","enumerate","sorted","sum","all","set","reversed","divmod","max","min"]:List Str).all (λx=>match W.nsIn K mainGlobals x with|some none=>true|_=>false)=true) :
  ∃fd:FuncData,(∀(s:Shared) (v:Value),BindsTo s fd ⟨[v],[]⟩ [("_law_script",v)])/\∀base:Heap,K.In base->base.Ns mainGlobals mg->p6 l.prog w K mg base CX0 10 fa fd ["_law_script"] (yn5 K):=by
 cases hfa.symm.trans (W.mg_of X G aL)
 have bi:∀x∈(["len","range","list","tuple","isinstance","int","bool","str","enumerate","sorted","sum","all","set","reversed","divmod","max","min"]:List Str),mg x=none:=λx hx=>W.mg_none_of X G (by have h:=bS.mp zz x hx;split at h <;> first|assumption|cases h)
 have B:Blt mg:=by constructor <;> exact bi _ (by simp)
 have j21:zg8 mg "MOST_PLACES" (.int 60):=⟨_,W.mg_of X G gc0,⟨_,rfl⟩⟩
 have j39:zg8 mg "MOST_MAKERS" (.int 200):=⟨_,W.mg_of X G gc1,⟨_,rfl⟩⟩
 have j15:zg8 mg "STILL_LINE" (.int 0):=⟨_,W.mg_of X G gc2,⟨_,rfl⟩⟩
 have j38:zg8 mg "MOST_LISTED" (.int 1000):=⟨_,W.mg_of X G gc3,⟨_,rfl⟩⟩
 refine ⟨W.fnOf "law" "law" (Q6 zg5) (V5 zg5) (y6 zg5) .none kV dc pm an cd ct,λs v=>.of_eq rfl,λbase _ _=>?_⟩
 have Z:ZZ l.prog w K mg base:=⟨λa=>W.mg_of X G a⟩
 have j27:yt5 K mg xC0:=⟨Z.mg xe0.n,xe0.c,W.mg_none_of X G xv⟩
 have j18:=xe1.at Z
 have j3:=nBook.f
 have j1:=nStep.f
 have j0:=nChain.f
 have j2:=nGroup.f
 have j17:=a0.kn Z λD=>yc0 D B
 have j55:=a1.kn Z λD=>zp1 D B j17 j21
 have j26:=a2.kn Z λD=>ze7 D B j55
 have j10:=a3.kn Z λD=>yy3 D B
 have j7:=a4.kn Z λD=>yr4 D B
 have j25:=a5.kn Z λD=>xe3 D B
 have j56:=a6.kn Z λD=>zp2 D B j17 j26 j21 j39
 have j42:=iBookinit.mak Z nBook λF=>zu5 F B j3 j10 j15
 have j11:=iBookput.kn Z λF=>yb8 F B j3
 have j29:=iBookput_behind.kn Z λF=>B6 F B j3 j11 j7 j15
 have j28:=iBookput_back.kn Z λF=>ze5 F B j3 j11 j25
 have j44:=iStepinit.mak Z nStep λF=>zu8 F B j1 j10 j15
 have j22:=iStepput_mover.kn Z λF=>zb4 F B j1
 have j41:=iStepput_place.kn Z λF=>zb5 F B j1 j25
 have j40:=iStepnext_pair.kn Z λF=>zb3 F B j1
 have j43:=iChaininit.mak Z nChain λF=>zo1 F B j0 j42 j44
 have j32:=iChainsifted.kn (sp:=yj7 cChain cBook cStep) Z λF=>zh3 F B j0 j1 j7
 have j12:=iChainholds.kn Z λF=>zl5 F B j0 j32
 have j30:=iChainfound_mover.kn Z λF=>G6 F B j0 j3 j1 j7 j41 j29 j28 j22 j12
 have j31:=iChainsettle.kn Z λF=>zh2 F B j0 j1 j40 j30
 have j34:=iChaintake.kn Z λF=>zo3 F B j0 j3 j1 j11 j22 j12 j31
 have j33:=iChainsize.kn (sp:=yj8 cChain cBook cStep) Z λF=>zo2 F B j0 j1
 have j24:=iGroupinit.mak Z nGroup λF=>zo4 F B j2 j0 j56 j43 j34
 have j8:=iGroupsize.kn Z λF=>zo5 F B j2 j0 j33
 have j13:=iGrouphas.kn Z λF=>zu6 F B j2 j0 j26 j12
 have j20:=iChainturning_to.kn (sp:=zd0 cChain cBook cStep) Z λF=>C2 F B j0 j3 j1
 have j19:=iChainbase_steps.kn (sp:=zx3 cChain cBook cStep) Z λF=>C1 F B j0 j1
 have j35:=iGroupneed_in.kn Z λF=>ze6 F B j2 j13
 have j14:=iGroupnth.kn Z λF=>zu7 F B j2 j0 j1 j8 j17 j10 j19 j20 j7
 have j36:=iGroupplace_of.kn Z λF=>zb2 F B j2 j0 j1 j35 j10 j19 j20 j7
 have j23:=iGrouplisted.kx (sp:=T6 xC1 cGroup cChain cBook cStep) Z λF=>zh4 F B j2 j8 j14 j38 j18
 have j37:=yb1 j23
 have j4:=a7.kn Z λD=>zu9 D B
 have j16:=a8.kn Z λD=>zp0 D B
 have j48:=a9.kn Z λD=>zl8 D B
 have j9:=a10.kn Z λD=>zh5 D B
 have j53:=a11.kn Z λD=>zv2 D B
 have j6:=a12.kn Z λD=>zm1 D B j9 j53
 have j5:=a13.kn Z λD=>zm0 D B
 have j51:=a14.kn Z λD=>zv0 D B j4 j6 j5
 have j46:=a15.kn Z λD=>zo6 D B j4 j6 j5
 have j49:=a16.kn Z λD=>zl9 D B j4 j9 j6 j5
 have j50:=a17.kn Z λD=>zo8 D B j4 j9 j6 j5 j51 j46 j49
 have j45:=a18.kn Z λD=>yb9 D B j48
 have j52:=a19.kn Z λD=>zv1 D B j16
 have j47:=a20.kn Z λD=>zo7 D B j2 j14 j36 j13 j16 j9 j5
 have j54:=a21.kn Z λD=>zo9 D B j2 j24 j23 j8 j13 j14 j4 j6 j5 j27 j18
 exact xl4 ⟨zt4 (st:=zg5) lL cL kL,(zt4 (st:=zg5) lL cL kL).binds (ps:=["_law_script"]) λ_ _ _ _ _ _ us hl=>match us,hl with|[_],_=>rfl,W.mg_of X G aL⟩ B j2 j24 j8 j37 j4 j16 j50 j45 j52 j47 j54
end Tb
open PySem PySem.W PyProof.Rows
set_option maxRecDepth 100000 in
set_option maxHeartbeats 0 in
theorem PySem.Challenge.cw_turnbase_k40_whole_small_groups_holds : PySem.Challenge.rw_turnbase_k40_whole_small_groups.Holds := by
 refine Tb.early.2 Tb.early2 Tb.early3 Tb.early4 Tb.early5 ?_
 refine Tb.walk (l := PySem.Challenge.rw_turnbase_k40_whole_small_groups) (k := 10) (x := "_law_script") rfl rfl ⟨rfl, by decide, by decide⟩ (fun w h Y => PySem.W.kIn_of Y) ?F
 case F =>
  intro w mg fa h KX G hmg
  refine' Tb.all_mk KX G hmg ?a0 ?a1 ?a2 ?a3 ?a4 ?a5 ?a6 ?a7 ?a8 ?a9 ?a10 ?a11 ?a12 ?a13 ?a14 ?a15 ?a16 ?a17 ?a18 ?a19 ?a20 ?a21 ?aL ?lL ?cL ?kL ?gc0 ?gc1 ?gc2 ?gc3 ?nBook ?nStep ?nChain ?nGroup ?iBookinit ?iBookput ?iBookput_behind ?iBookput_back ?iStepinit ?iStepput_mover ?iStepput_place ?iStepnext_pair ?iChaininit ?iChainsifted ?iChainholds ?iChainfound_mover ?iChainsettle ?iChaintake ?iChainsize ?iGroupinit ?iGroupsize ?iGrouphas ?iChainturning_to ?iChainbase_steps ?iGroupneed_in ?iGroupnth ?iGroupplace_of ?iGrouplisted ?xe0 ?xe1 ?xv ?zz
  (case a0 | a1 | a2 | a3 | a4 | a5 | a6 | a7 | a8 | a9 | a10 | a11 | a12 | a13 | a14 | a15 | a16 | a17 | a18 | a19 | a20 | a21 => refine' Tb.DI.of ?x1 ?x2 ?x3 ?x4; (case x1 | x2 | x3 | x4 => first | k_is | kernel_rfl | (unfold Tb.MF; k_is)))
  (case nBook | nStep | nChain | nGroup => refine' Tb.CI.of ?x1 ?x2 ?x3 ?x4 ?x5 ?x6 ?x7 ?x8; (case x1 | x2 | x3 | x4 | x5 | x6 | x7 | x8 => first | k_is | kernel_rfl | (unfold Tb.MF; k_is)))
  (case iBookinit | iBookput | iBookput_behind | iBookput_back | iStepinit | iStepput_mover | iStepput_place | iStepnext_pair | iChaininit | iChainsifted | iChainholds | iChainfound_mover | iChainsettle | iChaintake | iChainsize | iGroupinit | iGroupsize | iGrouphas | iChainturning_to | iChainbase_steps | iGroupneed_in | iGroupnth | iGroupplace_of | iGrouplisted => refine' Tb.MI.of ?x1 ?x2 ?x3 ?x4 ?x5; (case x1 | x2 | x3 | x4 | x5 => first | k_is | kernel_rfl | (unfold Tb.MF; k_is)))
  (case xe0 => refine' Tb.EI.of ?x1 ?x2 ?x3 ?x4 ?x5 ?x6; (case x1 | x2 | x3 | x4 | x5 | x6 => first | k_is | kernel_rfl | (unfold Tb.MF; k_is)))
  (case xe1 => refine' ⟨Tb.EI.of ?x1 ?x2 ?x3 ?x4 ?x5 ?x6, ?x7⟩; (case x1 | x2 | x3 | x4 | x5 | x6 | x7 => first | k_is | kernel_rfl | (unfold Tb.MF; k_is)))
  (case aL | lL | cL | kL | gc0 | gc1 | gc2 | gc3 | xv | zz => first | k_is | kernel_rfl | (unfold Tb.MF; k_is))

