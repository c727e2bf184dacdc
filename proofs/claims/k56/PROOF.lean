import PyProof.Rows.All
import KE.KDictList
import KE.KIsAll
import KE.KSortTup
import KE.LcSums
import KE.KItem
import Lean
import PySem.Challenge.RW_turnbase_k56_shadow
open Array renaming length_toList → aK, getElem?_toList → bz, append_assoc → fA, toList_map → fD, toList_inj → fE
open Bool renaming false_ne_true → aD, false_eq_true → bN, and_eq_true → cf, eq_false_iff → cQ, eq_iff_iff → dR, false_and → eW, and_false → eX, or_true → fS
open Int renaming le_of_lt → bM, not_lt → bS, le_trans → cv, emod_nonneg → cP, toNat_natCast → cU, le_refl → du, emod_lt_of_pos → dI, natCast_nonneg → dY, le_antisymm → eS, fmod_eq_emod_of_nonneg → ff, fdiv_eq_ediv_of_nonneg → fg, toNat_of_nonneg → fC
open List renaming length_map → aa, getElem?_eq_getElem → ae, getElem?_map → af, length_append → ah, getElem?_eq_some_iff → al, mem_of_getElem? → aq, mem_singleton → ar, getD_eq_getElem?_getD → au, mem_cons_of_mem → av, mem_cons → aw, mem_cons_self → ax, mem_map → ay, size_toArray → aA, length_cons → aC, mem_append → aF, mem_append_right → aG, map_append → aH, mem_append_left → aJ, getElem?_append_left → aN, map_cons → aQ, length_range → aS, nodup_cons → aV, getElem?_eq_none → aW, getElem?_append_right → aX, mem_nil_iff → aZ, mem_iff_getElem → bg, lookup_cons → bh, append_assoc → bj, getElem?_range → bn, length_take → bo, all_eq_true → bu, mem_range → bv, map_map → bx, pairwise_map → bB, mem_of_mem_take → bC, pairwise_iff_getElem → bD, mem_filterMap → bE, append_nil → bF, not_mem_nil → bH, length_singleton → bI, take_add_one → bJ, nodup_append → bK, idxOf_lt_length_of_mem → bL, take_of_length_le → bO, length_drop → bP, map_congr_left → bQ, take_append_of_le_length → bR, length_set → bV, getElem_mem → bX, getElem?_set_ne → bY, getElem?_of_mem → bZ, take_append_drop → ci, length_replicate → ck, take_length → cn, getElem?_take_of_lt → cq, getElem?_set_self → cw, drop_eq_getElem_cons → cy, take_sublist → cz, ext_getElem? → cE, getElem?_replicate → cF, map_nil → cK, getElem?_drop → cM, mem_flatten → cV, toList_toArray → de, length_erase_of_mem → df, find?_cons → dh, length_eq_zero_iff → dq, find?_cons_of_pos → dw, find?_cons_of_neg → dz, drop_of_length_le → dA, mem_erase_of_ne → dD, length_nil → dF, range'_succ → dM, mem_flatMap → dN, filter_cons → dO, forIn_cons → dQ, take_zero → dS, filterMap_cons → dW, flatMap_cons → dZ, find?_append → eg, nodup_range → eF, getElem_inj → eJ, cons_ne_nil → eK, map_id → eL, of_mem_zip → eR, perm_ext_iff_of_nodup → eU, nodup_nil → eV, mem_or_eq_of_mem_set → eY, getElem?_eq_none_iff → eZ, sum_cons → fj, map_take → fk, any_cons → fq, length_pos_of_mem → ft, mem_of_mem_drop → fy, mem_reverse → fF, mem_filter → fJ, drop_zero → fM, drop_drop → fN, map_drop → fP, all_cons → fQ, all_map → fR
open Nat renaming le_refl → ag, le_trans → aO, zero_le → aP, lt_of_lt_of_le → aR, ne_of_lt → aU, lt_irrefl → aY, le_of_lt → bA, le_succ → bU, lt_or_eq_of_le → bW, le_of_not_lt → cH, le_add_right → cI, lt_of_le_of_ne → cN, not_lt_zero → cO, le_of_lt_succ → cT, zero_add → cW, sub_self → cX, ne_of_gt → cY, lt_succ_self → cZ, lt_of_le_of_lt → di, lt_succ_of_lt → dB, mul_le_mul_right → dE, le_antisymm → dG, lt_or_ge → dH, lt_trichotomy → dL, sub_zero → dP, pow_le_pow_right → dU, not_lt → dX, succ_pos → eA, lt_trans → eD, le_of_eq → eE, one_pos → eM, one_mul → eP, add_mul → eQ, le_total → fu, add_comm → fv, mod_eq_of_lt → fH, max_eq_right → fI, min_eq_left → fK, mul_le_mul → fO, succ_mul → fU, pow_succ → fV, add_zero → fW, mul_one → fX
open Option renaming map_some → cJ, getD_some → dC, isSome_iff_exists → dJ, map_eq_some_iff → fh, toList_some → fx, isSome_map → fz, getD_none → fB
open PyProof.Rows renaming wpS_bind → gC, wpS_pure → gD, wpS_forRange → gE, seqObj → gF
open PySem renaming wpAny_bind → fY, Shared → fZ, wpAny_pure → gc, sizeLine → ge, Program → gf, wpAny → gh, starEach → gl, model → gn, World → gq, Around → gu, wpAny_holding → gv, wpAny_mono → gw, bootBuiltins → gz, keywordEach → gA, FuncData → gB
open PySem.Heap renaming get?_push_of_some → ao, lt_size → az, get?_push_size → aB, size_push → dv
set_option Elab.async false
set_option linter.all false
set_option compiler.extract_closed false
set_option genSizeOf false
local macro_rules|`(tactic|trivial)=>`(tactic|(intro _ _ _ _ _ _ us hl;rcases us with _|⟨_,_|⟨_,_|⟨_,_|⟨_,_|⟨_,_|⟨_,_⟩⟩⟩⟩⟩⟩ <;> first|rfl|simp at hl))
namespace Tb
open PySem PySem.W
def xe7 (st:SharedT->Thread->Option (SharedT×Thread))(ok thr:Thread->Bool):Nat->SharedT->Thread->Option SharedT
 | 0,_,_=>none
 | n+1,s,t=>match thr t with
  | true=>some s
  | false=>match ok t with
   | false=>none
   | true=>match st s t with
    | some (s',t')=>xe7 st ok thr n s' t'
    | none=>none
theorem yr0 {tb:String->Option Builtin}:∀{n:Nat} {s r:SharedT} {t:Thread},xe7 (stepT (denote tb) p w) (stepOk n₀ ann) through n s t=some r->topRun tb p w n₀ ann n s.abs t=some r.abs
 | 0,_,_,_,h=>by cases h
 | n+1,s,r,t,h=>by
  unfold xe7 at h
  unfold topRun
  cases ht:through t with
  | true=>rw[ht]at h;cases h;rfl
  | false =>
   rw[ht]at h
   cases hk:stepOk n₀ ann t with
   | false=>rw[hk]at h;cases h
   | true =>
    rw[hk]at h
    cases hs:stepT (denote tb) p w s t with
    | none=>rw[hs]at h;cases h
    | some q =>
     obtain⟨s₂,t₂⟩:=q
     rw[hs]at h
     rw[stepT_spec hs]
     exact yr0 h
def zj1:List Obj->Nat->BT->Option BT
 | [],_,T=>some T
 | o::r,k,T=>match ((T.ins k o).get k).isSome with
  | true=>zj1 r (k+1) (T.ins k o)
  | false=>none
theorem zs8 :∀{l:List Obj} {k:Nat} {T T':BT},zj1 l k T=some T'->(absHeap T' (k+l.length) life).objs=(absHeap T k life).objs++l.toArray
 | [],k,T,T',h=>by
  cases h
  simp
 | o::r,k,T,T',h=>by
  unfold zj1 at h
  cases hs:((T.ins k o).get k).isSome with
  | false=>rw[hs]at h;cases h
  | true =>
   rw[hs]at h
   have ih:=zs8 (life:=life) h
   rw[absHeap_ins hs]at ih
   rw[aC,show k+(r.length+1)=k+1+r.length by lia,ih]
   show((absHeap T k life).objs.push o)++r.toArray=_
   simp
theorem yj0 {h:Heap}(e:zj1 h.objs.toList 0 .nil=some T):absHeap T h.objs.size h.life=h:=by
 have q:=zs8 (life:=h.life) e
 rw[cW,aK]at q
 have q0:(absHeap BT.nil 0 h.life).objs=#[]:=by
  apply Array.ext_getElem?
  intro i
  rw[absHeap_at]
  simp
 rw[q0]at q
 have:(absHeap T h.objs.size h.life).objs=h.objs:=by rw[q];simp
 show Heap.mk _ _=h
 rw[show h=Heap.mk h.objs h.life from rfl]
 exact congrArg (Heap.mk · h.life) this
def yy8 (fo:Option fZ)(st:SharedT->Thread->Option (SharedT×Thread))(ok:Nat->Option Value->Thread->Bool)(p:gf)(N:Nat):Option (fZ×SharedT) :=
 match fo with
 | none=>none
 | some s₀=>match zj1 s₀.heap.objs.toList 0 .nil with
  | none=>none
  | some T=>match xe7 st (ok s₀.heap.objs.size (s₀.heap.nsMap mainGlobals "__annotations__")) through N ⟨T,s₀.heap.objs.size,s₀.heap.life,s₀.gens,s₀.drawn,s₀.toks,s₀.os⟩ (topStub p) with
   | none=>none
   | some s₁=>some (s₀,s₁)
def ys3 {β:Type}:Nat->List β->List β
 | 0,_=>[]
 | _+1,[]=>[]
 | n+1,x::l=>x::ys3 n l
def yd9 {β:Type}:Nat->List β->List β
 | 0,l=>l
 | _+1,[]=>[]
 | n+1,_::l=>yd9 n l
theorem yi9 {β:Type}:∀(n:Nat) (l:List β),ys3 n l=l.take n
 | 0,_=>rfl
 | _+1,[]=>rfl
 | n+1,x::l=>congrArg (x :: ·) (yi9 n l)
theorem zc6 {β:Type}:∀(n:Nat) (l:List β),yd9 n l=l.drop n
 | 0,_=>rfl
 | _+1,[]=>rfl
 | n+1,_::l=>zc6 n l
theorem leftC {p q:gf}{Xt:fZ->Bool}{β:Type}{Yf:fZ->List β}{Ya:gq->List β}(n:Nat)(e:opening p=plainProg p.main.scope.names)(hN:Nat.ble 600 N=true)(f:∀s,fenceModules? p s=some s)
  (hA:∀w os,(yy8 (some ⟨boot_heap w.params,Array.mk [],boot_drawn,boot_toks,os⟩) (stepT (denote treeTable) p w) stepOk p N).map (λr=>(r.1.heap.isNs mainGlobals&&r.1.gens.size==0,staticsOk (importedModules p.main.body) r.1.heap r.2.abs.heap&&namesBound p r.2.abs.heap&&gensDone r.2.abs&&laidKept r.1.heap r.2.abs.heap,openSeen q loose (importedModules p.main.body) Xt g0 r.2.abs))=some (true,true,openGood q loose))
  (hB:∀w os,(yy8 (some ⟨boot_heap w.params,Array.mk [],boot_drawn,boot_toks,os⟩) (stepT (denote treeTable) p w) stepOk p N).map (λr=>(Yf r.2.abs).take n)=some (ys3 n (Ya w)))
  (hC:∀w os,(yy8 (some ⟨boot_heap w.params,Array.mk [],boot_drawn,boot_toks,os⟩) (stepT (denote treeTable) p w) stepOk p N).map (λr=>((Yf r.2.abs).drop n).take n)=some (ys3 n (yd9 n (Ya w))))
  (hD:∀w os,(yy8 (some ⟨boot_heap w.params,Array.mk [],boot_drawn,boot_toks,os⟩) (stepT (denote treeTable) p w) stepOk p N).map (λr=>((Yf r.2.abs).drop n).drop n)=some (yd9 n (yd9 n (Ya w)))):LeftO p q loose Xt Yf Ya N g0:=λw=>by
 obtain⟨s₀,hs,hv⟩:=fh.mp (boot_open e hN f w)
 have es:(⟨boot_heap w.params,Array.mk [],boot_drawn,boot_toks,s₀.os⟩:fZ)=s₀:=by
  obtain⟨h1,h2⟩:=Prod.mk.inj hv
  obtain⟨h2,h3⟩:=Prod.mk.inj h2
  obtain⟨h3,h4⟩:=Prod.mk.inj h3
  rw[←h1,←h2,←h3,←h4]
 have a:=hA w s₀.os
 have b:=hB w s₀.os
 have c:=hC w s₀.os
 have d:=hD w s₀.os
 rw[es]at a b c d
 clear es hv
 unfold openEnds
 rw[hs]
 unfold yy8 at a b c d
 dsimp only at a b c d
 cases ht:zj1 s₀.heap.objs.toList 0 .nil with
 | none=>rw[ht]at a;cases a
 | some T =>
  rw[ht]at a b c d
  dsimp only at a b c d
  cases hr:xe7 (stepT (denote treeTable) p w) (stepOk s₀.heap.objs.size (s₀.heap.nsMap mainGlobals "__annotations__")) through N ⟨T,s₀.heap.objs.size,s₀.heap.life,s₀.gens,s₀.drawn,s₀.toks,s₀.os⟩ (topStub p) with
  | none=>rw[hr]at a;cases a
  | some s₁ =>
   rw[hr]at a b c d
   have a:=Option.some.inj a
   have b:=Option.some.inj b
   have c:=Option.some.inj c
   have d:=Option.some.inj d
   dsimp only at a b c d
   rw[yi9]at b c
   rw[zc6]at c
   rw[zc6,zc6]at d
   have c':(Yf s₁.abs).drop n=(Ya w).drop n:=by rw[←ci n ((Yf s₁.abs).drop n),c,d,ci]
   have b':Yf s₁.abs=Ya w:=by rw[←ci n (Yf s₁.abs),b,c',ci]
   have e1:=(Prod.mk.inj a).1
   have e2:=(Prod.mk.inj (Prod.mk.inj a).2).1
   have e3:=(Prod.mk.inj (Prod.mk.inj a).2).2
   have r:=yr0 hr
   have ab:(SharedT.mk T s₀.heap.objs.size s₀.heap.life s₀.gens s₀.drawn s₀.toks s₀.os).abs=s₀:=by
    show Shared.mk (absHeap T s₀.heap.objs.size s₀.heap.life) s₀.gens s₀.drawn s₀.toks s₀.os=s₀
    rw[yj0 ht]
   rw[ab]at r
   show Option.map _ (topFrom treeTable p w N s₀)=_
   unfold topFrom
   rw[e1]
   dsimp only
   rw[r]
   show Option.map _ (match staticsOk (importedModules p.main.body) s₀.heap s₁.abs.heap&&namesBound p s₁.abs.heap&&gensDone s₁.abs&&laidKept s₀.heap s₁.abs.heap with|true=>some s₁.abs|false=>none)=_
   rw[e2]
   exact congrArg some (Prod.ext e3 b')
end Tb
section
open PySem PySem.W PyProof.Rows
namespace Tb
def seenQ:gf:=view PySem.Challenge.pw_turnbase_k56_shadow [0,2,3,4,5,6,7,8,10,11,12,13,14,15,16,18,19,20,22,23,24,25,27,28,29,31,33,34,35,36,37,39,41,42,43,44,45,46,47,48,49,50,51]
end Tb
local macro_rules | `(tactic| o_head $H:term)=>`(tactic| refine W.holds_open (q:=Tb.seenQ) (loose:=[PySem.Str.ofString "sides"]) (Xt:=λs=>xlAt Tb.seenQ [] s&&recOk (RowW.records (OpenRow.toRowW PySem.Challenge.rw_turnbase_k56_shadow.row)) s) (XP:=XL Tb.seenQ []) (Yf:=Hook.obs $H) (Ya:=Hook.val $H) (YP:=Hook.says $H) (N:=10964) ?hl (Hook.of $H) (Hook.keeps $H) (λs e=>xl_of s (Bool.and_eq_true_iff.mp e).1) XL.keeps (by rfl) (by rfl) (by rfl) (λs e=>recFacts_of (Bool.and_eq_true_iff.mp e).2) (by rfl) (by assumption) (by decide +kernel) ⟨rfl,rfl,rfl,rfl,rfl,by decide +kernel⟩ ?hw ?hc)
set_option maxRecDepth 100000 in
set_option maxHeartbeats 0 in
def Tb.early:PSigma (λT:Prop×Prop×Prop×Prop×Prop=>T.1->T.2.1->T.2.2.1->T.2.2.2.1->T.2.2.2.2->PySem.Challenge.rw_turnbase_k56_shadow.Holds):=by
 refine⟨(∀w os,(?A:gq->OsState->Prop) w os,∀w os,(?B:gq->OsState->Prop) w os,∀w os,(?C:gq->OsState->Prop) w os,∀w os,(?D:gq->OsState->Prop) w os,?T),λha hb hc hd he=>?m⟩
 (case m =>
  w_on;refine W.holds_law (by kernel_rfl) λsaid=>?_;k_head
  (case hl =>
  refine Tb.leftC (β:=Option Obj) 190 (by kernel_rfl) (by decide) (λs=>by kernel_rfl) ?_ ?_ ?_ ?_ <;> intro w os <;> (try unfold Tb.seenQ) <;> (repeat (first|rw[PySem.W.Fast.te10274390034422433532]|rw[PySem.W.Fast.te14289696077712309145]|rw[PySem.W.Fast.te10156331382660048174]|rw[PySem.W.Fast.te6613529449190102663]|rw[PySem.W.Fast.te11892475500146522536]|rw[PySem.W.Fast.te4187177175401517315]|rw[PySem.W.Fast.te14364793385576792824]|rw[PySem.W.Fast.te1435165496053646825]|rw[PySem.W.Fast.te5923862056798008813]))
  ·exact ha w os
  ·exact hb w os
  ·exact hc w os
  ·exact hd w os)
  (case hw=>w_witness2)
  k_fill
  exact he)
set_option maxRecDepth 100000 in
set_option maxHeartbeats 0 in
theorem Tb.early2:Tb.early.1.1:=by
 refine λw os=>?_
 kernel_rfl
set_option maxRecDepth 100000 in
set_option maxHeartbeats 0 in
theorem Tb.early3:Tb.early.1.2.1:=by
 refine λw os=>?_
 kernel_rfl
set_option maxRecDepth 100000 in
set_option maxHeartbeats 0 in
theorem Tb.early4:Tb.early.1.2.2.1:=by
 refine λw os=>?_
 kernel_rfl
set_option maxRecDepth 100000 in
set_option maxHeartbeats 0 in
theorem Tb.early5:Tb.early.1.2.2.2.1:=by
 refine λw os=>?_
 kernel_rfl
end
set_option Elab.async false
set_option linter.all false
set_option maxRecDepth 100000
namespace L2
open PySem PySem.Spec PyProof.Rows
abbrev Key:=Sum Int Str
def zp1 : Key -> Value -> Bool
  | .inl k,v=>Value.isInt k v
  | .inr x,v=>Value.isStrOf x v
def xx7 (w : gq) : Key -> Int
  | .inl k=>hashInt k
  | .inr x=>hashStr w x
theorem g9 : ∀{k : Key} {v : Value}, zp1 k v = true -> (∃i t, k = Sum.inl i /\ v = Value.int i t)∨(∃x t, k = Sum.inr x /\ v = Value.str x t)
  | .inl i,v,h=>by
    obtain⟨t,e⟩:=Value.isInt_shape (k:=i) (v:=v) h
    exact .inl ⟨i,t,rfl,e⟩
  | .inr x,v,h=>by
    obtain⟨t,e⟩:=Value.isStrOf_shape (x:=x) (v:=v) h
    exact .inr ⟨x,t,rfl,e⟩
theorem yu4 (i:Int)(t:Tok):zp1 (.inl i) (.int i t)=true:=by simp[zp1,Value.isInt]
theorem yu5 (x:Str)(t:Tok):zp1 (.inr x) (.str x t)=true:=by simp[zp1,Value.isStrOf]
theorem xq6 (a b:Int):decide ((Sum.inl a:Key)=Sum.inl b)=(a==b):=by
  by_cases e:a=b
  . subst e;simp
  . have h : ¬(Sum.inl a : Key) = Sum.inl b := λq => e (Sum.inl.inj q)
    rw[decide_eq_false h]
    exact(beq_eq_false_iff_ne.mpr e).symm
theorem xq9 (a b:Str):decide ((Sum.inr a:Key)=Sum.inr b)=decide (a=b):=by
  by_cases e:a=b
  . subst e;simp
  . have h : ¬(Sum.inr a : Key) = Sum.inr b := λq => e (Sum.inr.inj q)
    rw[decide_eq_false h,decide_eq_false e]
theorem xq7 (a:Int)(b:Str):decide ((Sum.inl a:Key)=Sum.inr b)=false:=decide_eq_false (λq=>nomatch q)
theorem xq8 (a:Str)(b:Int):decide ((Sum.inr a:Key)=Sum.inl b)=false:=decide_eq_false (λq=>nomatch q)
def c9 (prog:gf)(w:gq):PySem.KeyKind prog w Key where
  is:=zp1
  hash:=xx7 w
  inj:=λv a b ha hb=>by
    rcases g9 ha with⟨i,t,rfl,rfl⟩|⟨x,t,rfl,rfl⟩
    . rcases g9 hb with⟨j, u, rfl, e⟩|⟨y, u, rfl, e⟩
      . injection e with e1 _;rw[e1]
      . exact nomatch e
    . rcases g9 hb with⟨j, u, rfl, e⟩|⟨y, u, rfl, e⟩
      . exact nomatch e
      . injection e with e1 _;rw[e1]
  byValue:=λk v h=>by
    rcases g9 h with⟨i,t,rfl,rfl⟩|⟨x,t,rfl,rfl⟩ <;> rfl
  pyHash:=λhv h=>by
    rcases g9 hv with⟨i,t,rfl,rfl⟩|⟨x,t,rfl,rfl⟩
    . exact wpAny_pyHash_int h
    . exact wpAny_pyHash_str h
  eqBool:=λhu hv h=>by
    rcases g9 hu with⟨i,t,rfl,rfl⟩|⟨x,t,rfl,rfl⟩
    . rcases g9 hv with⟨j, u, rfl, rfl⟩|⟨y, u, rfl, rfl⟩
      . rw[xq6]at h;exact wpAny_eqBool_int h
      . rw[xq7]at h;exact SeqAt.EqAt.int_str i t y u _ _ _ _ h
    . rcases g9 hv with⟨j, u, rfl, rfl⟩|⟨y, u, rfl, rfl⟩
      . rw[xq8]at h;exact SeqAt.EqAt.str_int x t j u _ _ _ _ h
      . rw[xq9]at h;exact wpAny_eqBool_str h
  «strs»:=λk x t v h=>by
    rcases g9 h with⟨i,u,rfl,e⟩|⟨y,u,rfl,e⟩
    . exact nomatch e
    . injection e with e1 _
      subst e1
      cases v <;> rfl
theorem yf4 (prog:gf)(w:gq)(i:Int)(t:Tok):(c9 prog w).is (.inl i) (.int i t)=true:=yu4 i t
theorem yf5 (prog:gf)(w:gq)(x:Str)(t:Tok):(c9 prog w).is (.inr x) (.str x t)=true:=yu5 x t
inductive V where
  | non|bl (b:Bool)|int (i:Int)|str (x:Str)|byt (b:Array UInt8)|flt (b:UInt64)|ref (a:Addr)|ty (n:String)
  deriving DecidableEq
def p9 : V -> Value -> Prop
  | .non,u=>u=Value.none
  | .bl b,u=>u=Value.bool b
  | .int i,u=>∃t,u=Value.int i t
  | .str x,u=>∃t,u=Value.str x t
  | .byt b,u=>∃t,u=Value.bytes b t
  | .flt b,u=>∃t,u=Value.float b t
  | .ref a,u=>u=Value.ref a
  | .ty n,u=>u=Value.type n
abbrev p7:List V->List Value->Prop:=Paired p9
theorem p7.length {xs:List V}{us:List Value}(r:p7 xs us):xs.length=us.length:=Paired.length r
theorem p7.get : ∀{xs : List V} {us : List Value} {i : Nat} {x : V}, p7 xs us -> xs[i]? = some x -> ∃u, us[i]? = some u /\ p9 x u
  | _,_,_,_,.nil,e=>by simp at e
  | _,_,0,_,.cons r _,e=>by simp at e;subst e;exact⟨_,rfl,r⟩
  | _,_,i+1,x,.cons _ t,e=>by
    obtain⟨u,h1,h2⟩:=p7.get (i:=i) (x:=x) t (by simpa using e)
    exact⟨u,by simpa using h1,h2⟩
theorem p7.set (r : p9 x u) : ∀{xs : List V} {us : List Value} (i : Nat), p7 xs us -> p7 (xs.set i x) (us.set i u)
  | _,_,_,.nil=>.nil
  | _,_,0,.cons _ t=>.cons r t
  | _,_,i+1,.cons q t=>.cons q (p7.set r i t)
theorem p7.append : ∀{xs ys : List V} {us ws : List Value}, p7 xs us -> p7 ys ws -> p7 (xs ++ ys) (us ++ ws)
  | _,_,_,_,.nil,s=>s
  | _,_,_,_,.cons r t,s=>.cons r (p7.append t s)
theorem p7.take : ∀{xs : List V} {us : List Value} (n : Nat), p7 xs us -> p7 (xs.take n) (us.take n)
  | _,_,0,_=>.nil
  | _,_,_+1,.nil=>.nil
  | _,_,n+1,.cons r t=>.cons r (p7.take n t)
theorem p7.drop : ∀{xs : List V} {us : List Value} (n : Nat), p7 xs us -> p7 (xs.drop n) (us.drop n)
  | _,_,0,r=>r
  | _,_,_+1,.nil=>.nil
  | _,_,n+1,.cons _ t=>p7.drop n t
def A6 : Option V -> Option Value -> Prop
  | some v,some u=>p9 v u
  | none,none=>True
  | _,_=>False
def KV {κ:Type}:List (κ×V)->List (κ×Value)->Prop:=Paired λ(p:κ×V) (q:κ×Value)=>p.1=q.1/\p9 p.2 q.2
def kV : Key -> V
  | .inl i=>.int i
  | .inr x=>.str x
inductive HO where
  | lst (xs:List V)
  | tup (xs:List V)
  | dK (kvs:List (Key×V))|dT (kvs:List (List Key×V))
  | set (S:Int->Bool) (n:Nat)
  | ins (C dx:Addr) (fs:List (Str×V))
  | own (x:Addr)
  | xd (fs:List (Str×V))
  | met (f x:Addr)
  | rng (lo hi:Int)
  | frz (o:Obj) (u:HO)
  | tbl (ps:Array Value)
  | ext (φ:Heap->Prop)
abbrev Hp:=Addr->Option HO
def upd (H:Hp)(a:Addr)(o:HO):Hp:=λb=>if b=a then some o else H b
theorem z4 :upd H a o a=some o:=by unfold upd;rw[if_pos rfl]
theorem z6 (h:b≠a):upd H a o b=H b:=by unfold upd;rw[if_neg h]
theorem i9 {H:Hp}(h:H a=some o)(h':H b=some u)(d:o≠u):a≠b:=by
  intro e;subst e;rw[h]at h';exact d (Option.some.inj h')
theorem y0 {H:Hp}(h:H a=some o)(h':H b=none):a≠b:=by
  intro e;subst e;rw[h]at h';cases h'
def zx5 (h:Heap)(a:Addr)(items:Array Value):Prop:=∃o,h.get? a=some o/\o.cls=.type "tuple"/\∃n,o.data=.seq items n/\o.dict=none
theorem zx5.new (h:Heap)(items:Array Value):zx5 (h.push { cls:=.type "tuple",data:=.seq items }) h.objs.size items:=⟨_,aB _ rfl,rfl,_,rfl,rfl⟩
theorem zx5.is (x:zx5 h a items):IsTup h a items:=let ⟨o,h1,h2,n,h3,_⟩:=x;⟨o,h1,h2,n,h3⟩
section
variable (P:gf)(w:gq)
def l7 (H : Hp)(h : Heap)(a : Addr) : HO -> Prop
  | .lst xs=>xs.length<=ge/\∃(its:List Value) (n:Nat),p7 xs its/\h.get? a=some { cls:=.type "list",data:=.seq its.toArray n }
  | .tup xs=>xs.length<=ge/\∃its:List Value,p7 xs its/\zx5 h a its.toArray
  | .dK kvs=>kvs.length<=ge/\(a==sysModules)=false/\∃vs,KV kvs vs/\h.DictOf (c9 P w) a vs
  | .dT kvs=>kvs.length<=ge/\(a==sysModules)=false/\∃xs:List (List Key×Addr×Value),
      Paired (λ(p:List Key×V) (q:List Key×Addr×Value)=>p.1=q.1/\H q.2.1=some (.tup (p.1.map kV))/\p9 p.2 q.2.2) kvs xs /\
      ∃o es ep,h.get? a=some o/\o.ExactDict/\o.data=.dict es ep/\es.toList=xs.map (entryOfKey (tupleKind (c9 P w)))/\(xs.map (·.1)).Nodup
  | .set S n=>h.SetOf (intKind P w) a S n
  | .ins C dx fs=>H dx=some (.own a)/\fs.length<=1000/\dx≠a/\h.get? a=some (W.instObj C dx) /\
      ∃mA,h.Ns1 dx mA/\(∀f,A6 (fs.lookup f) (mA f))/\PySem.Within mA (fs.map (·.1))
  | .own _=>∃o,h.get? a=some o
  | .xd fs=>∃mA,h.Ns1 a mA/\∀f,A6 (fs.lookup f) (mA f)
  | .rng lo hi=>∃t u v,h.get? a=some { cls:=.type "range",data:=.fields #[.int lo t,.int hi u,.int 1 v] }
  | .frz o u=>h.get? a=some o/\l7 H h a u
  | .tbl ps=>h.get? a=some { cls:=.none,data:=.fields ps }
  | .met f x=>h.get? a=some (W.methodObj (.ref f) (.ref x))
  | .ext φ=>φ h/\(∃o,h.get? a=some o)/\∀h1 h2:Heap,φ h1->(∀o,h1.get? a=some o->h2.get? a=some o)->φ h2
def HOk (H:Hp)(h:Heap):Prop:=∀a o,H a=some o->l7 P w H h a o
end
section
variable {P:gf}{w:gq}{H H':Hp}{h h':Heap}{a:Addr}{o:HO}
theorem l7.lt (x:l7 P w H h a o):a<h.objs.size:=by
  cases o with
  | lst xs=>obtain⟨_,_,_,_,e⟩:=x;exact az e
  | tup xs=>obtain⟨_,_,_,p⟩:=x;exact p.is.lt
  | dK kvs=>obtain⟨_,_,_,_,o,_,_,e,_⟩:=x;exact az e
  | dT kvs=>obtain⟨_,_,_,_,o,_,_,e,_⟩:=x;exact az e
  | set S n=>obtain⟨o,_,_,_,e,_⟩:=x;exact az e
  | ins C dx fs=>obtain⟨_,_,_,e,_⟩:=x;exact az e
  | own y=>obtain⟨_,e⟩:=x;exact az e
  | xd fs=>obtain⟨_,⟨_,_,_,e,_⟩,_⟩:=x;exact az e
  | rng lo hi=>obtain⟨_,_,_,e⟩:=x;exact az e
  | frz ob u=>obtain⟨e,_⟩:=x;exact az e
  | tbl ps=>exact az (show h.get? a=some _ from x)
  | met f y=>exact az (show h.get? a=some _ from x)
  | ext φ=>obtain⟨_,⟨_,e⟩,_⟩:=x;exact az e
theorem Paired.mapP {α β : Type}{F G : α -> β -> Prop} : ∀{l₁ : List α} {l₂ : List β}, Paired F l₁ l₂ -> (∀a b, F a b -> G a b) -> Paired G l₁ l₂
  | _,_,.nil,_=>.nil
  | _,_,.cons r t,f=>.cons (f _ _ r) (Paired.mapP t f)
theorem Paired.imp' {α β:Type}{F G:α->β->Prop}(f:∀a b,F a b->G a b){l₁:List α}{l₂:List β}(r:Paired F l₁ l₂):Paired G l₁ l₂:=Paired.mapP r f
theorem l7.stay (x : l7 P w H h a o)(k : ∀b u, (b = a∨H b = some (.own a)) -> h.get? b = some u -> h'.get? b = some u)
    (ho:∀b,H b=some (.own a)->H' b=some (.own a)) (ht:∀b xs,H b=some (.tup xs)->H' b=some (.tup xs)):l7 P w H' h' a o:=by
  induction o with
  | lst xs=>obtain⟨z,its,n,r,e⟩:=x;exact⟨z,its,n,r,k _ _ (.inl rfl) e⟩
  | tup xs=>obtain⟨z,its,r,ob,e,c⟩:=x;exact⟨z,its,r,ob,k _ _ (.inl rfl) e,c⟩
  | dK kvs=>obtain⟨z,y,vs,r,ob,es,ep,e,c⟩:=x;exact⟨z,y,vs,r,ob,es,ep,k _ _ (.inl rfl) e,c⟩
  | dT kvs =>
    obtain⟨z,y,xs,r,ob,es,ep,e,c⟩:=x
    exact⟨z,y,xs,Paired.mapP r λp q z=>⟨z.1,ht _ _ z.2.1,z.2.2⟩,ob,es,ep,k _ _ (.inl rfl) e,c⟩
  | set S n=>obtain⟨ob,es,ep,t,e,c⟩:=x;exact⟨ob,es,ep,t,k _ _ (.inl rfl) e,c⟩
  | ins C dx fs =>
    obtain⟨d,z,ne,e,mA,⟨od,es,ep,e2,c⟩,r⟩:=x
    exact⟨ho _ d,z,ne,k _ _ (.inl rfl) e,mA,⟨od,es,ep,k _ _ (.inr d) e2,c⟩,r⟩
  | own y=>obtain⟨ob,e⟩:=x;exact⟨ob,k _ _ (.inl rfl) e⟩
  | xd fs=>obtain⟨mA,⟨od,es,ep,e,c⟩,r⟩:=x;exact⟨mA,⟨od,es,ep,k _ _ (.inl rfl) e,c⟩,r⟩
  | rng lo hi=>obtain⟨t,u,v,e⟩:=x;exact⟨t,u,v,k _ _ (.inl rfl) e⟩
  | frz ob u ih=>obtain⟨e,q⟩:=x;exact⟨k _ _ (.inl rfl) e,ih q⟩
  | tbl ps =>
    have e:h.get? a=some { cls:=.none,data:=.fields ps }:=x
    show h'.get? a=some { cls:=.none,data:=.fields ps }
    exact k a _ (.inl rfl) e
  | met f y =>
    have e:h.get? a=some (W.methodObj (.ref f) (.ref y)):=x
    show h'.get? a=some (W.methodObj (.ref f) (.ref y))
    exact k a _ (.inl rfl) e
  | ext φ=>obtain⟨p,⟨o,e⟩,st⟩:=x;exact⟨st _ _ p λo q=>k _ _ (.inl rfl) q,⟨o,k _ _ (.inl rfl) e⟩,st⟩
theorem HOk.lt (x:HOk P w H h)(e:H a=some o):a<h.objs.size:=(x a o e).lt
theorem HOk.fresh (x:HOk P w H h)(e:h.objs.size<=a):H a=none:=by
  cases q:H a with
  | none=>rfl
  | some u=>exact absurd (aR (x.lt q) e) (aY _)
theorem HOk.kept (x:HOk P w H h)(k:∀b u,h.get? b=some u->h'.get? b=some u):HOk P w H h':=λa o e =>
  (x a o e).stay (λb u _ q=>k b u q) (λ_ q=>q) λ_ _ q=>q
theorem HOk.laid (x:HOk P w H h)(k:∀b u,h.get? b=some u->h'.get? b=some u)(hp:h.objs.size<=a)(new:l7 P w (upd H a o) h' a o):HOk P w (upd H a o) h':=λb u e=>by
  have hn:=x.fresh hp
  by_cases hb:b=a
  . subst hb;rw[z4]at e;cases e;exact new
  . rw[z6 hb]at e
    exact(x b u e).stay (λc v _ q=>k c v q) (λc q=>by rw[z6 (y0 q hn)];exact q) λc xs q=>by rw[z6 (y0 q hn)];exact q
end
def Rd (H:Hp)(a:Addr)(u:HO):Prop:=H a=some u∨∃o,H a=some (.frz o u)
theorem Rd.ok (r:Rd H a u)(x:HOk P w H h):l7 P w H h a u:=by
  rcases r with r|⟨o,r⟩
  . exact x a u r
  . obtain⟨_, q⟩ := x a _ r
    exact q
def Mut : Option HO -> Prop
  | some (.lst _)=>True
  | some (.dK _)=>True
  | some (.dT _)=>True
  | some (.set _ _)=>True
  | some (.ins _ _ _)=>True
  | some (.ext _)=>True
  | _=>False
section
variable {P:gf}{w:gq}{H:Hp}{h h':Heap}{x e:Addr}{o':HO}
theorem HOk.write (ok : HOk P w H h)(mu : Mut (H x))(he : e = x∨H e = some (.own x))(k : ∀b u, b ≠ e -> h.get? b = some u -> h'.get? b = some u)(heo : ∃u, h'.get? e = some u)
    (new:l7 P w (upd H x o') h' x o'):HOk P w (upd H x o') h':=λb u q=>by
  have nown:∀c y,H c=some (.own y)->c≠x:=λc y r z=>by subst z;rw[r]at mu;exact mu
  have ntup:∀c xs,H c=some (.tup xs)->c≠x:=λc xs r z=>by subst z;rw[r]at mu;exact mu
  by_cases hb:b=x
  . subst hb;rw[z4]at q;cases q;exact new
  . rw[z6 hb]at q
    by_cases hbe:b=e
    . have q':H b=some (.own x):=by
        rcases he with z|z
        . exact absurd (hbe.trans z) hb
        . rw[hbe];exact z
      rw[q]at q';cases q'
      obtain⟨v,hv⟩:=heo
      exact⟨v,by rw[hbe];exact hv⟩
    . refine(ok b u q).stay (λc v hc r => k c v ?_ r) (λc r => by rw[z6 (nown c b r)]; exact r) λc xs r => by rw[z6 (ntup c xs r)]; exact r
      rcases hc with rfl|hc
      . exact hbe
      . rintro rfl
        rcases he with z|z
        . exact nown c b hc z
        . rw[hc]at z;cases z;exact hb rfl
end
structure Un (fs ex:List Addr) (H H':Hp) (h h':Heap):Prop where
  keep:∀b o,h.get? b=some o->H b=none->b∉fs->b∉ex->h'.get? b=some o
  slot:∀b o,h.get? b=some o->H b=none->b∈fs->b∉ex->∃sl,h'.get? b=some { o with slots:=sl }
  free:∀b o,h.get? b=some o->H b=none->b∉ex->H' b=none
  there:∀b o,h.get? b=some o->b∉ex->∃o',h'.get? b=some o'
  tups:∀b xs,H b=some (.tup xs)->H' b=some (.tup xs)
  frzs:∀b o u,H b=some (.frz o u)->H' b=some (.frz o u)
  tbls:∀b ps,H b=some (.tbl ps)->∃more,H' b=some (.tbl (ps++more))
section
variable {fs fs' ex ex':List Addr}{H H1 H2:Hp}{h h1 h2 h':Heap}{a x e:Addr}{o:HO}
theorem Un.any (u:Un fs ex H H1 h h1)(q:h.get? b=some ob)(n:H b=none)(hx:b∉ex):∃sl,h1.get? b=some { ob with slots:=sl }:=by
  by_cases hb:b∈fs
  . exact u.slot b ob q n hb hx
  . exact⟨ob.slots,u.keep b ob q n hb hx⟩
theorem Un.kept (k:∀b u,h.get? b=some u->h'.get? b=some u):Un fs ex H H h h' :=
  ⟨λb ob q _ _ _=>k b ob q,λb ob q _ _ _=>⟨ob.slots,k b ob q⟩,λ_ _ _ n _=>n,λb ob q _=>⟨ob,k b ob q⟩,λ_ _ q=>q,λ_ _ _ q=>q,λ_ ps q=>⟨#[],by rw[q];simp⟩⟩
theorem Un.refl:Un fs ex H H h h:=Un.kept λ_ _ q=>q
theorem Un.laid (k:∀b u,h.get? b=some u->h'.get? b=some u)(hp:h.objs.size<=a)(hn:H a=none):Un fs ex H (upd H a o) h h' where
  keep:=λb u q _ _ _=>k b u q
  slot:=λb u q _ _ _=>⟨u.slots,k b u q⟩
  free:=λb u q n _=>by rw[z6 (aU (aR (az q) hp))];exact n
  there:=λb u q _=>⟨u,k b u q⟩
  tups:=λb xs q=>by rw[z6 (y0 q hn)];exact q
  frzs:=λb u xs q=>by rw[z6 (y0 q hn)];exact q
  tbls:=λb ps q=>⟨#[],by rw[z6 (y0 q hn),q];simp⟩
theorem Un.write (mu:Mut (H x))(he:e=x∨H e=some (.own x))(k:∀b u,b≠e->h.get? b=some u->h'.get? b=some u)(heo:∃u,h'.get? e=some u):Un fs ex H (upd H x o) h h':=by
  have hx:∀b,H b=none->b≠x:=λb n z=>by subst z;rw[n]at mu;exact mu
  have hb:∀b,H b=none->b≠e:=λb n z=>by
    subst z
    rcases he with r|r
    . exact hx b n r
    . rw[n]at r;cases r
  have hm:∀b u,H b=some u->¬Mut (some u)->b≠x:=λb u q nm z=>by subst z;rw[q]at mu;exact nm mu
  refine⟨λb u q n _ _=>k b u (hb b n) q,λb u q n _ _=>⟨u.slots,k b u (hb b n) q⟩,λb u q n _=>by rw[z6 (hx b n)];exact n,λb u q _=>?_,
    λb xs q=>by rw[z6 (hm b _ q λz=>z)];exact q,λb u xs q=>by rw[z6 (hm b _ q λz=>z)];exact q,λb ps q=>⟨#[],by rw[z6 (hm b _ q λz=>z),q];simp⟩⟩
  by_cases hbe:b=e
  . subst hbe;exact heo
  . exact⟨u,k b u hbe q⟩
end
def trk (h:Heap)(H:Hp):List Addr:=(List.range h.objs.size).filter λa=>(H a).isSome
def zy3 (h:Heap)(H:Hp):Heap:=W.hideAll h (trk h H)
theorem yt7 (h:Heap)(H:Hp):(zy3 h H).objs.size=h.objs.size:=W.hideAll_size _ _
theorem yz4 {h:Heap}(e:h.get? b=some o)(n:H b=none):(zy3 h H).get? b=some o :=
  W.hideAll_get _ e λhm=>by
    have q:(H b).isSome=true:=(fJ.mp hm).2
    rw[n]at q;simp at q
theorem xk0 {h:Heap}(e:(zy3 h H).get? b=some o):h.get? b=some o/\H b=none:=by
  have e':h.get? b=some o:=W.of_hideAll (trk h H) e
  refine⟨e',?_⟩
  cases q:H b with
  | none=>rfl
  | some x =>
    have hm:b∈trk h H:=fJ.mpr ⟨bv.mpr (az e'),by simp[q]⟩
    have z:(zy3 h H).get? b=none:=W.hideAll_none (trk h H) hm
    rw[z]at e;cases e
def xi0 (g h:Heap)(L:Addr):List (Addr×Obj):=(List.range h.objs.size).filterMap λa=>if a=L∨(g.get? a).isSome=true then none else(h.get? a).map λo=>(a,o)
def P8 (g h:Heap)(L d:Addr):List (Addr×Obj):=(xi0 g h L).filter λp=>decide (p.1≠d)
structure Mod (K:W.Frag) (mg:Str->Option Value) (base:Heap):Prop where
  kin:K.In base
  glob:base.Ns mainGlobals mg
  blt:∃mb,base.Ns builtinsNs mb/\∀x:Str,x≠"__name__"->mb x=gz x
  nolimit:base.NoLimit
structure Cx where
  prog:gf
  w:gq
  K:W.Frag
  mg:Str->Option Value
  base:Heap
  A:gu
  N:List Str
  s₀:fZ
  H₀:Hp
  env:Env
  outer:List Env
  stack:List Env
  ex:List Addr
  fn:Str->Bool
  calm:Bool
  pn:List (Addr×Obj)
  xe:Value->fZ->Prop
def frs (l:List Env):List Addr:=l.filterMap (·.frame)
abbrev Cx.fs (X:Cx):List Addr:=frs X.outer
def Vis (sc:Scope)(x:Str):Prop:=sc.names.lookup x=some .local∨sc.names.lookup x=some .cell∨sc.names.lookup x=some .free
def Loc (sc:Scope)(x:Str):Prop:=sc.names.lookup x=some .local∨sc.names.lookup x=some .cell
def xw8 (env:Env)(h:Heap)(m:Str->Option Value)(x:Str)(u:Value):Prop :=
  (env.kindOf x=some .local/\m x=some u)∨((env.kindOf x=some .cell∨env.kindOf x=some .free)/\∃c,env.cells.lookup x=some c/\h.IsCell c (some u))
structure Cx.Ok (X:Cx):Prop where
  mod:Mod X.K X.mg X.base
  kind:X.env.scope.kind=.function
  glob:X.env.globals=mainGlobals
  blt:X.env.builtins=builtinsNs
  above:X.s₀.heap.objs.size<=X.env.locals
  inj:∀x y c,X.env.cells.lookup x=some c->X.env.cells.lookup y=some c->x=y
  has:∀x,(X.env.kindOf x=some .cell∨X.env.kindOf x=some .free)->∃c,X.env.cells.lookup x=some c
  cab:∀x c,X.fn x=true->X.env.cells.lookup x=some c->X.s₀.heap.objs.size<=c
  hd:X.calm=true->X.A.handled=none
  frames:X.A.frames=some X.stack
  stk:X.stack=X.outer∨(X.stack=X.env::X.outer/\X.env.frame=some X.env.locals)
  exf:∀b∈X.ex,b≠X.env.locals/\∀x c,X.env.cells.lookup x=some c->c≠b
  bs:∀b o,X.base.get? b=some o->X.s₀.heap.get? b=some o/\X.H₀ b=none
  bsz:X.base.objs.size<=X.s₀.heap.objs.size
  noex:∀b o,X.base.get? b=some o->b∉X.ex
  exfs:∀b∈X.ex,b∉X.fs
  funs:X.s₀.heap.FunFrames X.base X.outer
  frf:∀b∈X.fs,X.H₀ b=none
structure Inv (X:Cx) (pins:List (Addr×Obj)) (σ:List (Option V)) (H:Hp) (s:fZ):Prop where
  ok:X.Ok
  os:s.os=X.s₀.os
  bare:AllBare s.gens
  base:Un X.fs X.ex X.H₀ H X.s₀.heap s.heap
  loc:∃m,s.heap.Ns X.env.locals m/\∀(i:Nat) (x:Str) (v:V),X.N[i]?=some x->σ[i]?=some (some v)->Vis X.env.scope x->∃u,p9 v u/\xw8 X.env s.heap m x u
  cell:∀x c,X.env.cells.lookup x=some c->∃v,s.heap.IsCell c v
  free:H X.env.locals=none
  freeC:∀x c,X.env.cells.lookup x=some c->H c=none
  pin:∀p∈X.pn++pins,s.heap.get? p.1=some p.2/\H p.1=none/\p.1≠X.env.locals/\p.1∉X.fs/\∀v,p.2.data≠.cell v
  hok:HOk X.prog X.w H s.heap
  len:σ.length=X.N.length
section
variable {X:Cx}{pins:List (Addr×Obj)}{σ:List (Option V)}{H H':Hp}{s:fZ}{h':Heap}
theorem Cx.Ok.nofr (ok:X.Ok)(e:X.base.get? b=some o):b∉X.fs:=λhb=>by
  have:=(ok.funs.mem hb).1
  rw[e]at this;cases this
theorem Inv.bs (I:Inv X pins σ H s):∀b o,X.base.get? b=some o->s.heap.get? b=some o/\H b=none:=λb o e =>
  ⟨I.base.keep b o (I.ok.bs b o e).1 (I.ok.bs b o e).2 (I.ok.nofr e) (I.ok.noex b o e),I.base.free b o (I.ok.bs b o e).1 (I.ok.bs b o e).2 (I.ok.noex b o e)⟩
theorem Inv.bk (I:Inv X pins σ H s):∀b o,X.base.get? b=some o->s.heap.get? b=some o:=λb o e=>(I.bs b o e).1
theorem Inv.mod (I:Inv X pins σ H s):Mod X.K X.mg X.base:=I.ok.mod
theorem Inv.kIn (I:Inv X pins σ H s):X.K.In s.heap:=I.ok.mod.kin.keeps I.bk
theorem Inv.fr (I:Inv X pins σ H s):∃m,Fr X.base X.env.locals s.heap m :=
  let ⟨m,hn,_⟩:=I.loc
  ⟨m,hn,I.bk,aO I.ok.bsz I.ok.above⟩
theorem Inv.lt (I:Inv X pins σ H s):X.env.locals<s.heap.objs.size:=let ⟨_,hn,_⟩:=I.loc;hn.lt
theorem Inv.sz (I:Inv X pins σ H s):X.s₀.heap.objs.size<=s.heap.objs.size:=aO I.ok.above (bA I.lt)
theorem Inv.nofs (I:Inv X pins σ H s){a:Addr}(h:s.heap.objs.size<=a):a∉X.fs:=λhb=>by
  obtain⟨_,o,ho,_⟩:=I.ok.funs.mem hb
  exact absurd (aR (az ho) (aO I.sz h)) (aY _)
theorem Inv.cne (I:Inv X pins σ H s):∀x c,X.env.cells.lookup x=some c->c≠X.env.locals:=λx c e z=>by
  obtain⟨v,o,ho,hd⟩:=I.cell x c e
  obtain⟨m,⟨o',es,ep,ho',hd',_⟩,_⟩:=I.loc
  rw[z,ho']at ho;cases ho;rw[hd']at hd;cases hd
theorem Inv.funs (I:Inv X pins σ H s):s.heap.FunFrames X.base X.outer:=by
  have all:∀(l:List Env),(∀b∈frs l,b∈X.fs)->X.s₀.heap.FunFrames X.base l->s.heap.FunFrames X.base l:=by
    intro l
    induction l with
    | nil=>intro _ _;trivial
    | cons env r ih =>
      intro hs hl
      obtain⟨hk,⟨L,o,hf,hn,ho,hd⟩,hr⟩:=hl
      have hL:L∈X.fs:=hs L (by unfold frs;rw[dW,hf];exact ax)
      obtain⟨sl,e⟩:=I.base.slot L o ho (I.ok.frf L hL) hL λz=>I.ok.exfs L z hL
      exact⟨hk,⟨L,_,hf,hn,e,hd⟩,ih (λb hb=>hs b (by unfold frs;rw[dW,hf];exact av _ hb)) hr⟩
  exact all X.outer (λ_ hb=>hb) I.ok.funs
theorem Inv.stack (I:Inv X pins σ H s):s.heap.FunFrames X.base X.stack:=by
  rcases I.ok.stk with e|⟨e,hf⟩
  . rw[e];exact I.funs
  . rw[e]
    obtain⟨m,hn,_⟩:=I.loc
    refine .cons (by rw[I.ok.kind];decide) hf hn ?_ I.funs
    exact Heap.get?_none_of_le (aO I.ok.bsz I.ok.above)
theorem Inv.stkSub (I:Inv X pins σ H s):∀b∈frs X.stack,b∈X.env.locals::X.fs:=λb hb=>by
  rcases I.ok.stk with e|⟨e,hf⟩
  . rw[e]at hb;exact av _ hb
  . rw[e]at hb
    unfold frs at hb
    rw[dW,hf]at hb
    exact hb
theorem Inv.stkFree (I:Inv X pins σ H s):∀b∈frs X.stack,H b=none:=λb hb=>by
  rcases aw.mp (I.stkSub b hb) with e|hb
  . rw[e];exact I.free
  . obtain⟨_, o, ho, _⟩ := I.ok.funs.mem hb
    exact I.base.free b o ho (I.ok.frf b hb) λz=>I.ok.exfs b z hb
theorem Inv.step {ch : List Addr}(I : Inv X pins σ H s)
    (hch:∀b∈ch,(b∈X.ex∨X.s₀.heap.objs.size<=b)/\b≠X.env.locals/\(∀x c,X.env.cells.lookup x=some c->c≠b)/\∀p∈X.pn++pins,p.1≠b)
    (keep:∀b o,b≠X.env.locals->b∉X.fs->b∉ch->s.heap.get? b=some o->H b=none->h'.get? b=some o)
    (slot:∀b o,b≠X.env.locals->b∈X.fs->b∉ch->s.heap.get? b=some o->H b=none->∃sl,h'.get? b=some { o with slots:=sl }) (free:∀b o,b∉ch->s.heap.get? b=some o->H b=none->H' b=none)
    (there:∀b o,b∉ch->s.heap.get? b=some o->∃o',h'.get? b=some o')
    (tups:∀b xs,H b=some (.tup xs)->H' b=some (.tup xs)) (frzs:∀b o u,H b=some (.frz o u)->H' b=some (.frz o u)) (tbls:∀b ps,H b=some (.tbl ps)->∃more,H' b=some (.tbl (ps++more)))
    (ns:∀m,s.heap.Ns X.env.locals m->h'.Ns X.env.locals m) (hok:HOk X.prog X.w H' h') (hg:AllBare g') :
    Inv X pins σ H' { s with heap:=h',gens:=g',drawn:=d',toks:=t' }:=by
  have neL:∀b o,X.s₀.heap.get? b=some o->b≠X.env.locals:=λb o e=>aU (aR (az e) I.ok.above)
  have neC:∀b o,X.s₀.heap.get? b=some o->b∉X.ex->b∉ch:=λb o e hx hb=>by
    rcases (hch b hb).1 with z|z
    . exact hx z
    . exact absurd (aR (az e) z) (aY _)
  have cellK:∀x c,X.env.cells.lookup x=some c->∀v,s.heap.IsCell c v->h'.IsCell c v:=λx c e v ⟨o,ho,hd⟩=>by
    have nch:c∉ch:=λz=>(hch c z).2.2.1 x c e rfl
    by_cases hc:c∈X.fs
    . obtain⟨sl, q⟩ := slot c o (I.cne x c e) hc nch ho (I.freeC x c e)
      exact⟨_,q,hd⟩
    . exact⟨o,keep c o (I.cne x c e) hc nch ho (I.freeC x c e),hd⟩
  refine⟨I.ok,I.os,hg,⟨λb o e n hb hx=>?_,λb o e n hb hx=>?_,λb o e n hx=>?_,λb o e hx=>?_,λb xs e=>tups b xs (I.base.tups b xs e),λb o xs e=>frzs b o xs (I.base.frzs b o xs e),λb ps e=>?_⟩,?_,λx c e=>?_,?_,λx c e=>?_,λp hp=>?_,hok,I.len⟩
  . exact keep b o (neL b o e) hb (neC b o e hx) (I.base.keep b o e n hb hx) (I.base.free b o e n hx)
  . obtain⟨sl, e1⟩ := I.base.slot b o e n hb hx
    obtain⟨sl',e2⟩:=slot b _ (neL b o e) hb (neC b o e hx) e1 (I.base.free b o e n hx)
    exact⟨sl',e2⟩
  . obtain⟨o', e1⟩ := I.base.there b o e hx
    exact free b o' (neC b o e hx) e1 (I.base.free b o e n hx)
  . obtain⟨o', e1⟩ := I.base.there b o e hx
    exact there b o' (neC b o e hx) e1
  . obtain⟨m1, e1⟩ := I.base.tbls b ps e
    obtain⟨m2,e2⟩:=tbls b _ e1
    exact⟨m1++m2,by rw[e2,fA]⟩
  . obtain⟨m, hn, hl⟩ := I.loc
    refine⟨m,ns m hn,λi x v e1 e2 e3=>?_⟩
    obtain⟨u,r,l⟩:=hl i x v e1 e2 e3
    refine⟨u,r,?_⟩
    rcases l with l|⟨k,c,e,z⟩
    . exact .inl l
    . exact .inr ⟨k,c,e,cellK x c e _ z⟩
  . obtain⟨v, z⟩ := I.cell x c e
    exact⟨v,cellK x c e v z⟩
  . obtain⟨m, ⟨o, _, _, ho, _⟩, _⟩ := I.loc
    exact free _ o (λz=>(hch _ z).2.1 rfl) ho I.free
  . obtain⟨v, o, ho, hd⟩ := I.cell x c e
    exact free c o (λz=>(hch c z).2.2.1 x c e rfl) ho (I.freeC x c e)
  . obtain⟨e, n, ne, nf, d⟩ := I.pin p hp
    have nch:p.1∉ch:=λz=>(hch p.1 z).2.2.2 p hp rfl
    exact⟨keep p.1 p.2 ne nf nch e n,free p.1 p.2 nch e n,ne,nf,d⟩
theorem Inv.un (I:Inv X pins σ H s)(u:Un X.fs [] H H' s.heap h')(hok:HOk X.prog X.w H' h'):Inv X pins σ H' { s with heap:=h',toks:=t' }:=by
  obtain⟨m,⟨o,es,ep,ho,r⟩,_⟩:=id I.loc
  obtain⟨sl,hL⟩:=u.any ho I.free (by simp)
  exact I.step (g':=s.gens) (d':=s.drawn) (ch:=[]) (λ_ z=>nomatch z) (λb o _ hb _ e n=>u.keep b o e n hb (by simp)) (λb o _ hb _ e n=>u.slot b o e n hb (by simp)) (λb o _ e n=>u.free b o e n (by simp)) (λb o _ e=>u.there b o e (by simp)) u.tups u.frzs u.tbls (λm' hm=>by
    obtain⟨o',es',ep',ho',r'⟩:=hm
    rw[ho]at ho';cases ho'
    exact⟨_,es',ep',hL,r'⟩) hok I.bare
theorem Inv.call (I : Inv X pins σ H s)(u : Un (frs X.stack) ch H H' s.heap h')(hok : HOk X.prog X.w H' h')(hg : AllBare g')
    (hch:∀b∈ch,(b∈X.ex∨X.s₀.heap.objs.size<=b)/\b≠X.env.locals/\(∀x c,X.env.cells.lookup x=some c->c≠b)/\∀p∈X.pn++pins,p.1≠b) :
    Inv X pins σ H' { s with heap:=h',gens:=g',drawn:=d',toks:=t' }:=by
  obtain⟨m,⟨o,es,ep,ho,r⟩,_⟩:=id I.loc
  obtain⟨sl,hL⟩:=u.any ho I.free λz=>(hch _ z).2.1 rfl
  exact I.step (ch:=ch) hch (λb o hL hb hc e n=>u.keep b o e n (λz=>(aw.mp (I.stkSub b z)).elim hL hb) hc) (λb o _ _ hc e n=>u.any e n hc) (λb o hc e n=>u.free b o e n hc) (λb o hc e=>u.there b o e hc) u.tups u.frzs u.tbls (λm' hm=>by
    obtain⟨o',es',ep',ho',r'⟩:=hm
    rw[ho]at ho';cases ho'
    exact⟨_,es',ep',hL,r'⟩) hok hg
theorem Inv.turned (I : Inv X pins σ H s)(k : ∀b o, b ≠ it -> s.heap.get? b = some o -> h'.get? b = some o)(hn : H it = none)(hL : it ≠ X.env.locals)
    (h1:it∈X.ex∨X.s₀.heap.objs.size<=it) (h2:∀x c,X.env.cells.lookup x=some c->c≠it) (h3:∀p∈X.pn++pins,p.1≠it):Inv X pins σ H { s with heap:=h',toks:=t' }:=by
  have nit:∀b u,H b=some u->b≠it:=λb u e z=>by rw[z,hn]at e;cases e
  refine I.step (g' := s.gens) (d' := s.drawn) (ch := [it]) (λb hb => ?_) (λb o _ _ hc e _ => k b o (λz => hc (by simp[z])) e) (λb o _ _ hc e _ => ⟨o.slots, k b o (λz => hc (by simp[z])) e⟩) (λ_ _ _ _ n => n)
    (λb o hc e=>⟨o,k b o (λz=>hc (by simp[z])) e⟩) (λ_ _ e=>e) (λ_ _ _ e=>e) (λb ps e=>⟨#[],by rw[e];simp⟩) (λm hm=>?_) (λb u e=>?_) I.bare
  . have e : b = it := by simpa using hb
    subst e
    exact⟨h1,hL,h2,h3⟩
  . obtain⟨o, es, ep, ho, r⟩ := hm
    exact⟨o,es,ep,k _ o (Ne.symm hL) ho,r⟩
  . refine(I.hok b u e).stay (λc v hc q => k c v ?_ q) (λ_ q => q) λ_ _ q => q
    rcases hc with z|z
    . rw[z];exact nit b u e
    . exact nit c _ z
theorem Inv.tok (I:Inv X pins σ H s)(t:Nat):Inv X pins σ H { s with toks:=t }:=I.un (h':=s.heap) (t':=t) Un.refl I.hok
theorem Inv.kept (I:Inv X pins σ H s)(k:∀b u,s.heap.get? b=some u->h'.get? b=some u):Inv X pins σ H { s with heap:=h',toks:=t' }:=I.un (Un.kept k) (I.hok.kept k)
theorem Inv.laid {a : Addr}(I : Inv X pins σ H s)(k : ∀b u, s.heap.get? b = some u -> h'.get? b = some u)(hp : s.heap.objs.size <= a)(new : l7 X.prog X.w (upd H a o) h' a o) :
    Inv X pins σ (upd H a o) { s with heap:=h',toks:=t' }:=I.un (Un.laid k hp (I.hok.fresh hp)) (I.hok.laid k hp new)
theorem Inv.write (I : Inv X pins σ H s)(mu : Mut (H x))(he : e = x∨H e = some (.own x))(k : ∀b u, b ≠ e -> s.heap.get? b = some u -> h'.get? b = some u)(heo : ∃u, h'.get? e = some u)
    (new:l7 X.prog X.w (upd H x o) h' x o):Inv X pins σ (upd H x o) { s with heap:=h',toks:=t' }:=I.un (Un.write mu he k heo) (I.hok.write mu he k heo new)
theorem Inv.pins_of (I:Inv X pins σ H s)(h:∀p∈pins',s.heap.get? p.1=some p.2/\H p.1=none/\p.1≠X.env.locals/\p.1∉X.fs/\∀v,p.2.data≠.cell v):Inv X pins' σ H s :=
  ⟨I.ok,I.os,I.bare,I.base,I.loc,I.cell,I.free,I.freeC,λp hp=>(aF.mp hp).elim (λz=>I.pin p (aJ _ z)) (h p),I.hok,I.len⟩
theorem zp7 {N:List Str}(hN:N.Nodup){i j:Nat}(a:N[i]?=some x)(b:N[j]?=some x):i=j:=by
  obtain⟨h1,e1⟩:=al.mp a
  obtain⟨h2,e2⟩:=al.mp b
  exact(eJ hN).mp (e1.trans e2.symm)
theorem zi9 {E : Value -> fZ -> Prop}{Q : Unit -> fZ -> Prop}(I : Inv X pins σ H s)(hN : X.N.Nodup)(hi : X.N[i]? = some x)(hx : Loc X.env.scope x)(r : p9 v u)
    (h:∀s',Inv X pins (σ.set i (some v)) H s'->(∃a,Heap.SameBut a s.heap s'.heap/\(a=X.env.locals∨X.env.cells.lookup x=some a))->Q () s') (hf:X.fn x=true∨X.env.scope.names.lookup x=some .local:=by first|exact .inl rfl|exact .inr rfl|assumption):gh M A (storeName X.env x u) Q E s:=by
  obtain⟨m,hn,hl⟩:=id I.loc
  have hcls:(X.env.scope.kind == .class || (X.env.scope.kind == .module&&X.env.locals != X.env.globals))=false:=by rw[I.ok.kind];rfl
  have hiσ:i<σ.length:=by rw[I.len];exact(al.mp hi).1
  have cne:=I.cne
  have tracked:∀{a:Addr} {h':Heap},(∃o,s.heap.get? a=some o/\H a=none)->Heap.SameBut a s.heap h'->HOk X.prog X.w H h':=λ{a h'} ha hs b ob e=>by
    obtain⟨_,_,hfree⟩:=ha
    refine(I.hok b ob e).stay (λc w' hc q=>(hs.2 c ?_).trans q) (λ_ q=>q) λ_ _ q=>q
    rintro rfl
    rcases hc with rfl|hc
    . rw[hfree]at e;cases e
    . rw[hfree]at hc;cases hc
  rcases hx with hk|hk
  . refine wpAny_storeName_local hk hn (λh' hn' hs => ?_) hcls
    obtain⟨oL,_,_,hoL,_⟩:=id hn
    refine h _ ⟨I.ok,I.os,I.bare,⟨λb o e n hb hx=>?_,λb o e n hb hx=>?_,I.base.free,λb o e hx=>?_,I.base.tups,I.base.frzs,I.base.tbls⟩,⟨_,hn',λj y v' e1 e2 e3=>?_⟩,λy c e=>?_,I.free,I.freeC,λp hp=>?_,tracked ⟨oL,hoL,I.free⟩ hs,by simpa using I.len⟩ ⟨_,hs,.inl rfl⟩
    . exact(hs.2 b (aU (aR (az e) I.ok.above))).trans (I.base.keep b o e n hb hx)
    . obtain⟨sl, e1⟩ := I.base.slot b o e n hb hx
      exact⟨sl,(hs.2 b (aU (aR (az e) I.ok.above))).trans e1⟩
    . obtain⟨o', e1⟩ := I.base.there b o e hx
      exact⟨o',(hs.2 b (aU (aR (az e) I.ok.above))).trans e1⟩
    . by_cases hj : j = i
      . subst hj
        rw[hi]at e1;cases e1
        rw[cw hiσ]at e2
        cases e2
        exact⟨u,r,.inl ⟨hk,by simp⟩⟩
      . rw[bY (Ne.symm hj)]at e2
        obtain⟨u',r',q⟩:=hl j y v' e1 e2 e3
        refine⟨u',r',?_⟩
        rcases q with⟨k,e⟩|⟨k,c,e,z⟩
        . refine .inl ⟨k, ?_⟩
          have:y≠x:=λe=>hj (zp7 hN e1 (e ▸ hi))
          simp[this,e]
        . exact .inr ⟨k,c,e,z.sameBut hs (cne y c e)⟩
    . obtain⟨w', z⟩ := I.cell y c e
      exact⟨w',z.sameBut hs (cne y c e)⟩
    . obtain⟨e, n, ne, nf, d⟩ := I.pin p hp
      exact⟨(hs.2 p.1 ne).trans e,n,ne,nf,d⟩
  . have hfn:X.fn x=true:=by
      rcases hf with z|z
      . exact z
      . rw[z]at hk;cases hk
    obtain⟨c,hc⟩:=I.ok.has x (.inl hk)
    obtain⟨w',z⟩:=I.cell x c hc
    refine wpAny_storeName_cell I.ok.kind hk hc z (λh' hc' hs=>?_)
    obtain⟨oc,hoc,hocd⟩:=id z
    refine h { s with heap:=h' } ⟨I.ok,I.os,I.bare,⟨λb o e n hb hx=>?_,λb o e n hb hx=>?_,I.base.free,λb o e hx=>?_,I.base.tups,I.base.frzs,I.base.tbls⟩,⟨m,hn.sameBut hs (Ne.symm (cne x c hc)),λj y v' e1 e2 e3=>?_⟩,λy c' e=>?_,I.free,I.freeC,λp hp=>?_,tracked ⟨oc,hoc,I.freeC x c hc⟩ hs,by simpa using I.len⟩ ⟨c,hs,.inr hc⟩
    . exact(hs.2 b (aU (aR (az e) (I.ok.cab x c hfn hc)))).trans (I.base.keep b o e n hb hx)
    . obtain⟨sl, e1⟩ := I.base.slot b o e n hb hx
      exact⟨sl,(hs.2 b (aU (aR (az e) (I.ok.cab x c hfn hc)))).trans e1⟩
    . obtain⟨o', e1⟩ := I.base.there b o e hx
      exact⟨o',(hs.2 b (aU (aR (az e) (I.ok.cab x c hfn hc)))).trans e1⟩
    . by_cases hj : j = i
      . subst hj
        rw[hi]at e1;cases e1
        rw[cw hiσ]at e2
        cases e2
        exact⟨u,r,.inr ⟨.inl hk,c,hc,hc'⟩⟩
      . rw[bY (Ne.symm hj)]at e2
        obtain⟨u',r',q⟩:=hl j y v' e1 e2 e3
        refine⟨u',r',?_⟩
        rcases q with q|⟨k,c',e,z'⟩
        . exact .inl q
        . refine .inr ⟨k, c', e, z'.sameBut hs ?_⟩
          rintro rfl
          exact hj (zp7 hN e1 (I.ok.inj _ _ _ e hc ▸ hi))
    . by_cases hcc : c' = c
      . subst hcc;exact⟨_,hc'⟩
      . obtain⟨w2, z2⟩ := I.cell y c' e
        exact⟨w2,z2.sameBut hs hcc⟩
    . obtain⟨e, n, ne, nf, d⟩ := I.pin p hp
      refine⟨(hs.2 p.1 ?_).trans e,n,ne,nf,d⟩
      intro q
      rw[q,hoc]at e
      have q':oc=p.2:=Option.some.inj e
      exact d w' (by rw[←q'];exact hocd)
theorem zs7 {E : Value -> fZ -> Prop}{Q : Unit -> fZ -> Prop}(I : Inv X pins σ H s)(hN : X.N.Nodup)(hi : X.N[i]? = some x)(hx : Loc X.env.scope x)(r : p9 v u)
    (h:∀s',Inv X pins (σ.set i (some v)) H s'->Q () s') (hf:X.fn x=true∨X.env.scope.names.lookup x=some .local:=by first|exact .inl rfl|exact .inr rfl|assumption):gh M A (storeName X.env x u) Q E s :=
  zi9 I hN hi hx r (λs' I' _=>h s' I') hf
theorem Inv.call' {s' : fZ}(I : Inv X pins σ H s)(ho : s'.os = s.os)(u : Un (frs X.stack) ch H H' s.heap s'.heap)(hok : HOk X.prog X.w H' s'.heap)(hg : AllBare s'.gens)
    (hch:∀b∈ch,(b∈X.ex∨X.s₀.heap.objs.size<=b)/\b≠X.env.locals/\(∀x c,X.env.cells.lookup x=some c->c≠b)/\∀p∈X.pn++pins,p.1≠b):Inv X pins σ H' s':=by
  obtain⟨h',g',d',t',o'⟩:=s'
  have e:o'=s.os:=ho
  subst e
  exact I.call (g':=g') (t':=t') (d':=d') u hok hg hch
end
abbrev XK:=Value->Option Addr->Hp->Prop
abbrev St:=List (Option V)
abbrev VK:=V->Hp->Prop
abbrev TE:=St->Hp->VK->Prop
abbrev TT:=St->Hp->(Bool->Hp->Prop)->Prop
abbrev TA:=St->Hp->(List V->Hp->Prop)->Prop
structure zf9 where
  nx:St->Hp->Prop
  rt:VK
  bk:St->Hp->Prop:=λ_ _=>False
  ct:St->Hp->Prop:=λ_ _=>False
abbrev TS:=zf9->St->Hp->Prop
def EP (X:Cx)(pins:List (Addr×Obj))(σ:St)(Q:VK)(u:Value)(s':fZ):Prop:=∃v H',Inv X pins σ H' s'/\p9 v u/\Q v H'
def TP (X:Cx)(pins:List (Addr×Obj))(σ:St)(Q:Bool->Hp->Prop)(b:Bool)(s':fZ):Prop:=∃H',Inv X pins σ H' s'/\Q b H'
def AP (X:Cx)(pins:List (Addr×Obj))(σ:St)(Q:List V->Hp->Prop)(us:List Value)(s':fZ):Prop:=∃vs H',Inv X pins σ H' s'/\p7 vs us/\Q vs H'
def SP (X:Cx)(pins:List (Addr×Obj))(D:zf9)(f:Flow)(s':fZ):Prop :=
  match f with
  | .next=>∃σ' H',Inv X pins σ' H' s'/\D.nx σ' H'
  | .brk=>∃σ' H',Inv X pins σ' H' s'/\D.bk σ' H'
  | .cont=>∃σ' H',Inv X pins σ' H' s'/\D.ct σ' H'
  | .ret u=>∃v σ' H',Inv X pins σ' H' s'/\p9 v u/\D.rt v H'
def PE (X:Cx)(e:Expr)(t:TE):Prop :=
  ∀(pins:List (Addr×Obj)) (s:fZ) (σ:St) (H:Hp) (Q:VK),Inv X pins σ H s->t σ H Q->gh (gn X.prog X.w) X.A (eval e X.env) (EP X pins σ Q) X.xe s
def PT (X:Cx)(e:Expr)(t:TT):Prop :=
  ∀(pins:List (Addr×Obj)) (s:fZ) (σ:St) (H:Hp) (Q:Bool->Hp->Prop),Inv X pins σ H s->t σ H Q->gh (gn X.prog X.w) X.A (isTrue e X.env (eval e X.env)) (TP X pins σ Q) X.xe s
def PW (X:Cx)(e:Expr)(t:TT):Prop :=
  ∀(whole:Sem Value) (pins:List (Addr×Obj)) (s:fZ) (σ:St) (H:Hp) (Q:Bool->Hp->Prop),Inv X pins σ H s->t σ H Q->gh (gn X.prog X.w) X.A (isTrue e X.env whole) (TP X pins σ Q) X.xe s
theorem PW.pt (h:PW X e t):PT X e t:=h _
def PA (X:Cx)(es:List Expr)(t:TA):Prop :=
  ∀(pos:Pos) (pins:List (Addr×Obj)) (s:fZ) (σ:St) (H:Hp) (Q:List V->Hp->Prop),Inv X pins σ H s->t σ H Q->gh (gn X.prog X.w) X.A (spliced (backTo pos (gl es X.env))) (AP X pins σ Q) X.xe s
def PS (X:Cx)(st:Stmt)(t:TS):Prop :=
  ∀(pins:List (Addr×Obj)) (s:fZ) (σ:St) (H:Hp) (D:zf9),Inv X pins σ H s->t D σ H->gh (gn X.prog X.w) X.A (exec st X.env) (SP X pins D) X.xe s
def PSs (X:Cx)(st:List Stmt)(t:TS):Prop :=
  ∀(pins:List (Addr×Obj)) (s:fZ) (σ:St) (H:Hp) (D:zf9),Inv X pins σ H s->t D σ H->gh (gn X.prog X.w) X.A (execs st X.env) (SP X pins D) X.xe s
theorem thn {α:Type}{t:Sem α}{Q Q':α->fZ->Prop}{E:Value->fZ->Prop}(h:gh M A t Q E s)(hQ:∀a s,Q a s->Q' a s):gh M A t Q' E s:=gw h hQ λ_ _ x=>x
section
variable {X:Cx}
def xw4 (i:Nat):TE:=λσ H Q=>∃v,σ[i]?=some (some v)/\Q v H
def tC (v:V):TE:=λ_ H Q=>Q v H
theorem xr8 {pos:Pos}(hN:X.N[i]?=some x)(hv:Vis X.env.scope x)(hd:(x==("__debug__":Str))=false:=by decide)(hcd:(x==("__classdict__":Str))=false:=by decide):PE X (.Name x pos) (xw4 i):=by
  intro pins s σ H Q I h
  obtain⟨v,e,h⟩:=h
  obtain⟨m,hn,hl⟩:=I.loc
  obtain⟨u,r,l⟩:=hl i x v hN e hv
  have fin:EP X pins σ Q u s:=⟨v,H,I,r,h⟩
  rcases l with⟨hk,hm⟩|⟨hk,c,hc,hcell⟩
  . exact wpAny_Name (wpAny_loadName_local I.ok.kind hk hn hm fin) hd
  . rcases hk with hk|hk
    . exact wpAny_Name (wpAny_loadName_cell I.ok.kind hk hc hcell fin) hd
    . exact wpAny_Name (wpAny_loadName_free I.ok.kind hk hc hcell fin hcd) hd
theorem w8 {i j pos}:PE X (.Constant (.int i) j pos) (tC (.int i)):=λ_ _ _ H _ I h=>wpAny_Constant_int ⟨.int i,H,I.tok _,⟨_,rfl⟩,h⟩
theorem W4 {b j pos}:PE X (.Constant (.bool b) j pos) (tC (.bl b)):=λ_ _ _ H _ I h=>Constant_bool ⟨.bl b,H,I,rfl,h⟩
theorem ym3 {j pos}:PE X (.Constant .none j pos) (tC .non):=λ_ _ _ H _ I h=>Constant_none ⟨.non,H,I,rfl,h⟩
theorem zb3 {x j pos}:PE X (.Constant (.str x) j pos) (tC (.str x)):=λ_ _ _ H _ I h=>Calls.Constant_str ⟨.str x,H,I.tok _,⟨_,rfl⟩,h⟩
def Gl (X:Cx)(x:Str):Prop:=X.env.kindOf x=some .globalImplicit
theorem K9 {E : Value -> fZ -> Prop}{σ : St}{u : Value}{pos : Pos}{Q : Value -> fZ -> Prop}(I : Inv X pins σ H s)(hg : Gl X x)(hm : X.mg x = some u)(h : Q u s)
    (hd:(x==("__debug__":Str))=false:=by decide):gh (gn X.prog X.w) X.A (eval (.Name x pos) X.env) Q E s :=
  Calls.Name_function_global I.ok.kind hg (Calls.loadGlobal_global (by rw[I.ok.glob];exact I.mod.glob.keeps I.bk) hm h) hd
theorem zh3 {E : Value -> fZ -> Prop}{σ : St}{u : Value}{pos : Pos}{Q : Value -> fZ -> Prop}(I : Inv X pins σ H s)(hg : Gl X x)(hm : X.mg x = none)(hv : gz x = some u)(h : Q u s)
    (hn:x≠"__name__":=by decide) (hd:(x==("__debug__":Str))=false:=by decide):gh (gn X.prog X.w) X.A (eval (.Name x pos) X.env) Q E s:=by
  obtain⟨mb,h1,h2⟩:=I.mod.blt
  exact Calls.Name_function_global I.ok.kind hg (Calls.loadGlobal_builtin (by rw[I.ok.glob];exact I.mod.glob.keeps I.bk) hm (by rw[I.ok.blt];exact h1.keeps I.bk) ((h2 x hn).trans hv) h) hd
theorem ya1 (hg:Gl X x)(hm:X.mg x=some u)(r:p9 v u)(hd:(x==("__debug__":Str))=false:=by decide):PE X (.Name x pos) (tC v) :=
  λ_ _ _ H _ I h=>K9 I hg hm ⟨v,H,I,r,h⟩ hd
theorem N8 {pos:Pos}(hg:Gl X x)(hm:X.mg x=none)(hv:gz x=some u)(r:p9 v u)(hn:x≠"__name__":=by decide)(hd:(x==("__debug__":Str))=false:=by decide):PE X (.Name x pos) (tC v) :=
  λ_ _ _ H _ I h=>zh3 I hg hm hv ⟨v,H,I,r,h⟩ hn hd
variable {a b:Expr}{ta tb:TE}{pos:Pos}
def PC (X:Cx)(op:CmpOp)(a b:Expr)(t:TE):Prop :=
  ∀(pins:List (Addr×Obj)) (s:fZ) (σ:St) (H:Hp) (Q:VK),Inv X pins σ H s->t σ H Q ->
    gh (gn X.prog X.w) X.A (eval a X.env) (λv s₁=>gh (gn X.prog X.w) X.A (eval b X.env) (λu s₂=>gh (gn X.prog X.w) X.A (compareOp op v u) (EP X pins σ Q) X.xe s₂) X.xe s₁) X.xe s
theorem xc7 (b:Expr)(h:op≠.In)(h2:op≠.NotIn):behindInMarks op b=false:=by
  have e1:(op==CmpOp.In)=false:=by cases op <;> first|rfl|exact absurd rfl h
  have e2:(op==CmpOp.NotIn)=false:=by cases op <;> first|rfl|exact absurd rfl h2
  cases b <;> simp[behindInMarks,e1,e2]
def xy9 (ta:TE):TE:=λσ H Q=>ta σ H λx H1=>Q (.bl (decide (x=.non))) H1
theorem p9.none_iff (r:p9 x v):(v==Value.none)=decide (x=.non):=by
  cases x with
  | non=>cases r;rfl
  | bl _=>cases r;rfl
  | int _=>obtain⟨t,rfl⟩:=r;rfl
  | str _=>obtain⟨t,rfl⟩:=r;rfl
  | byt _=>obtain⟨t,rfl⟩:=r;rfl
  | flt _=>obtain⟨t,rfl⟩:=r;rfl
  | ref _=>cases r;rfl
  | ty _=>cases r;rfl
theorem xr5 {j pos'}(ha:PE X a ta):PC X .Is a (.Constant .none j pos') (xy9 ta):=by
  intro pins s σ H Q I h
  refine thn (ha pins s σ H _ I h) λv s1 ⟨x,H1,I1,r1,q1⟩=>?_
  exact Constant_none (is_none_gen ⟨.bl _,H1,I1,by rw[r1.none_iff];rfl,q1⟩)
def tB (t:TE):TT:=λσ H Q=>t σ H λx H1=>∃c,x=.bl c/\Q c H1
theorem zh8 (h:PC X op a b t)(h1:behindInMarks op b=false:=by first|exact xc7 _ (by decide) (by decide)|rfl):PT X (.Compare a [op] [b] pos) (tB t):=by
  intro pins s σ H Q I hw
  refine wpAny_isTrue_Compare1 (thn (h pins s σ H _ I hw) λv s1 h1=>thn h1 λu s2 h2=>thn h2 λc s3 ⟨x,H1,I1,r1,q1⟩=>?_) h1
  obtain⟨d,rfl,q⟩:=q1
  cases r1
  exact wpAny_truthy_bool ⟨H1,I1,q⟩
theorem W7 {e:Expr}(h:PE X e t)(he:∀whole,isTrue e X.env whole=(do let v ←whole;standAt e.pos;holding [v] (truthy v)):=by intro _;rfl):PT X e (tB t):=by
  intro pins s σ H Q I hw
  refine isTrue_plain (thn (h pins s σ H _ I hw) λv s1 ⟨x,H1,I1,r1,q1⟩=>?_) (he _)
  obtain⟨d,rfl,q⟩:=q1
  cases r1
  exact wpAny_truthy_bool ⟨H1,I1,q⟩
variable {tA tB':TT}{P8:List Expr}
def xy3 (t u:TT):TT:=λσ H Q=>t σ H λc H1=>if c=true then u σ H1 Q else Q false H1
def tOr (t u:TT):TT:=λσ H Q=>t σ H λc H1=>if c=true then Q true H1 else u σ H1 Q
def xz1 (t:TT):TT:=λσ H Q=>t σ H λc H1=>Q (!c) H1
theorem yq8 (ha:PT X a tA):PW X (.BoolOp .And [a] pos) tA:=by
  intro wh pins s σ H Q I h
  refine isTrue_and (thn (ha pins s σ H Q I h) λc s1 e=>?_)
  cases c with
  | true=>exact isTrue_and_nil e
  | false=>exact e
theorem zr2 (ha:PT X a tA):PW X (.BoolOp .Or [a] pos) tA:=by
  intro wh pins s σ H Q I h
  refine isTrue_or (thn (ha pins s σ H Q I h) λc s1 e=>?_)
  cases c with
  | false=>exact isTrue_or_nil e
  | true=>exact e
theorem ym5 (ha:PT X a tA)(hb:PW X (.BoolOp .And (b::P8) pos) tB'):PW X (.BoolOp .And (a::b::P8) pos) (xy3 tA tB'):=by
  intro wh pins s σ H Q I h
  refine isTrue_and (thn (ha pins s σ H _ I h) λc s1 ⟨H1,I1,q1⟩=>?_)
  cases c with
  | true=>exact hb wh pins s1 σ H1 Q I1 q1
  | false=>exact⟨H1,I1,q1⟩
theorem yg6 (ha:PT X a tA)(hb:PW X (.BoolOp .Or (b::P8) pos) tB'):PW X (.BoolOp .Or (a::b::P8) pos) (tOr tA tB'):=by
  intro wh pins s σ H Q I h
  refine isTrue_or (thn (ha pins s σ H _ I h) λc s1 ⟨H1,I1,q1⟩=>?_)
  cases c with
  | true=>exact⟨H1,I1,q1⟩
  | false=>exact hb wh pins s1 σ H1 Q I1 q1
theorem U2 (ha:PT X a tA):PT X (.UnaryOp .Not a pos) (xz1 tA):=by
  intro pins s σ H Q I h
  exact isTrue_not (ha pins s σ H (λc H1=>Q (!c) H1) I h)
def xv5 (ta tb:TE):TE:=λσ H Q=>ta σ H λx H1=>∃c,x=.bl c/\if c=true then tb σ H1 Q else Q (.bl false) H1
def xw1 (ta:TE):TE:=λσ H Q=>ta σ H λx H1=>∃c,x=.bl c/\Q (.bl (!c)) H1
theorem zq5 {op}(h:PE X a t):PE X (.BoolOp op [a] pos) t:=λpins s σ H Q I hw=>BoolOp_one (h pins s σ H Q I hw)
theorem zq3 (ha:PE X a ta)(hb:PE X (.BoolOp .And (b::P8) pos) tb):PE X (.BoolOp .And (a::b::P8) pos) (xv5 ta tb):=by
  intro pins s σ H Q I h
  refine BoolOp_and (thn (ha pins s σ H _ I h) λv s1 ⟨x,H1,I1,r1,q1⟩=>?_)
  obtain⟨c,rfl,q1⟩:=q1
  cases r1
  refine wpAny_truthy_bool ?_
  cases c with
  | true=>exact hb pins s1 σ H1 Q I1 q1
  | false=>exact⟨.bl false,H1,I1,rfl,q1⟩
theorem xd7 (ha:PE X a ta):PE X (.UnaryOp .Not a pos) (xw1 ta):=by
  intro pins s σ H Q I h
  refine UnaryOp_ (thn (ha pins s σ H _ I h) λv s1 ⟨x,H1,I1,r1,q1⟩=>?_)
  obtain⟨c,rfl,q1⟩:=q1
  cases r1
  exact not_of (wpAny_truthy_bool ⟨.bl (!c),H1,I1,rfl,q1⟩)
def tIf (t:TT)(ta tb:TE):TE:=λσ H Q=>t σ H λc H1=>if c=true then ta σ H1 Q else tb σ H1 Q
theorem xd4 (hc:PT X c tA)(ha:PE X a ta)(hb:PE X b tb):PE X (.IfExp c a b pos) (tIf tA ta tb):=by
  intro pins s σ H Q I h
  refine wpAny_IfExp (thn (hc pins s σ H _ I h) λd s1 ⟨H1,I1,q1⟩=>?_)
  cases d with
  | true=>exact ha pins s1 σ H1 Q I1 q1
  | false=>exact hb pins s1 σ H1 Q I1 q1
end
def SqL (K:W.Frag)(H:Hp)(a:Addr)(xs:List V):Prop :=
  Rd H a (.lst xs) ∨
    ∃(o:Obj) (its:Array Value) (n:Nat),K.lookup a=some o/\o.cls=.type "list"/\o.dict=none/\o.data=.seq its n/\its.size<=ge/\p7 xs its.toList
def SqT (K:W.Frag)(H:Hp)(a:Addr)(xs:List V):Prop :=
  Rd H a (.tup xs) ∨
    ∃(o:Obj) (its:Array Value) (n:Nat),K.lookup a=some o/\o.cls=.type "tuple"/\o.data=.seq its n/\its.size<=ge/\p7 xs its.toList
def xw9 : Value -> Option V
  | .none=>some .non
  | .bool b=>some (.bl b)
  | .int i _=>some (.int i)
  | .str x _=>some (.str x)
  | .bytes b _=>some (.byt b)
  | .float b _=>some (.flt b)
  | .ref a=>some (.ref a)
  | .type n=>some (.ty n)
  | _=>none
theorem p9.abs (r:p9 x u):xw9 u=some x:=by
  cases x with
  | non=>cases r;rfl
  | bl _=>cases r;rfl
  | int _=>obtain⟨t,rfl⟩:=r;rfl
  | str _=>obtain⟨t,rfl⟩:=r;rfl
  | byt _=>obtain⟨t,rfl⟩:=r;rfl
  | flt _=>obtain⟨t,rfl⟩:=r;rfl
  | ref _=>cases r;rfl
  | ty _=>cases r;rfl
theorem p9.inj (r:p9 x u)(q:p9 y u):x=y:=Option.some.inj (r.abs.symm.trans q.abs)
theorem p7.inj : ∀{xs ys : List V} {us : List Value}, p7 xs us -> p7 ys us -> xs = ys
  | _,_,_,.nil,.nil=>rfl
  | _,_,_,.cons r t,.cons r' t'=>by rw[r.inj r',p7.inj t t']
section
variable {X:Cx}{pins:List (Addr×Obj)}{σ:St}{H:Hp}{s:fZ}{a:Addr}{xs ys:List V}
theorem SqL.of {K:W.Frag}(h:H a=some (.lst xs)):SqL K H a xs:=.inl (.inl h)
theorem SqT.of {K:W.Frag}(h:H a=some (.tup xs)):SqT K H a xs:=.inl (.inl h)
theorem Inv.list (I:Inv X pins σ H s)(h:SqL X.K H a xs):∃its:List Value,p7 xs its/\PlainL s.heap a its.toArray/\xs.length<=ge:=by
  rcases h with h|⟨o,its,n,hk,hc,hd,hs,hz,r⟩
  . obtain⟨z, its, n, r, e⟩ := h.ok I.hok
    exact⟨its,r,⟨_,n,e,rfl,rfl,rfl⟩,z⟩
  . refine⟨its.toList, r, ⟨o, n, I.kIn a o hk, hc, hd, by simpa using hs⟩, ?_⟩
    have e:=r.length
    simp only[aK]at e
    lia
theorem Inv.tuple (I:Inv X pins σ H s)(h:SqT X.K H a xs):∃its:List Value,p7 xs its/\IsTup s.heap a its.toArray/\xs.length<=ge:=by
  rcases h with h|⟨o,its,n,hk,hc,hs,hz,r⟩
  . obtain⟨z, its, r, p⟩ := h.ok I.hok
    exact⟨its,r,p.is,z⟩
  . refine⟨its.toList, r, ⟨o, I.kIn a o hk, hc, n, by simpa using hs⟩, ?_⟩
    have e:=r.length
    simp only[aK]at e
    lia
theorem Inv.list_inj (I:Inv X pins σ H s)(h:SqL X.K H a xs)(h':SqL X.K H a ys):xs=ys:=by
  obtain⟨its,r,⟨o,n,e,_,_,d⟩,_⟩:=I.list h
  obtain⟨its',r',⟨o',n',e',_,_,d'⟩,_⟩:=I.list h'
  rw[e]at e';cases e'
  rw[d]at d'
  injection d' with d1 _
  have:its=its':=by simpa using congrArg Array.toList d1
  subst this
  exact r.inj r'
theorem Inv.tuple_inj (I:Inv X pins σ H s)(h:SqT X.K H a xs)(h':SqT X.K H a ys):xs=ys:=by
  obtain⟨its,r,⟨o,e,_,n,d⟩,_⟩:=I.tuple h
  obtain⟨its',r',⟨o',e',_,n',d'⟩,_⟩:=I.tuple h'
  rw[e]at e';cases e'
  rw[d]at d'
  injection d' with d1 _
  have:its=its':=by simpa using congrArg Array.toList d1
  subst this
  exact r.inj r'
end
abbrev Cx.wish (X:Cx) (E:Value->fZ->Prop):Cx:={ X with xe:=E }
abbrev Cx.nox (X:Cx):Cx:=X.wish λ_ _=>False
theorem Cx.Ok.wish {X:Cx}(ok:X.Ok)(E:Value->fZ->Prop):(X.wish E).Ok :=
  ⟨ok.mod,ok.kind,ok.glob,ok.blt,ok.above,ok.inj,ok.has,ok.cab,ok.hd,ok.frames,ok.stk,ok.exf,ok.bs,ok.bsz,ok.noex,ok.exfs,ok.funs,ok.frf⟩
theorem Cx.Ok.unwish {X:Cx}{E:Value->fZ->Prop}(ok:(X.wish E).Ok):X.Ok :=
  ⟨ok.mod,ok.kind,ok.glob,ok.blt,ok.above,ok.inj,ok.has,ok.cab,ok.hd,ok.frames,ok.stk,ok.exf,ok.bs,ok.bsz,ok.noex,ok.exfs,ok.funs,ok.frf⟩
section
variable {X:Cx}{pins:List (Addr×Obj)}{σ:St}{H:Hp}{s:fZ}{E:Value->fZ->Prop}
theorem Inv.wish (I:Inv X pins σ H s)(E:Value->fZ->Prop):Inv (X.wish E) pins σ H s:=⟨I.ok.wish E,I.os,I.bare,I.base,I.loc,I.cell,I.free,I.freeC,I.pin,I.hok,I.len⟩
theorem Inv.unwish (I:Inv (X.wish E) pins σ H s):Inv X pins σ H s:=⟨I.ok.unwish,I.os,I.bare,I.base,I.loc,I.cell,I.free,I.freeC,I.pin,I.hok,I.len⟩
theorem SP.unwish (h:SP (X.wish E) pins D f s'):SP X pins D f s':=by
  cases f with
  | next=>obtain⟨σ',H',I,q⟩:=h;exact⟨σ',H',I.unwish,q⟩
  | brk=>obtain⟨σ',H',I,q⟩:=h;exact⟨σ',H',I.unwish,q⟩
  | cont=>obtain⟨σ',H',I,q⟩:=h;exact⟨σ',H',I.unwish,q⟩
  | ret u=>obtain⟨v,σ',H',I,r,q⟩:=h;exact⟨v,σ',H',I.unwish,r,q⟩
theorem PSs.nox {st:List Stmt}(h:PSs X.nox st t):PSs X st t:=λpins s σ H D I hw =>
  gw (h pins s σ H D (I.wish _) hw) (λ_ _ q=>q.unwish) λ_ _ z=>False.elim z
end
section
variable {X:Cx}{st:Stmt}{P8:List Stmt}{t u:TS}{e:Expr}{te:TE}{pos:Pos}
def xw0:TS:=λD σ H=>D.nx σ H
def xt0 (t u:TS):TS:=λD σ H=>t { D with nx:=u D } σ H
theorem r6:PSs X [] xw0:=λ_ _ σ H _ I h=>wpAny_execs_nil ⟨σ,H,I,h⟩
theorem y4 (h1:PS X st t)(h2:PSs X P8 u):PSs X (st::P8) (xt0 t u):=by
  intro pins s σ H D I h
  refine wpAny_execs_cons (thn (h1 pins s σ H { D with nx:=u D } I h) λf s1 q=>?_)
  cases f with
  | next =>
    obtain⟨σ',H',I',q⟩:=q
    exact h2 pins s1 σ' H' D I' q
  | ret v=>exact q
  | brk=>exact q
  | cont=>exact q
theorem z7 (h1:PS X st t):PSs X [st] t:=by
  intro pins s σ H D I h
  refine wpAny_execs_cons (thn (h1 pins s σ H D I h) λf s1 q=>?_)
  cases f with
  | next=>exact wpAny_execs_nil q
  | ret v=>exact q
  | brk=>exact q
  | cont=>exact q
theorem Inv.quiet {σ:St}(I:Inv X pins σ H s):interactive X.env=false:=by simp[interactive,I.ok.kind]
def xv9 (te:TE):TS:=λD σ H=>te σ H λ_ H1=>D.nx σ H1
theorem i6 (he:PE X e te)(hs:swapsWith e none pos.line X.env=pure false:=by rfl):PS X (.Expr e pos) (xv9 te):=by
  intro pins s σ H D I h
  exact wpAny_Expr_any (thn (he pins s σ H _ I h) λv s1 ⟨x,H1,I1,r1,q1⟩=>⟨σ,H1,I1,q1⟩) I.quiet hs
def xz2 (te:TE):TS:=λD σ H=>te σ H D.rt
theorem v1 (he:PE X e te):PS X (.Return (some e) pos) (xz2 te):=by
  intro pins s σ H D I h
  exact wpAny_Return_some (thn (he pins s σ H _ I h) λv s1 ⟨x,H1,I1,r1,q1⟩=>⟨x,σ,H1,I1,r1,q1⟩)
def xy8 (c:TT)(t u:TS):TS:=λD σ H=>c σ H λb H1=>if b=true then t D σ H1 else u D σ H1
theorem i7 (hc:PT X c tc)(ha:PSs X a t)(hb:PSs X b u):PS X (.If c a b pos) (xy8 tc t u):=by
  intro pins s σ H D I h
  refine wpAny_If (thn (hc pins s σ H _ I h) λd s1 ⟨H1,I1,q1⟩=>?_)
  cases d with
  | true=>exact ha pins s1 σ H1 D I1 q1
  | false=>exact hb pins s1 σ H1 D I1 q1
def xs8:TS:=λ_ _ _=>False
theorem C4:PS X st xs8:=λ_ _ _ _ _ _ h=>h.elim
end
abbrev TG:=V->St->Hp->(St->Hp->Prop)->Prop
abbrev TGs:=List V->St->Hp->(St->Hp->Prop)->Prop
def PG (X:Cx)(target:Expr)(t:TG):Prop :=
  ∀(pins:List (Addr×Obj)) (s:fZ) (σ:St) (H:Hp) (v:V) (u:Value) (Q:St->Hp->Prop),Inv X pins σ H s->p9 v u->t v σ H Q ->
    gh (gn X.prog X.w) X.A (assign target X.env u) (λ_ s'=>∃σ' H',Inv X pins σ' H' s'/\Q σ' H') X.xe s
def PGs (X:Cx)(ts:List Expr)(t:TGs):Prop :=
  ∀(pins:List (Addr×Obj)) (s:fZ) (σ:St) (H:Hp) (vs:List V) (us:List Value) (Q:St->Hp->Prop),Inv X pins σ H s->p7 vs us->t vs σ H Q ->
    gh (gn X.prog X.w) X.A (assignInOrder ((assignEach ts X.env).map (·.2)) us) (λ_ s'=>∃σ' H',Inv X pins σ' H' s'/\Q σ' H') X.xe s
abbrev xo7:=V->V->V->Hp->(Hp->Prop)->Prop
def xt6 (X:Cx)(t:xo7):Prop :=
  ∀(pins:List (Addr×Obj)) (s:fZ) (σ:St) (H:Hp) (o i v:V) (ov iv u:Value) (Q:Hp->Prop),Inv X pins σ H s->p9 o ov->p9 i iv->p9 v u->t o i v H Q ->
    gh (gn X.prog X.w) X.A (setItem ov iv u) (λ_ s'=>∃H',Inv X pins σ H' s'/\Q H') X.xe s
abbrev TIp:=V->V->Hp->VK->Prop
def PIp (X:Cx)(op:Operator)(t:TIp):Prop :=
  ∀(pins:List (Addr×Obj)) (s:fZ) (σ:St) (H:Hp) (x y:V) (v u:Value) (Q:VK),Inv X pins σ H s->p9 x v->p9 y u->t x y H Q ->
    gh (gn X.prog X.w) X.A (inplaceOp op v u) (EP X pins σ Q) X.xe s
section
variable {X:Cx}{pos:Pos}
def Q8 (i:Nat):TG:=λv σ H Q=>Q (σ.set i (some v)) H
theorem o5 (hN:X.N.Nodup)(hi:X.N[i]?=some x)(hx:Loc X.env.scope x)(hf:X.fn x=true∨X.env.scope.names.lookup x=some .local:=by first|exact .inl rfl|exact .inr rfl|assumption):PG X (.Name x pos) (Q8 i):=by
  intro pins s σ H v u Q I r h
  exact wpAny_assign_Name (zs7 I hN hi hx r (λs' I'=>⟨_,H,I',h⟩) hf)
def xx1:TGs:=λvs σ H Q=>vs=[]/\Q σ H
def xt9 (t:TG)(u:TGs):TGs:=λvs σ H Q=>∃v r,vs=v::r/\t v σ H λσ' H'=>u r σ' H' Q
theorem J1:PGs X [] xx1:=by
  intro pins s σ H vs us Q I r h
  obtain⟨e,h⟩:=h
  subst e
  cases r
  exact assignInOrder_nil ⟨σ,H,I,h⟩
theorem Z0 (h1 : PG X e t)(h2 : PGs X es u)
    (hs:(assignEach (e::es) X.env).map (·.2)=assign e X.env::(assignEach es X.env).map (·.2):=by rfl):PGs X (e::es) (xt9 t u):=by
  intro pins s σ H vs us Q I r h
  obtain⟨v,vr,e1,h⟩:=h
  subst e1
  cases r with
  | cons r rr =>
    rw[hs]
    refine assignInOrder_cons (thn (h1 pins s σ H _ _ _ I r h) λ_ s1 ⟨σ1,H1,I1,q1⟩=>?_)
    exact h2 pins s1 σ1 H1 _ _ Q I1 rr q1
def xx3 (K:W.Frag)(n:Nat)(t:TGs):TG:=λv σ H Q=>∃a xs,v=.ref a/\SqT K H a xs/\xs.length=n/\t xs σ H Q
theorem zb4 {k : Nat}(hc : X.calm = true)(h : PGs X es t)
    (hn:(assignEach es X.env).length=n:=by rfl) (hst:(assignEach es X.env).findIdx? (·.1)=none:=by rfl):PG X (.Tuple es k pos) (xx3 X.K n t):=by
  intro pins s σ H v u Q I r hw
  obtain⟨a,xs,e1,hq,hl,hw⟩:=hw
  subst e1
  cases r
  obtain⟨its,rv,ht,hz⟩:=I.tuple hq
  refine assign_Tuple_tuple (I.ok.hd hc) ht (by simp[hn,←hl,rv.length]) hst λh' hx=>?_
  have I1:Inv X pins σ H { s with heap:=h' }:=I.kept (t':=s.toks) λb o e=>hx b o (aU (az e)) e
  exact h pins _ σ H xs _ Q I1 (by simpa using rv) hw
def xx2 (to ti:TE)(t:xo7):TG:=λv σ H Q=>to σ H λo H1=>ti σ H1 λi H2=>t o i v H2 λH3=>Q σ H3
theorem zq7 (ho : PE X o to)(hi : PE X i ti)(hs : xt6 X t)
    (ha : ∀v, assign (.Subscript o i pos) X.env v = (do
      let ov ←holding [v] (eval o X.env)
      let iv ←holding [v,ov] (eval i X.env)
      standAt pos
      holding [v,ov,iv] (setItem ov iv v)
      release [v,ov,iv] []):=by intro _;rfl):PG X (.Subscript o i pos) (xx2 to ti t):=by
  intro pins s σ H v u Q I r h
  rw[ha]
  refine fY (gv (thn (ho pins s σ H _ I h) λov s1 ⟨x,H1,I1,r1,q1⟩=>?_))
  refine fY (gv (thn (hi pins s1 σ H1 _ I1 q1) λiv s2 ⟨y,H2,I2,r2,q2⟩=>?_))
  refine fY (wpAny_standAt (fY (gv (thn (hs pins s2 σ H2 x y v ov iv u _ I2 r1 r2 r q2) λ_ s3 ⟨H3,I3,q3⟩=>?_))))
  exact wpAny_release ⟨σ,H3,I3,q3⟩
def xm6 (te:TE)(g:TG):TS:=λD σ H=>te σ H λx H1=>g x σ H1 D.nx
theorem zh7 (he : PE X e te)(hg : PG X tg g)(hs : swapsWithSole [tg] e pos.line X.env = pure false := by rfl)(hw : swappedStores [tg] e X.env = pure none := by rfl)
    (h1:(assignEach [tg] X.env).map (·.2)=[assign tg X.env]:=by rfl):PS X (.Assign [tg] e pos) (xm6 te g):=by
  intro pins s σ H D I h
  refine wpAny_Assign_stores (thn (he pins s σ H _ I h) λv s1 ⟨x,H1,I1,r1,q1⟩=>?_) hs hw
  rw[h1]
  exact thn (hg pins s1 σ H1 x v _ I1 r1 q1) λ_ s2 q=>q
theorem u4 (hN : X.N.Nodup)(hi : X.N[i]? = some x)(hx : Loc X.env.scope x)(he : PE X e te)(hs : swapsWith e (some (.Name x pos')) pos.line X.env = pure false := by rfl)(hf : X.fn x = true∨X.env.scope.names.lookup x = some .local := by first|exact .inl rfl|exact .inr rfl|assumption) :
    PS X (.Assign [.Name x pos'] e pos) (xm6 te (Q8 i)):=by
  intro pins s σ H D I h
  refine wpAny_Assign_Name (thn (he pins s σ H _ I h) λv s1 ⟨y,H1,I1,r1,q1⟩=>?_) hs
  exact zs7 I1 hN hi hx r1 (λs2 I2=>⟨_,H1,I2,q1⟩) hf
def xy4 (i:Nat)(te:TE)(ti:TIp):TS:=λD σ H=>∃x,σ[i]?=some (some x)/\te σ H λy H1=>ti x y H1 λz H2=>D.nx (σ.set i (some z)) H2
theorem xd8 (hN : X.N.Nodup)(hi : X.N[i]? = some x)(hx : Loc X.env.scope x)(he : PE X e te)(ho : PIp X op ti)(hf : X.fn x = true∨X.env.scope.names.lookup x = some .local := by first|exact .inl rfl|exact .inr rfl|assumption) :
    PS X (.AugAssign (.Name x pos') op e pos) (xy4 i te ti):=by
  intro pins s σ H D I h
  obtain⟨v,e1,h⟩:=h
  obtain⟨m,hn,hl⟩:=I.loc
  have vis:Vis X.env.scope x:=by rcases hx with k|k;exact .inl k;exact .inr (.inl k)
  obtain⟨u,r,l⟩:=hl i x v hi e1 vis
  refine wpAny_AugAssign_Name ?_
  have go:gh (gn X.prog X.w) X.A (eval e X.env) (λw s₂=>gh (gn X.prog X.w) X.A (inplaceOp op u w) (λr s₃=>gh (gn X.prog X.w) X.A (storeName X.env x r) (λ_=>SP X pins D .next) X.xe s₃) X.xe s₂) X.xe s:=by
    refine thn (he pins s σ H _ I h) λw s1 ⟨y,H1,I1,r1,q1⟩=>?_
    refine thn (ho pins s1 σ H1 v y u w _ I1 r r1 q1) λz s2 ⟨zv,H2,I2,r2,q2⟩=>?_
    exact zs7 I2 hN hi hx r2 (λs3 I3=>⟨_,H2,I3,q2⟩) hf
  rcases l with⟨hk,hm⟩|⟨hk,c,hc,hcell⟩
  . exact wpAny_loadName_local I.ok.kind hk hn hm go
  . rcases hk with hk|hk
    . exact wpAny_loadName_cell I.ok.kind hk hc hcell go
    . rcases hx with k|k
      . have : X.env.scope.names.lookup x = some .free := hk
        rw[k]at this;cases this
      . have : X.env.scope.names.lookup x = some .free := hk
        rw[k]at this;cases this
def ipI (f:Int->Int->Int):TIp:=λx y H Q=>∃i j,x=.int i/\y=.int j/\Q (.int (f i j)) H
theorem xp6:PIp X .Add (ipI λi j=>i+j):=by
  intro pins s σ H x y v u Q I r1 r2 h
  obtain⟨i,j,e1,e2,q⟩:=h
  subst e1;subst e2
  obtain⟨t,rfl⟩:=r1
  obtain⟨t',rfl⟩:=r2
  exact iadd_int ⟨.int _,H,I.tok _,⟨_,rfl⟩,q⟩
theorem xp7:PIp X .Sub (ipI λi j=>i-j):=by
  intro pins s σ H x y v u Q I r1 r2 h
  obtain⟨i,j,e1,e2,q⟩:=h
  subst e1;subst e2
  obtain⟨t,rfl⟩:=r1
  obtain⟨t',rfl⟩:=r2
  exact isub_int ⟨.int _,H,I.tok _,⟨_,rfl⟩,q⟩
end
section
variable {X:Cx}{pos:Pos}
def xh1 (c:TT)(tb:TS):TS:=λD σ H=>∃W:Nat->St->Hp->Prop,(∃m,W m σ H)/\∀m σ H,W m σ H ->
  c σ H λb H1=>if b=true then ∃N:St->Hp->Prop,(∀σ' H',N σ' H'->∃m',m'<m/\W m' σ' H')/\tb { D with nx:=N,ct:=N,bk:=D.nx } σ H1 else D.nx σ H1
theorem zr0 (hp:PassesOwn (gn X.prog X.w) X.A X.env X.xe)(hc:PT X c tc)(hb:PSs X body tb):PS X (.While c body [] pos) (xh1 tc tb):=by
  intro pins s σ H D I h
  obtain⟨W,⟨m0,w0⟩,turn⟩:=h
  refine wpAny_While (codeAny_whileLoop (λn s'=>∃σ' H',Inv X pins σ' H' s'/\W n σ' H') ?_ m0 ⟨σ,H,I,w0⟩)
  rintro n s1 ⟨σ1,H1,I1,w1⟩
  refine wpAny_passesOwn hp (thn (hc pins s1 σ1 H1 _ I1 (turn n σ1 H1 w1)) λb s2 ⟨H2,I2,q2⟩=>?_)
  cases b with
  | true =>
    obtain⟨N,hN,q2⟩:=q2
    rw[if_pos rfl]
    refine wpAny_passesOwn hp (thn (hb pins s2 σ1 H2 _ I2 q2) λf s3 q3=>?_)
    cases f with
    | next =>
      obtain⟨σ3,H3,I3,n3⟩:=q3
      obtain⟨m',hm,w3⟩:=hN σ3 H3 n3
      exact⟨m',hm,σ3,H3,I3,w3⟩
    | cont =>
      obtain⟨σ3,H3,I3,n3⟩:=q3
      obtain⟨m',hm,w3⟩:=hN σ3 H3 n3
      exact⟨m',hm,σ3,H3,I3,w3⟩
    | brk=>exact q3
    | ret v=>exact q3
  | false =>
    rw[if_neg aD]
    exact wpAny_execs_nil ⟨σ1,H2,I2,q2⟩
end
structure It where
  go:Nat->Hp->Prop
  yld:Nat->Hp->V->Hp->Prop
  stop:Nat->Hp->Prop
def A5 (X:Cx)(pins:List (Addr×Obj))(H:Hp)(b:Addr):Prop :=
  H b=none/\b≠X.env.locals/\b∉X.fs/\(b∈X.ex∨X.s₀.heap.objs.size<=b)/\(∀x c,X.env.cells.lookup x=some c->c≠b)/\∀p∈X.pn++pins,p.1≠b
theorem Inv.fpOk {σ:St}{s:fZ}{b:Addr}(I:Inv X pins σ H s)(hb:s.heap.objs.size<=b)(hn:H' b=none):A5 X pins H' b:=by
  refine⟨hn,cY (aR I.lt hb),I.nofs hb,.inr (aO I.sz hb),λx c e z=>?_,λp hp z=>?_⟩
  . obtain⟨v, q⟩ := I.cell x c e
    exact absurd (aR q.lt (by rw[z];exact hb)) (aY _)
  . exact absurd (aR (az (I.pin p hp).1) (by rw[z];exact hb)) (aY _)
structure yj8 (P:gf) (w:gq) (K:W.Frag) (tg:Expr) (J:It) (fp:List Addr) (it:Addr) (tn:Nat->Heap->Prop):Prop where
  mem:it∈fp
  obj:∀i h,tn i h->∀b∈fp,∃o,h.get? b=some o/\∀v,o.data≠.cell v
  keep:∀i h h',tn i h->(∀b∈fp,∀o,h.get? b=some o->h'.get? b=some o)->tn i h'
  item:∀(X:Cx),X.prog=P->X.w=w->X.K=K->X.calm=true->∀(i:Nat) (pins:List (Addr×Obj)) (s:fZ) (σ:St) (H:Hp) (E:Value->fZ->Prop),Inv X pins σ H s->(∀b∈fp,A5 X pins H b)->tn i s.heap->J.go i H ->
    gh (gn P w) X.A (pyNext (.ref it)) (λr s1=>∃u,r=some u /\
      gh (gn P w) X.A (letOwnedTupleGo tg (.ref it) u) (λ_ s2=>∃x H',Inv X pins σ H' s2/\p9 x u/\J.yld i H x H'/\tn (i+1) s2.heap/\∀b∈fp,H' b=none) E s1) E s
  done:∀(X:Cx),X.prog=P->X.w=w->X.K=K->X.calm=true->∀(i:Nat) (pins:List (Addr×Obj)) (s:fZ) (σ:St) (H:Hp) (E:Value->fZ->Prop),Inv X pins σ H s->(∀b∈fp,A5 X pins H b)->tn i s.heap->J.stop i H ->
    gh (gn P w) X.A (pyNext (.ref it)) (λr s1=>r=none/\Inv X pins σ H s1) E s
  self:∀(A:gu) (i:Nat) (s:fZ) (Q:Value->fZ->Prop) (E:Value->fZ->Prop),tn i s.heap->Q (.ref it) s->gh (gn P w) A (pyIter (.ref it)) Q E s
abbrev TI:=St->Hp->(It->Hp->Prop)->Prop
def PIE (X:Cx)(pins:List (Addr×Obj))(σ:St)(tg:Expr)(R:It->Hp->Prop)(itv:Value)(s2:fZ):Prop :=
  ∃(it:Addr) (fp:List Addr) (tn:Nat->Heap->Prop) (J:It) (H':Hp),itv=.ref it/\Inv X pins σ H' s2/\yj8 X.prog X.w X.K tg J fp it tn/\tn 0 s2.heap/\(∀b∈fp,A5 X pins H' b)/\R J H'
def PI (X:Cx)(tg iter:Expr)(wi:TI):Prop :=
  ∀(pins:List (Addr×Obj)) (s:fZ) (σ:St) (H:Hp) (R:It->Hp->Prop),Inv X pins σ H s->wi σ H R ->
    gh (gn X.prog X.w) X.A (eval iter X.env) (λv s1=>gh (gn X.prog X.w) X.A (pyIter v) (PIE X pins σ tg R) X.xe s1) X.xe s
theorem yp5 {E : Value -> fZ -> Prop}{s : fZ}{o : Obj}{Q : Unit -> fZ -> Prop}(ho : s.heap.get? it = some o)(hc : o.cls = .type n)(hd : o.data = .fields vs)
    (hn:["enumerate","zip","dict_itemiterator","dict_reverseitemiterator","odict_iterator","itertools.zip_longest","itertools.pairwise"].contains n=false) (hQ:Q () s):gh M A (letOwnedTupleGo tg (.ref it) u) Q E s:=by
  unfold letOwnedTupleGo
  cases tg <;> first
    | exact gc hQ
    | (cases u <;> first
        | exact gc hQ
        | (refine fY (wpAny_load ho ?_)
           rw[hc,hd]
           show gh M A (if (["enumerate","zip","dict_itemiterator","dict_reverseitemiterator","odict_iterator","itertools.zip_longest","itertools.pairwise"].contains n&&vs[0]?==some (rawInt _))=true then _ else _) Q E s
           rw[if_neg (by intro h;rw[hn,eW]at h;cases h)]
           exact gc hQ))
def Itl (K:W.Frag)(a:Addr):It :=
  ⟨λi H=>∃xs x,SqL K H a xs/\xs[i]?=some x,λi H x H'=>H'=H/\∀xs,SqL K H a xs->xs[i]?=some x,λi H=>∃xs,SqL K H a xs/\xs.length<=i⟩
def Itt (K:W.Frag)(a:Addr):It :=
  ⟨λi H=>∃xs x,SqT K H a xs/\xs[i]?=some x,λi H x H'=>H'=H/\∀xs,SqT K H a xs->xs[i]?=some x,λi H=>∃xs,SqT K H a xs/\xs.length<=i⟩
def Itr (lo:Int)(n:Nat):It:=⟨λi _=>i<n,λi H x H'=>H'=H/\x=.int (lo+i),λi _=>n<=i⟩
theorem yw5 {P:gf}{w:gq}{K:W.Frag}{tg:Expr}(a it:Addr):yj8 P w K tg (Itl K a) [it] it (λi h=>h.IsListIter it a i) where
  mem:=by simp
  obj:=λi h st b hb=>by
    have e:b=it:=by simpa using hb
    subst e
    obtain⟨o,e,c,d⟩:=st
    exact⟨o,e,λv z=>by rw[d]at z;cases z⟩
  keep:=λi h h' st k=>st.at λo e=>k it (by simp) o e
  item:=by
    intro X hP hw hK hc i pins s σ H E I hf st hg
    subst hP hw hK
    obtain⟨xs,x,hq,hx⟩:=hg
    obtain⟨its,rv,p,hz⟩:=I.list hq
    obtain⟨u,hu,ru⟩:=rv.get hx
    obtain⟨f0,f1,f2,f3,f4,f5⟩:=hf it (by simp)
    refine wpAny_pyNext_list_item st p.isList (x:=u) (by simpa using hu) λh' st' sb=>?_
    have I1:Inv X pins σ H { s with heap:=h' }:=I.turned (t':=s.toks) (λb o hb e=>(sb.2 b hb).trans e) f0 f1 f3 f4 f5
    obtain⟨o,e,c,d⟩:=id st'
    exact⟨u,rfl,yp5 (s:={ s with heap:=h' }) e c d (by decide) ⟨x,H,I1,ru,⟨rfl,λys hy=>by rw[I.list_inj hy hq];exact hx⟩,st',λb hb=>(hf b hb).1⟩⟩
  done:=by
    intro X hP hw hK hc i pins s σ H E I hf st hg
    subst hP hw hK
    obtain⟨xs,hq,hx⟩:=hg
    obtain⟨its,rv,p,hz⟩:=I.list hq
    obtain⟨f0,f1,f2,f3,f4,f5⟩:=hf it (by simp)
    have hl:=rv.length
    exact wpAny_pyNext_list_end (I.ok.hd hc) st p.isList (by simp;lia) λh' eb=>⟨rfl,I.turned (t':=s.toks) (λb o hb e=>eb b o hb e) f0 f1 f3 f4 f5⟩
  self:=λ_ _ _ _ _ st h=>wpAny_pyIter_listiter st h
theorem yo2 {P:gf}{w:gq}{K:W.Frag}{tg:Expr}(a it:Addr):yj8 P w K tg (Itt K a) [it] it (λi h=>h.IsTupleIter it a i) where
  mem:=by simp
  obj:=λi h st b hb=>by
    have e:b=it:=by simpa using hb
    subst e
    obtain⟨o,e,c,d⟩:=st
    exact⟨o,e,λv z=>by rw[d]at z;cases z⟩
  keep:=λi h h' st k=>st.at λo e=>k it (by simp) o e
  item:=by
    intro X hP hw hK hc i pins s σ H E I hf st hg
    subst hP hw hK
    obtain⟨xs,x,hq,hx⟩:=hg
    obtain⟨its,rv,p,hz⟩:=I.tuple hq
    obtain⟨u,hu,ru⟩:=rv.get hx
    obtain⟨f0,f1,f2,f3,f4,f5⟩:=hf it (by simp)
    refine wpAny_pyNext_tuple_item st (show s.heap.IsTuple a its.toArray from p) (x:=u) (by simpa using hu) λh' st' sb=>?_
    have I1:Inv X pins σ H { s with heap:=h' }:=I.turned (t':=s.toks) (λb o hb e=>(sb.2 b hb).trans e) f0 f1 f3 f4 f5
    obtain⟨o,e,c,d⟩:=id st'
    exact⟨u,rfl,yp5 (s:={ s with heap:=h' }) e c d (by decide) ⟨x,H,I1,ru,⟨rfl,λys hy=>by rw[I.tuple_inj hy hq];exact hx⟩,st',λb hb=>(hf b hb).1⟩⟩
  done:=by
    intro X hP hw hK hc i pins s σ H E I hf st hg
    subst hP hw hK
    obtain⟨xs,hq,hx⟩:=hg
    obtain⟨its,rv,p,hz⟩:=I.tuple hq
    obtain⟨f0,f1,f2,f3,f4,f5⟩:=hf it (by simp)
    have hl:=rv.length
    exact wpAny_pyNext_tuple_end (I.ok.hd hc) st (show s.heap.IsTuple a its.toArray from p) (by simp;lia) λh' eb=>⟨rfl,I.turned (t':=s.toks) (λb o hb e=>eb b o hb e) f0 f1 f3 f4 f5⟩
  self:=λ_ _ _ _ _ st h=>wpAny_pyIter_tupleiter st h
theorem yo1 {P:gf}{w:gq}{K:PySem.W.Frag}{tg:Expr}(it:Addr)(lo:Int)(n:Nat):yj8 P w K tg (Itr lo n) [it] it (λi h=>IsRangeIter h it (lo+(i:Nat)*1) ((n:Int)-(i:Nat)) 1) where
  mem:=by simp
  obj:=λi h st b hb=>by
    have e:b=it:=by simpa using hb
    subst e
    exact⟨_,st,λv z=>by
      have z':Data.fields _=Data.cell v:=z
      cases z'⟩
  keep:=λi h h' st k=>k it (by simp) _ st
  item:=by
    intro X hP hw hK hc i pins s σ H E I hf st hg
    subst hP hw hK
    obtain⟨f0,f1,f2,f3,f4,f5⟩:=hf it (by simp)
    have W:=Walks.range (prog:=X.prog) (w:=X.w) (I.ok.hd hc) it lo 1 n
    refine W.item i s _ _ hg st λv h' tk hv st' kk=>?_
    obtain⟨t,rfl⟩:=hv
    have I1:Inv X pins σ H { s with heap:=h',toks:=tk }:=I.turned (λb o hb e=>kk b o (by simpa using hb) e) f0 f1 f3 f4 f5
    refine⟨_,rfl,yp5 (s:={ s with heap:=h',toks:=tk }) (n:="range_iterator") st' rfl rfl (by decide) ⟨.int (lo+i),H,I1,⟨t,?_⟩,⟨rfl,rfl⟩,st',λb hb=>(hf b hb).1⟩⟩
    rw[Int.mul_one]
  done:=by
    intro X hP hw hK hc i pins s σ H E I hf st hg
    subst hP hw hK
    obtain⟨f0,f1,f2,f3,f4,f5⟩:=hf it (by simp)
    exact wpAny_pyNext_range_end (I.ok.hd hc) st (by have:n<=i:=hg;lia) λh' eb=>⟨rfl,I.turned (t':=s.toks) (λb o hb e=>eb b o hb e) f0 f1 f3 f4 f5⟩
  self:=λ_ _ _ _ _ st h=>wpAny_pyIter_rangeiter st h
section
variable {X:Cx}{tg:Expr}
def xu4 (K:W.Frag)(tl:TE):TI:=λσ H R=>tl σ H λx H1=>∃a,x=.ref a/\(∃xs,SqL K H1 a xs)/\R (Itl K a) H1
def xx6 (K:W.Frag)(tl:TE):TI:=λσ H R=>tl σ H λx H1=>∃a,x=.ref a/\(∃xs,SqT K H1 a xs)/\R (Itt K a) H1
theorem W0 (hl:PE X l tl):PI X tg l (xu4 X.K tl):=by
  intro pins s σ H R I h
  refine thn (hl pins s σ H _ I h) λv s1 ⟨x,H1,I1,r1,q1⟩=>?_
  obtain⟨a,e,⟨xs,hq⟩,q⟩:=q1
  subst e
  cases r1
  obtain⟨its,rv,p,hz⟩:=I1.list hq
  refine wpAny_pyIter_list p.isList ?_
  refine⟨s1.heap.objs.size,[s1.heap.objs.size],_,_,H1,rfl,I1.kept (t':=s1.toks) λb o e=>ao _ e,yw5 a _,⟨_,aB _ rfl,rfl,rfl⟩,λb hb=>?_,q⟩
  have e:b=s1.heap.objs.size:=by simpa using hb
  subst e
  exact I1.fpOk (ag _) (I1.hok.fresh (ag _))
theorem ya2 (hl:PE X l tl):PI X tg l (xx6 X.K tl):=by
  intro pins s σ H R I h
  refine thn (hl pins s σ H _ I h) λv s1 ⟨x,H1,I1,r1,q1⟩=>?_
  obtain⟨a,e,⟨xs,hq⟩,q⟩:=q1
  subst e
  cases r1
  obtain⟨its,rv,p,hz⟩:=I1.tuple hq
  refine wpAny_pyIter_tuple (show s1.heap.IsTuple a its.toArray from p) ?_
  refine⟨s1.heap.objs.size,[s1.heap.objs.size],_,_,H1,rfl,I1.kept (t':=s1.toks) λb o e=>ao _ e,yo2 a _,⟨_,aB _ rfl,rfl,rfl⟩,λb hb=>?_,q⟩
  have e:b=s1.heap.objs.size:=by simpa using hb
  subst e
  exact I1.fpOk (ag _) (I1.hok.fresh (ag _))
theorem xe4 {σ : St}{s : fZ}{R : It -> Hp -> Prop}{E : Value -> fZ -> Prop}{lo hi : Int}{tk : Nat}(I : Inv X pins σ H s)(h1 : -(2 ^ 62) <= lo)(h2 : lo<2 ^ 62)(h3 : -(2 ^ 62) <= hi)(h4 : hi<2 ^ 62)
    (q:R (Itr lo (hi-lo).toNat) H):gh (gn X.prog X.w) X.A (pyIter (.ref s.heap.objs.size)) (PIE X pins σ tg R) E { s with heap:=s.heap.push { cls:=.type "range",data:=.fields #[.int lo t,.int hi u,.int 1 v] },toks:=tk }:=by
  refine wpAny_pyIter_range (IsRange.new ..) (small_one h1 h2 h3 h4) ?_
  have I1:Inv X pins σ H { s with heap:=s.heap.push { cls:=.type "range",data:=.fields #[.int lo t,.int hi u,.int 1 v] },toks:=tk }:=I.kept λb o e=>ao _ e
  refine⟨(s.heap.push { cls:=.type "range",data:=.fields #[.int lo t,.int hi u,.int 1 v] }).objs.size,[(s.heap.push { cls:=.type "range",data:=.fields #[.int lo t,.int hi u,.int 1 v] }).objs.size],_,_,H,rfl,
    I1.kept (t':=tk) λb o e=>ao _ e,yo1 _ lo (hi-lo).toNat,?_,λb hb=>?_,q⟩
  . have e1 : lo+((0 : Nat) : Int)*1 = lo := by simp
    have e2:(((hi-lo).toNat:Nat):Int)-((0:Nat):Int)=Builtin.Range.rangeSize lo hi 1:=by rw[rangeSize_one];split <;> lia
    show IsRangeIter _ _ (lo+((0:Nat):Int)*1) ((((hi-lo).toNat:Nat):Int)-((0:Nat):Int)) 1
    rw[e1,e2]
    exact aB _ rfl
  . have e : b = (s.heap.push { cls := .type "range", data := .fields #[.int lo t, .int hi u, .int 1 v] }).objs.size := by simpa using hb
    subst e
    exact I1.fpOk (ag _) (I1.hok.fresh (ag _))
def xu6 (ta:TA):TI:=λσ H R=>ta σ H λvs H1=>∃j:Int,vs=[.int j]/\-(2 ^ 62)<=j/\j<2 ^ 62/\R (Itr 0 j.toNat) H1
theorem K2 (hg:Gl X "range")(hm:X.mg "range"=none)(ha:PA X [a] ta)(hs:gl [a] X.env=[(false,eval a X.env)]:=by rfl):PI X tg (.Call (.Name "range" p) [a] [] pos) (xu6 ta):=by
  intro pins s σ H R I h
  refine Call_ (zh3 I hg hm boot_range (PyProof.Rows.callWith_type1 (thn (ha pos pins s σ H _ I h) λus s1 ⟨vs,H1,I1,r1,q1⟩=>?_) hs rfl))
  obtain⟨j,e,q1,q2,q⟩:=q1
  subst e
  cases r1 with
  | cons r rr =>
    cases rr
    obtain⟨t,rfl⟩:=r
    exact call_range_1 (xe4 I1 (by lia) (by lia) q1 q2 (by simpa using q))
def xy7 (wi:TI)(g:TG)(tb:TS):TS:=λD σ H=>wi σ H λJ H1=>∃W:Nat->Nat->St->Hp->Prop,(∃m,W 0 m σ H1)/\∀i m σ H,W i m σ H ->
  (J.stop i H/\D.nx σ H)∨(J.go i H/\∃N:St->Hp->Prop,(∀σ' H',N σ' H'->∃m',m'<m/\W (i+1) m' σ' H')/\∀x H',J.yld i H x H'->g x σ H' λσ2 H2=>tb { D with nx:=N,ct:=N,bk:=D.nx } σ2 H2)
def ya3 (fp:List Addr)(h:Heap):List (Addr×Obj):=fp.filterMap λb=>(h.get? b).map λo=>(b,o)
theorem J0 {h:Heap}(hb:b∈fp)(e:h.get? b=some o):(b,o)∈ya3 fp h:=bE.mpr ⟨b,hb,by rw[e];rfl⟩
theorem yv1 {h:Heap}{p:Addr×Obj}(hp:p∈ya3 fp h):p.1∈fp/\h.get? p.1=some p.2:=by
  obtain⟨b,hb,e⟩:=bE.mp hp
  cases q:h.get? b with
  | none=>rw[q]at e;cases e
  | some o =>
    rw[q]at e
    have e':(b,o)=p:=Option.some.inj e
    subst e'
    exact⟨hb,q⟩
theorem Inv.pinned {σ:St}{s:fZ}(I:Inv X pins σ H s)(hf:∀b∈fp,A5 X pins H b)(ho:∀b∈fp,∃o,s.heap.get? b=some o/\∀v,o.data≠.cell v):Inv X (pins++ya3 fp s.heap) σ H s :=
  I.pins_of λp hp=>(aF.mp hp).elim (λz=>I.pin p (aG _ z)) λz=>by
    obtain⟨hb,e⟩:=yv1 z
    obtain⟨f0,f1,f2,_⟩:=hf p.1 hb
    obtain⟨o,e',d⟩:=ho p.1 hb
    rw[e]at e';cases e'
    exact⟨e,f0,f1,f2,d⟩
theorem Inv.unpinned {σ:St}(I:Inv X (pins++pl) σ H s):Inv X pins σ H s:=I.pins_of λp hp=>I.pin p (aG _ (aJ _ hp))
theorem U1 (hp : PassesOwn (gn X.prog X.w) X.A X.env X.xe)(hc : X.calm = true)(hi : PI X tg iter wi)(hg : PG X tg g)(hb : PSs X body tb)
    (hs:∀x,foldedSetIterable iter X.env x=pure x:=by intro _;rfl):PS X (.For tg iter body [] pos) (xy7 wi g tb):=by
  intro pins s σ H D I h
  refine wpAny_For (thn (hi pins s σ H _ I h) λv s1 h1=>thn h1 λitv s2 h2=>?_) hs
  obtain⟨it,fp,tn,J,H2,e,I2,T,st2,f2,W,⟨m0,w0⟩,turn⟩:=h2
  subst e
  have stat:∀{H':Hp},(∀b∈fp,H' b=none)->∀b∈fp,A5 X pins H' b:=λhn b hb=>⟨hn b hb,(f2 b hb).2⟩
  refine codeAny_forLoop_any (λn s'=>∃i σ' H',Inv X pins σ' H' s'/\tn i s'.heap/\(∀b∈fp,H' b=none)/\W i n σ' H') ?_ m0 ⟨0,σ,H2,I2,st2,λb hb=>(f2 b hb).1,w0⟩
  rintro n s3 ⟨i,σ3,H3,I3,st3,fr3,w3⟩
  rcases turn i n σ3 H3 w3 with⟨stop,qn⟩|⟨go,N,hN,step⟩
  . refine wpAny_passesOwn hp (thn (T.done X rfl rfl rfl hc i pins s3 σ3 H3 X.xe I3 (stat fr3) st3 stop) λr s4 ⟨hr, I4⟩ => ?_)
    subst hr
    exact wpAny_execs_nil ⟨σ3,H3,I4,qn⟩
  . refine wpAny_passesOwn hp (thn (T.item X rfl rfl rfl hc i pins s3 σ3 H3 X.xe I3 (stat fr3) st3 go) λr s4 ⟨u, hr, h4⟩ => ?_)
    subst hr
    refine wpAny_passesOwn hp (thn h4 λ_ s5 ⟨x,H5,I5,r5,y5,st5,fr5⟩=>?_)
    have I5':=I5.pinned (stat fr5) (T.obj _ _ st5)
    refine wpAny_passesOwn hp (thn (hg _ s5 σ3 H5 x u _ I5' r5 (step x H5 y5)) λ_ s6 ⟨σ6,H6,I6,q6⟩=>?_)
    refine wpAny_passesOwn hp (thn (hb _ s6 σ6 H6 _ I6 q6) λf s7 q7=>?_)
    have again:∀{σ7:St} {H7:Hp},Inv X (pins++ya3 fp s5.heap) σ7 H7 s7->N σ7 H7->∃m,m<n/\∃i σ' H',Inv X pins σ' H' s7/\tn i s7.heap/\(∀b∈fp,H' b=none)/\W i m σ' H':=λ{σ7 H7} I7 n7=>by
      obtain⟨m',hm,w7⟩:=hN σ7 H7 n7
      refine⟨m',hm,i+1,σ7,H7,I7.unpinned,T.keep _ _ _ st5 λb hb o e=>(I7.pin (b,o) (aG _ (aG _ (J0 hb e)))).1,λb hb=>?_,w7⟩
      obtain⟨o,e,d⟩:=T.obj _ _ st5 b hb
      exact(I7.pin (b,o) (aG _ (aG _ (J0 hb e)))).2.1
    cases f with
    | next=>obtain⟨σ7,H7,I7,n7⟩:=q7;exact again I7 n7
    | cont=>obtain⟨σ7,H7,I7,n7⟩:=q7;exact again I7 n7
    | brk=>obtain⟨σ7,H7,I7,q7⟩:=q7;exact⟨σ7,H7,I7.unpinned,q7⟩
    | ret v=>obtain⟨x7,σ7,H7,I7,r7,q7⟩:=q7;exact⟨x7,σ7,H7,I7.unpinned,r7,q7⟩
end
theorem L8 {K : PySem.W.Frag}{xs : List V}{g : TG}{tb : TS}{D : zf9}{H : Hp}(Pv : Nat -> St -> Hp -> Prop)(h0 : Pv 0 σ H)(hl : ∀i σ H, i <= xs.length -> Pv i σ H -> SqL K H a xs)
    (hs:∀i x σ H,xs[i]?=some x->Pv i σ H->g x σ H λσ2 H2=>tb { D with nx:=Pv (i+1),ct:=Pv (i+1),bk:=D.nx } σ2 H2) (hd:∀σ H,Pv xs.length σ H->D.nx σ H) :
    ∃W:Nat->Nat->St->Hp->Prop,(∃m,W 0 m σ H)/\∀i m σ H,W i m σ H ->
      ((Itl K a).stop i H/\D.nx σ H)∨((Itl K a).go i H/\∃N:St->Hp->Prop,(∀σ' H',N σ' H'->∃m',m'<m/\W (i+1) m' σ' H')/\∀x H',(Itl K a).yld i H x H'->g x σ H' λσ2 H2=>tb { D with nx:=N,ct:=N,bk:=D.nx } σ2 H2):=by
  refine⟨λi m σ H=>m=xs.length-i/\i<=xs.length/\Pv i σ H,⟨xs.length,by simp,aP _,h0⟩,?_⟩
  rintro i m σ H ⟨rfl,hi,p⟩
  have q:=hl i σ H hi p
  by_cases hlt:i<xs.length
  . refine .inr ⟨⟨xs, xs[i], q, by simp[hlt]⟩, Pv (i+1), λσ' H' p' => ⟨xs.length-(i+1), by lia, rfl, hlt, p'⟩, λx H' y => ?_⟩
    obtain⟨e,y⟩:=y
    subst e
    exact hs i x σ _ (y xs q) p
  . have e : i = xs.length := by lia
    subst e
    exact .inl ⟨⟨xs,q,ag _⟩,hd σ H p⟩
theorem zg8 {lo : Int}{g : TG}{tb : TS}{D : zf9}{H : Hp}(Pv : Nat -> St -> Hp -> Prop)(h0 : Pv 0 σ H)
    (hs:∀i σ H,i<n->Pv i σ H->g (.int (lo+i)) σ H λσ2 H2=>tb { D with nx:=Pv (i+1),ct:=Pv (i+1),bk:=D.nx } σ2 H2) (hd:∀σ H,Pv n σ H->D.nx σ H) :
    ∃W:Nat->Nat->St->Hp->Prop,(∃m,W 0 m σ H)/\∀i m σ H,W i m σ H ->
      ((Itr lo n).stop i H/\D.nx σ H)∨((Itr lo n).go i H/\∃N:St->Hp->Prop,(∀σ' H',N σ' H'->∃m',m'<m/\W (i+1) m' σ' H')/\∀x H',(Itr lo n).yld i H x H'->g x σ H' λσ2 H2=>tb { D with nx:=N,ct:=N,bk:=D.nx } σ2 H2):=by
  refine⟨λi m σ H=>m=n-i/\i<=n/\Pv i σ H,⟨n,by simp,aP _,h0⟩,?_⟩
  rintro i m σ H ⟨rfl,hi,p⟩
  by_cases hlt:i<n
  . refine .inr ⟨hlt, Pv (i+1), λσ' H' p' => ⟨n-(i+1), by lia, rfl, hlt, p'⟩, λx H' y => ?_⟩
    obtain⟨e,y⟩:=y
    subst e y
    exact hs i σ _ hlt p
  . have e : i = n := by lia
    subst e
    exact .inl ⟨ag _,hd σ H p⟩
theorem xh6 {D : zf9}(Pv : St -> Hp -> Prop)(μ : St -> Hp -> Nat)(h0 : Pv σ H)
    (hs:∀σ H,Pv σ H->c σ H λb H1=>if b=true then tb { D with nx:=λσ' H'=>Pv σ' H'/\μ σ' H'<μ σ H,ct:=λσ' H'=>Pv σ' H'/\μ σ' H'<μ σ H,bk:=D.nx } σ H1 else D.nx σ H1)
    (mono:∀σ H Q Q',(∀b H1,Q b H1->Q' b H1)->c σ H Q->c σ H Q'):xh1 c tb D σ H:=by
  refine⟨λm σ H=>m=μ σ H/\Pv σ H,⟨_,rfl,h0⟩,?_⟩
  rintro m σ H ⟨rfl,p⟩
  refine mono σ H _ _ (λb H1 q=>?_) (hs σ H p)
  cases b with
  | true=>exact⟨_,λσ' H' ⟨p',l⟩=>⟨_,l,rfl,p'⟩,q⟩
  | false=>exact q
abbrev R2:=V->V->Hp->VK->Prop
def OpR (X:Cx)(f:Value->Value->Sem Value)(r:R2):Prop :=
  ∀(pins:List (Addr×Obj)) (s:fZ) (σ:St) (H:Hp) (x y:V) (v u:Value) (Q:VK),Inv X pins σ H s->p9 x v->p9 y u->r x y H Q ->
    gh (gn X.prog X.w) X.A (f v u) (EP X pins σ Q) X.xe s
def T9 (X:Cx)(f:Value)(r:List V->Hp->VK->Prop):Prop :=
  ∀(pins:List (Addr×Obj)) (s:fZ) (σ:St) (H:Hp) (xs:List V) (us:List Value) (Q:VK),Inv X pins σ H s->p7 xs us->r xs H Q ->
    gh (gn X.prog X.w) X.A (call f us) (EP X pins σ Q) X.xe s
def tOp (r:R2)(ta tb:TE):TE:=λσ H Q=>ta σ H λx H1=>tb σ H1 λy H2=>r x y H2 Q
def rI (C:Int->Int->Prop)(g:Int->Int->V):R2:=λx y H Q=>∃i j,x=.int i/\y=.int j/\C i j/\Q (g i j) H
def rI0 (g:Int->Int->V):R2:=λx y H Q=>∃i j,x=.int i/\y=.int j/\Q (g i j) H
section
variable {X:Cx}{a b c:Expr}{ta tb tc:TE}{pos:Pos}
theorem xo8 (ha : PE X a ta)(hb : PE X b tb){σ : St}{R : V -> V -> Hp -> Prop}(I : Inv X pins σ H s)
    (h:ta σ H λx H1=>tb σ H1 λy H2=>R x y H2) {Q:Value->fZ->Prop} {f:Value->Value->Sem Value}
    (hf:∀v u s2 x y H2,Inv X pins σ H2 s2->p9 x v->p9 y u->R x y H2->gh (gn X.prog X.w) X.A (f v u) Q X.xe s2) :
    gh (gn X.prog X.w) X.A (eval a X.env) (λv s₁=>gh (gn X.prog X.w) X.A (eval b X.env) (λu s₂=>gh (gn X.prog X.w) X.A (f v u) Q X.xe s₂) X.xe s₁) X.xe s:=by
  refine thn (ha pins s σ H _ I h) λv s1 ⟨x,H1,I1,r1,q1⟩=>?_
  refine thn (hb pins s1 σ H1 _ I1 q1) λu s2 ⟨y,H2,I2,r2,q2⟩=>?_
  exact hf v u s2 x y H2 I2 r1 r2 q2
theorem e9 (ho:OpR X (binaryOp op) r)(ha:PE X a ta)(hb:PE X b tb):PE X (.BinOp a op b pos) (tOp r ta tb):=by
  intro pins s σ H Q I h
  exact wpAny_BinOp (xo8 ha hb I h λv u s2 x y H2 I2 rx ry q=>ho pins s2 σ H2 x y v u Q I2 rx ry q)
theorem opI {f : Value -> Value -> Sem Value}{C : Int -> Int -> Prop}{g : Int -> Int -> Int}
    (rule:∀(i j:Int) (t u:Tok) (s:fZ) (Q:Value->fZ->Prop) (E:Value->fZ->Prop),C i j->Q (.int (g i j) s.toks) { s with toks:=s.toks+1 }->gh (gn X.prog X.w) X.A (f (.int i t) (.int j u)) Q E s) :
    OpR X f (rI C λi j=>.int (g i j)):=by
  intro pins s σ H x y v u Q I rx ry h
  obtain⟨i,j,rfl,rfl,hc,q⟩:=h
  obtain⟨t,rfl⟩:=rx
  obtain⟨t',rfl⟩:=ry
  exact rule i j t t' s _ _ hc ⟨.int (g i j),H,I.tok _,⟨_,rfl⟩,q⟩
theorem xr4 {f : Value -> Value -> Sem Value}{g : Int -> Int -> Int}
    (rule:∀(i j:Int) (t u:Tok) (s:fZ) (Q:Value->fZ->Prop) (E:Value->fZ->Prop),Q (.int (g i j) s.toks) { s with toks:=s.toks+1 }->gh (gn X.prog X.w) X.A (f (.int i t) (.int j u)) Q E s) :
    OpR X f (rI0 λi j=>.int (g i j)):=by
  intro pins s σ H x y v u Q I rx ry h
  obtain⟨i,j,rfl,rfl,q⟩:=h
  obtain⟨t,rfl⟩:=rx
  obtain⟨t',rfl⟩:=ry
  exact rule i j t t' s _ _ ⟨.int (g i j),H,I.tok _,⟨_,rfl⟩,q⟩
theorem xk4 {f : Value -> Value -> Sem Value}{g : Int -> Int -> Bool}
    (rule:∀(i j:Int) (t u:Tok) (s:fZ) (Q:Value->fZ->Prop) (E:Value->fZ->Prop),Q (.bool (g i j)) s->gh (gn X.prog X.w) X.A (f (.int i t) (.int j u)) Q E s) :
    OpR X f (rI0 λi j=>.bl (g i j)):=by
  intro pins s σ H x y v u Q I rx ry h
  obtain⟨i,j,rfl,rfl,q⟩:=h
  obtain⟨t,rfl⟩:=rx
  obtain⟨t',rfl⟩:=ry
  exact rule i j t t' s _ _ ⟨.bl (g i j),H,I,rfl,q⟩
def xt3 (i j:Int):Prop:=0<j/\j<1073741824
theorem O3:OpR X (binaryOp .Add) (rI0 λi j=>.int (i+j)):=xr4 λ_ _ _ _ _ _ _ q=>add_int q
theorem ym2:OpR X (binaryOp .Sub) (rI0 λi j=>.int (i-j)):=xr4 λ_ _ _ _ _ _ _ q=>sub_int q
theorem zz7:OpR X (binaryOp .FloorDiv) (rI xt3 λi j=>.int (i / j)):=opI λi j _ _ _ _ _ hc q=>by
  have h1:(0:Int)<j:=hc.1
  have h2:j<1073741824:=hc.2
  exact floordiv_int (by lia) (by rw[fg i (by lia)];exact q) (.inl (PyProof.noPylong_small (by lia)))
theorem O4:OpR X (binaryOp .Mod) (rI (λ_ j=>0<j) λi j=>.int (i % j)):=opI λi j _ _ _ _ _ hc q=>by
  have h1:(0:Int)<j:=hc
  exact mod_int' (by lia) (by rw[ff i (by lia)];exact q)
theorem xj0:OpR X (inplaceOp .Add) (rI0 λi j=>.int (i+j)):=xr4 λ_ _ _ _ _ _ _ q=>iadd_int q
end
def xv4 : V -> V -> Bool
  | .non,.non=>true | .non,.int _=>true | .int _,.non=>true | .non,.bl _=>true | .bl _,.non=>true | .non,.str _=>true | .str _,.non=>true
  | .int _,.int _=>true | .bl _,.bl _=>true | .str _,.str _=>true | .byt _,.byt _=>true
  | .int _,.str _=>true | .str _,.int _=>true | .bl _,.str _=>true | .str _,.bl _=>true
  | _,_=>false
def rEq:R2:=λx y H Q=>xv4 x y=true/\Q (.bl (decide (x=y))) H
def rNe:R2:=λx y H Q=>xv4 x y=true/\Q (.bl (!decide (x=y))) H
theorem yo9 :decide (V.int i=V.int j)=(i==j):=by
  rw[dR]
  simp
theorem yx9 :decide (V.bl i=V.bl j)=(i==j):=by
  rw[dR]
  simp
theorem yp0 :decide (V.str i=V.str j)=(i==j):=by
  rw[dR]
  simp
theorem yo8 {i j:Array UInt8}:decide (V.byt i=V.byt j)=(i.toList==j.toList):=by
  rw[dR]
  cases i
  cases j
  simp
section
variable {X:Cx}{a b c:Expr}{ta tb tc:TE}{pos:Pos}
theorem n5 {σ:St}{k k':Bool}(I:Inv X pins σ H s)(q:Q (.bl k) H)(e:k=k'):EP X pins σ Q (.bool k') s:=by
  subst e
  exact⟨.bl k,H,I,rfl,q⟩
theorem zj8:OpR X (compareOp .Eq) rEq:=by
  intro pins s σ H x y v u Q I rx ry h
  obtain⟨hs,q⟩:=h
  cases x with
  | non =>
    cases rx
    cases y with
    | non=>cases ry;exact PySem.EqNone.eq_none_none (n5 I q (by simp))
    | bl j=>cases ry;exact PySem.EqNone.eq_none_bool (n5 I q (by simp))
    | int j=>obtain⟨t',rfl⟩:=ry;exact PySem.EqNone.eq_none_int (n5 I q (by simp))
    | str j=>obtain⟨t',rfl⟩:=ry;exact PySem.EqNone.eq_none_str (n5 I q (by simp))
    | _=>exact absurd (show false=true from hs) aD
  | bl i =>
    cases rx
    cases y with
    | non=>cases ry;exact PySem.EqNone.eq_bool_none (n5 I q (by simp))
    | bl j=>cases ry;exact eq_bool (n5 I q yx9)
    | str j=>obtain⟨t',rfl⟩:=ry;exact PySem.EqMixed.eq_bool_str (n5 I q (by simp))
    | _=>exact absurd (show false=true from hs) aD
  | int i =>
    obtain⟨t,rfl⟩:=rx
    cases y with
    | non=>cases ry;exact PySem.EqNone.eq_int_none (n5 I q (by simp))
    | int j=>obtain⟨t',rfl⟩:=ry;exact eq_int (n5 I q yo9)
    | str j=>obtain⟨t',rfl⟩:=ry;exact PySem.EqMixed.eq_int_str (n5 I q (by simp))
    | _=>exact absurd (show false=true from hs) aD
  | str i =>
    obtain⟨t,rfl⟩:=rx
    cases y with
    | non=>cases ry;exact PySem.EqNone.eq_str_none (n5 I q (by simp))
    | bl j=>cases ry;exact PySem.EqMixed.eq_str_bool (n5 I q (by simp))
    | int j=>obtain⟨t',rfl⟩:=ry;exact PySem.EqMixed.eq_str_int (n5 I q (by simp))
    | str j=>obtain⟨t',rfl⟩:=ry;exact eq_str (n5 I q yp0)
    | _=>exact absurd (show false=true from hs) aD
  | byt i =>
    obtain⟨t,rfl⟩:=rx
    cases y with
    | byt j=>obtain⟨t',rfl⟩:=ry;exact W.eq_bytes (n5 I q yo8)
    | _=>exact absurd (show false=true from hs) aD
  | _=>cases y <;> exact absurd (show false=true from hs) aD
theorem yq2:OpR X (compareOp .NotEq) rNe:=by
  intro pins s σ H x y v u Q I rx ry h
  obtain⟨hs,q⟩:=h
  cases x with
  | non =>
    cases rx
    cases y with
    | non=>cases ry;exact PySem.EqNone.ne_none_none (n5 I q (by simp))
    | bl j=>cases ry;exact PySem.EqNone.ne_none_bool (n5 I q (by simp))
    | int j=>obtain⟨t',rfl⟩:=ry;exact PySem.EqNone.ne_none_int (n5 I q (by simp))
    | str j=>obtain⟨t',rfl⟩:=ry;exact PySem.EqNone.ne_none_str (n5 I q (by simp))
    | _=>exact absurd (show false=true from hs) aD
  | bl i =>
    cases rx
    cases y with
    | non=>cases ry;exact PySem.EqNone.ne_bool_none (n5 I q (by simp))
    | bl j=>cases ry;exact ne_bool (n5 I q (congrArg not yx9))
    | str j=>obtain⟨t',rfl⟩:=ry;exact PySem.EqMixed.ne_bool_str (n5 I q (by simp))
    | _=>exact absurd (show false=true from hs) aD
  | int i =>
    obtain⟨t,rfl⟩:=rx
    cases y with
    | non=>cases ry;exact PySem.EqNone.ne_int_none (n5 I q (by simp))
    | int j=>obtain⟨t',rfl⟩:=ry;exact ne_int (n5 I q (congrArg not yo9))
    | str j=>obtain⟨t',rfl⟩:=ry;exact PySem.EqMixed.ne_int_str (n5 I q (by simp))
    | _=>exact absurd (show false=true from hs) aD
  | str i =>
    obtain⟨t,rfl⟩:=rx
    cases y with
    | non=>cases ry;exact PySem.EqNone.ne_str_none (n5 I q (by simp))
    | bl j=>cases ry;exact PySem.EqMixed.ne_str_bool (n5 I q (by simp))
    | int j=>obtain⟨t',rfl⟩:=ry;exact PySem.EqMixed.ne_str_int (n5 I q (by simp))
    | str j=>obtain⟨t',rfl⟩:=ry;exact ne_str (n5 I q (congrArg not yp0))
    | _=>exact absurd (show false=true from hs) aD
  | byt i =>
    obtain⟨t,rfl⟩:=rx
    cases y with
    | byt j=>obtain⟨t',rfl⟩:=ry;exact W.ne_bytes (n5 I q (congrArg not yo8))
    | _=>exact absurd (show false=true from hs) aD
  | _=>cases y <;> exact absurd (show false=true from hs) aD
theorem yq1:OpR X (compareOp .Lt) (rI0 λi j=>.bl (decide (i<j))):=xk4 λ_ _ _ _ _ _ _ q=>lt_int q
theorem yq0:OpR X (compareOp .LtE) (rI0 λi j=>.bl (decide (i<=j))):=xk4 λ_ _ _ _ _ _ _ q=>le_int q
theorem yg0:OpR X (compareOp .Gt) (rI0 λi j=>.bl (decide (j<i))):=xk4 λ_ _ _ _ _ _ _ q=>gt_int q
theorem xn9:OpR X (compareOp .GtE) (rI0 λi j=>.bl (decide (j<=i))):=xk4 λ_ _ _ _ _ _ _ q=>ge_int q
theorem xk6:OpR X (compareOp .IsNot) (λx y H Q=>y=.non/\Q (.bl (!decide (x=.non))) H):=by
  intro pins s σ H x y v u Q I rx ry h
  obtain⟨rfl,q⟩:=h
  cases ry
  refine isnot_none_gen (n5 I q ?_)
  cases x <;> first
    | (cases rx;rfl)
    | (obtain⟨t,rfl⟩:=rx;rfl)
theorem l5 (b:Expr)(h:op≠.In:=by decide)(h2:op≠.NotIn:=by decide):behindInMarks op b=false:=by
  have e1:(op==CmpOp.In)=false:=by cases op <;> first|rfl|exact absurd rfl h
  have e2:(op==CmpOp.NotIn)=false:=by cases op <;> first|rfl|exact absurd rfl h2
  cases b <;> simp[behindInMarks,e1,e2]
theorem B9 (ho:OpR X (compareOp op) r)(ha:PE X a ta)(hb:PE X b tb)(hm:behindInMarks op b=false):PE X (.Compare a [op] [b] pos) (tOp r ta tb):=by
  intro pins s σ H Q I h
  exact wpAny_Compare1 (xo8 ha hb I h λv u s2 x y H2 I2 rx ry q=>ho pins s2 σ H2 x y v u Q I2 rx ry q) hm
def xo2 (t:TE):TT:=λσ H Q=>t σ H λx H'=>∃k,x=.bl k/\Q k H'
theorem m9 (ho:OpR X (compareOp op) r)(ha:PE X a ta)(hb:PE X b tb)(hm:behindInMarks op b=false):PT X (.Compare a [op] [b] pos) (xo2 (tOp r ta tb)):=by
  intro pins s σ H Q I h
  refine wpAny_isTrue_Compare1 (thn (ha pins s σ H _ I h) λv s1 ⟨x,H1,I1,r1,q1⟩=>thn (hb pins s1 σ H1 _ I1 q1) λu s2 ⟨y,H2,I2,r2,q2⟩ =>
    thn (ho pins s2 σ H2 x y v u _ I2 r1 r2 q2) λc s3 ⟨z,H3,I3,r3,k,e,q3⟩=>?_) hm
  subst e
  cases r3
  exact wpAny_truthy_bool ⟨H3,I3,q3⟩
def xs6 (r r':R2)(ta tb tc:TE):TE:=λσ H Q=>ta σ H λx H1=>tb σ H1 λy H2=>r x y H2 λz H3=>∃k,z=.bl k /\
  (if k=true then tc σ H3 λw' H4=>r' y w' H4 Q else Q (.bl false) H3)
theorem yg4 (ho : OpR X (compareOp op) r)(ho' : OpR X (compareOp op') r')(ha : PE X a ta)(hb : PE X b tb)(hc : PE X c tc)
    (hm:lastMarks [op,op'] [b,c]=false:=by with_unfolding_all rfl):PT X (.Compare a [op,op'] [b,c] pos) (xo2 (xs6 r r' ta tb tc)):=by
  intro pins s σ H Q I h
  refine isTrue_chain (thn (ha pins s σ H _ I h) λv s1 ⟨x,H1,I1,r1,q1⟩=>test_link (thn (hb pins s1 σ H1 _ I1 q1) λu s2 ⟨y,H2,I2,r2,q2⟩ =>
    thn (ho pins s2 σ H2 x y v u _ I2 r1 r2 q2) λd s3 ⟨z,H3,I3,r3,k,e,q3⟩=>?_)) hm
  subst e
  cases r3
  refine wpAny_truthy_bool ?_
  cases k with
  | false =>
    obtain⟨k',e',q'⟩:=q3
    cases e'
    exact ite_ff ⟨H3,I3,q'⟩
  | true =>
    refine ite_tt (test_last (thn (hc pins s3 σ H3 _ I3 q3) λw' s4 ⟨z',H4,I4,r4,q4⟩=>thn (ho' pins s4 σ H4 y z' u w' _ I4 r2 r4 q4) λd' s5 ⟨z2,H5,I5,r5,k2,e2,q5⟩=>?_))
    subst e2
    cases r5
    exact wpAny_truthy_bool ⟨H5,I5,q5⟩
theorem zp5:(ge:Nat)<2 ^ 63:=by rw[sizeLine_eq];decide
theorem N6 (r:p7 [x] us):∃u,us=[u]/\p9 x u:=by
  cases r with
  | cons r1 r2=>cases r2;exact⟨_,rfl,r1⟩
theorem xh5 (r:p7 [x,y] us):∃u w',us=[u,w']/\p9 x u/\p9 y w':=by
  cases r with
  | cons r1 r2 =>
    cases r2 with
    | cons r3 r4=>cases r4;exact⟨_,_,rfl,r1,r3⟩
def xw7 (K:W.Frag)(x:V)(H:Hp)(n:Nat):Prop :=
  match x with
  | .str y=>y.length<=ge/\n=y.length
  | .byt y=>y.size<=ge/\n=y.size
  | .ref p=>(∃xs,SqL K H p xs/\n=xs.length)∨∃xs,SqT K H p xs/\n=xs.length
  | _=>False
theorem yc7:T9 X (.builtin "len") (λxs H Q=>∃x n,xs=[x]/\xw7 X.K x H n/\Q (.int n) H):=by
  intro pins s σ H xs us Q I r h
  obtain⟨x,n,rfl,e,q⟩:=h
  obtain⟨u,rfl,rx⟩:=N6 r
  have hl:=zp5
  have hs:ge=16777216:=sizeLine_eq
  cases x with
  | str y =>
    obtain⟨t,rfl⟩:=rx
    obtain⟨hy,e'⟩:y.length<=ge/\n=y.length:=e
    subst e'
    exact len_str (by lia) ⟨.int _,H,I.tok _,⟨_,rfl⟩,q⟩
  | byt y =>
    obtain⟨t,rfl⟩:=rx
    obtain⟨hy,e'⟩:y.size<=ge/\n=y.size:=e
    subst e'
    exact W.len_bytes (by lia) ⟨.int _,H,I.tok _,⟨_,rfl⟩,q⟩
  | ref p =>
    cases rx
    have e':(∃xs,SqL X.K H p xs/\n=xs.length)∨∃xs,SqT X.K H p xs/\n=xs.length:=e
    rcases e' with⟨xs,hx,e'⟩|⟨xs,hx,e'⟩
    . subst e'
      obtain⟨its,r',pl,hz⟩:=I.list hx
      have hlen:=r'.length
      exact Calls.call_len_list pl.isList (by simp only[aA];lia) ⟨.int xs.length,H,I.tok _,⟨_,by simp only[aA];rw[hlen]⟩,q⟩
    . subst e'
      obtain⟨its,r',pl,hz⟩:=I.tuple hx
      have hlen:=r'.length
      exact len_tuple pl (by simp only[aA];lia) ⟨.int xs.length,H,I.tok _,⟨_,by simp only[aA];rw[hlen]⟩,q⟩
  | _=>exact(show False from e).elim
theorem yc6:T9 X (.builtin "divmod") (λxs H Q=>∃i j,xs=[.int i,.int j]/\xt3 i j/\∀p,H p=none->Q (.ref p) (upd H p (.tup [.int (i / j),.int (i % j)]))):=by
  intro pins s σ H xs us Q I r h
  obtain⟨i,j,rfl,⟨h1,h2⟩,q⟩:=h
  obtain⟨u,w',rfl,⟨t,rfl⟩,⟨t',rfl⟩⟩:=xh5 r
  refine divmod_int (by lia) ?_ (.inl (PyProof.noPylong_small (by lia)))
  rw[fg i (by lia),ff i (by lia)]
  have hn:H s.heap.objs.size=none:=I.hok.fresh (ag _)
  refine⟨.ref s.heap.objs.size,_,?_,rfl,q _ hn⟩
  refine I.laid (λb o e=>ao _ e) (ag _) ⟨by simp only[aC,dF];rw[sizeLine_eq];decide,[.int (i / j) s.toks,.int (i % j) (s.toks+1)],.cons ⟨_,rfl⟩ (.cons ⟨_,rfl⟩ .nil),?_⟩
  exact⟨_,aB s.heap rfl,rfl,0,rfl,rfl⟩
end
structure yj7 (h:Heap) (x dx C:Addr) (mA:Str->Option Value):Prop where
  obj:h.get? x=some (W.instObj C dx)
  ns:h.Ns1 dx mA
  ne:dx≠x
theorem yu9 {h:Heap}{mA:Str->Option Value}(n:h.Ns1 dx mA):∃od,h.get? dx=some od/\∀name,W.lookIn name od=some (mA name):=by
  obtain⟨o,es,ep,ho,hd,hk,_,hm⟩:=n
  refine⟨o,ho,λname=>?_⟩
  have e:=hm name
  unfold nsFind findBy at e
  rw[←Array.find?_toList]at e
  unfold W.lookIn
  rw[hd]
  dsimp only
  split
  . rename_i y q
    rw[q]at e
    exact congrArg some e
  . rename_i q
    rw[q]at e
    have a:es.toList.any (·.refKey)=false:=by
      rw[List.any_eq_false]
      intro y hy
      obtain⟨z,t,hkey⟩:=hk y (Array.mem_toList_iff.mp hy)
      simp[DictEntry.refKey,hkey]
    have a':¬es.toList.any (·.refKey)=true:=by rw[a];exact aD
    rw[if_neg a']
    exact congrArg some e
theorem yj7.look {mA:Str->Option Value}(I:yj7 h x dx C mA):∃od,W.InstAt h x (W.instObj C dx) C (some od)/\∀name,W.lookIn name od=some (mA name) :=
  let ⟨od,ho,hl⟩:=yu9 I.ns
  ⟨od,⟨I.obj,rfl,rfl,ho⟩,hl⟩
section
variable {prog:gf}{w:gq}{A:gu}{E:Value->fZ->Prop}{s:fZ}{K:W.Frag}{x dx C f:Addr}{mA:Str->Option Value}{name:Str}{v:Value}
theorem xi7 {Q : Value -> fZ -> Prop}(X : K.In s.heap)(I : yj7 s.heap x dx C mA)(hg : W.plainGet K C name = true)(hh : W.hasDictIn K C = true)
    (ha:W.findIn K (.ref C) name=some none) (hv:mA name=some v) (hv':W.handedIn v=true) (h:Q v { s with toks:=s.toks+1 }) :
    gh (gn prog w) A (getAttr (.ref x) name expr) Q E s:=by
  obtain⟨od,J,hl⟩:=I.look
  exact W.get_value X J (W.plainGet_of hg).1 (W.findObj_own hh ha rfl (by rw[hl,hv])) hv' h
theorem yz2 {Q : Value×List Value -> fZ -> Prop}(X : K.In s.heap)(I : yj7 s.heap x dx C mA)(hg : W.plainGet K C name = true)
    (hf:W.findIn K (.ref C) name=some (some (.ref f))) (ht:W.isFn K (.ref f)=true) (hv:mA name=none) (h:Q (.ref f,[.ref x]) s) :
    gh (gn prog w) A (getMethod (.ref x) name pl) Q E s:=by
  obtain⟨od,J,hl⟩:=I.look
  exact W.method_fn X J (W.plainGet_of hg).1 (W.plainGet_of hg).2 hf (beq_iff_eq.mp ht) (by show(W.lookIn name od).map (·.isSome)=some false;rw[hl,hv];rfl) h
theorem xm1 {ns : List Str}{Q : Unit -> fZ -> Prop}(X : K.In s.heap)(I : yj7 s.heap x dx C mA)
    (hs:W.findIn K (.ref C) "__setattr__"=some (some (.builtin "object.__setattr__"))) (hp:W.plainOver K C=true) (ht:W.takerIn K C name=some none) (hh:W.hasDictIn K C=true)
    (hw:PySem.Within mA ns) (hsz:ns.length<=ge)
    (h:∀h',yj7 h' x dx C (λy=>if y=name then some v else mA y)->Heap.SameBut dx s.heap h'->Q () { s with heap:=h',toks:=s.toks+2 }) :
    gh (gn prog w) A (setAttr (.ref x) name v) Q E s:=by
  obtain⟨od,J,hl⟩:=I.look
  refine W.set_plain X J hs (W.osa_open (s:={ s with toks:=s.toks+1 }) (r:=none) X J hp ht λb=>?_)
  obtain⟨cd,hc,hd'⟩:=W.any_some hh
  have hx:s.heap.get? x=some ⟨.ref C,some dx,.plain,#[]⟩:=I.obj
  refine fY (gc (fY (fY (wpAny_loadPart hx (fY (W.Looks.here (s:={ s with toks:=s.toks+1 }) (W.looks_clsIn X hc) ?_))))))
  rw[hd']
  refine gc (a:=some dx) (fY (gc (fY ?_)))
  refine wpAny_nsSet1 (s:={ s with toks:=s.toks+1 }) I.ns λh' hn2 hs2=>?_
  obtain⟨oD,esD,epD,hoD,hdD,hcD⟩:=hn2.count (PySem.Within.cons name v hw)
  refine fY (wpAny_lookBehind hoD (by rw[hdD];exact pastItsLine_dict (aO hcD (by rw[aC];lia))) ?_)
  exact gc (h _ ⟨(hs2.2 _ (Ne.symm I.ne)).trans I.obj,hn2,I.ne⟩ hs2)
theorem xc1 {R : Result -> fZ -> Prop}(X : K.In s.heap)(hm : W.makesIn K C = true)
    (hi:W.findIn K (.ref C) "__init__"=some (some (.ref f))) (hf:W.typeIn K (.ref f)=some (.type "function"))
    (h : codeAny (gn prog w) (A.under (.builtin "type.__call__" ⟨.ref C::vs, kw⟩)) (.call (.ref f) ⟨.ref (s.heap.objs.size+1)::vs, kw⟩) (W.InitBack (s.heap.objs.size+1) R)
      { s with heap:=(s.heap.push W.emptyDict).push (W.instObj C s.heap.objs.size) }) :
    codeAny (gn prog w) A (.call (.ref C) ⟨vs,kw⟩) R s:=by
  obtain⟨hh,g,d,t,os⟩:=s
  exact W.make_core (W.makes_of X hm) (W.looks_findIn X hi) (λself=>W.bind_fn X self hf) (.inl rfl) h
end
def W1 (f : Str)(v : V) : List (Str×V) -> List (Str×V)
  | []=>[(f,v)]
  | (g,x)::r=>if g=f then(g,v)::r else(g,x)::W1 f v r
theorem zj7 (f g : Str)(v : V) : ∀fs : List (Str×V), (W1 f v fs).lookup g = if g = f then some v else fs.lookup g
  | []=>by
    show List.lookup g [(f,v)]=_
    by_cases h:g=f
    . have hb : (g==f) = true := beq_iff_eq.mpr h
      simp only[List.lookup,hb,if_pos h]
    . have hb : (g==f) = false := beq_eq_false_iff_ne.mpr h
      simp only[List.lookup,hb,if_neg h]
  | (k,x)::r=>by
    have ih:=zj7 f g v r
    rw[show W1 f v ((k,x)::r)=(if k=f then(k,v)::r else(k,x)::W1 f v r) from rfl]
    by_cases hk:k=f
    . rw[if_pos hk]
      by_cases h:g=k
      . have hb : (g==k) = true := beq_iff_eq.mpr h
        simp only[List.lookup,hb,if_pos (h.trans hk)]
      . have hb : (g==k) = false := beq_eq_false_iff_ne.mpr h
        simp only[List.lookup,hb,if_neg (λe:g=f=>h (e.trans hk.symm))]
    . rw[if_neg hk]
      by_cases h:g=k
      . have hb : (g==k) = true := beq_iff_eq.mpr h
        simp only[List.lookup,hb,if_neg (λe:g=f=>hk (h.symm.trans e))]
      . have hb : (g==k) = false := beq_eq_false_iff_ne.mpr h
        simp only[List.lookup,hb]
        exact ih
theorem zh1 (f : Str)(v : V) : ∀fs : List (Str×V), f ∈ (W1 f v fs).map (·.1) /\ ∀g, g ∈ fs.map (·.1) -> g ∈ (W1 f v fs).map (·.1)
  | []=>⟨by simp[W1],λg h=>by simp at h⟩
  | (k,x)::r=>by
    obtain⟨i1,i2⟩:=zh1 f v r
    rw[show W1 f v ((k,x)::r)=(if k=f then(k,v)::r else(k,x)::W1 f v r) from rfl]
    by_cases hk:k=f
    . rw[if_pos hk]
      subst hk
      exact⟨by simp,λg h=>by simpa using h⟩
    . rw[if_neg hk]
      refine⟨?_,λg h=>?_⟩
      . rw[aQ]
        exact av _ i1
      . rw[aQ]at h ⊢
        rcases aw.mp h with e|e
        . exact aw.mpr (.inl e)
        . exact av _ (i2 g e)
theorem zj6 (f : Str)(v : V) : ∀fs : List (Str×V), (W1 f v fs).length <= fs.length+1
  | []=>by simp[W1]
  | (k,x)::r=>by
    have ih:=zj6 f v r
    rw[show W1 f v ((k,x)::r)=(if k=f then(k,v)::r else(k,x)::W1 f v r) from rfl]
    by_cases hk:k=f
    . rw[if_pos hk,aC,aC];lia
    . rw[if_neg hk,aC,aC];lia
theorem A6.some_of (r:A6 (some v) o):∃u,o=some u/\p9 v u:=by
  cases o with
  | none=>exact(show False from r).elim
  | some u=>exact⟨u,rfl,r⟩
theorem A6.none_of (r:A6 none o):o=none:=by
  cases o with
  | none=>rfl
  | some u=>exact(show False from r).elim
theorem yt6 (r:p9 v u):W.handedIn u=true:=by
  cases v with
  | non=>cases (show u=Value.none from r);rfl
  | bl b=>cases (show u=Value.bool b from r);rfl
  | int i=>obtain⟨t,e⟩:=(show ∃t,u=Value.int i t from r);cases e;rfl
  | str x=>obtain⟨t,e⟩:=(show ∃t,u=Value.str x t from r);cases e;rfl
  | byt b=>obtain⟨t,e⟩:=(show ∃t,u=Value.bytes b t from r);cases e;rfl
  | flt b=>obtain⟨t,e⟩:=(show ∃t,u=Value.float b t from r);cases e;rfl
  | ref a=>cases (show u=Value.ref a from r);rfl
  | ty n=>cases (show u=Value.type n from r);rfl
section
variable {P:gf}{w:gq}{H H':Hp}{h h':Heap}{a C dx:Addr}{fs fs':List (Str×V)}
theorem zc9 (hok:HOk P w H h)(e:H a=some (.ins C dx fs)):∃mA,yj7 h a dx C mA/\(∀f,A6 (fs.lookup f) (mA f))/\PySem.Within mA (fs.map (·.1))/\fs.length<=1000/\H dx=some (.own a):=by
  obtain⟨d,z,ne,ob,mA,n,r,q⟩:=(show l7 P w H h a (.ins C dx fs) from hok a _ e)
  exact⟨mA,⟨ob,n,ne⟩,r,q,z,d⟩
end
structure Cls (K:W.Frag) (C:Addr):Prop where
  pg:W.plainGet K C Str.empty=true
  hd:W.hasDictIn K C=true
  po:W.plainOver K C=true
  sa:W.findIn K (.ref C) "__setattr__"=some (some (.builtin "object.__setattr__"))
theorem Cls.get {K:W.Frag}(c:Cls K C)(f:Str):W.plainGet K C f=true:=c.pg
def E7 (K:W.Frag)(C:Addr)(f:Str):Prop:=W.findIn K (.ref C) f=some none
theorem E7.taker {K:W.Frag}(n:E7 K C f):W.takerIn K C f=some none:=by
  unfold W.takerIn
  rw[show W.findIn K (.ref C) f=some none from n]
  rfl
structure yx0 (K:W.Frag) (C:Addr) (m:Str) (f:Addr):Prop where
  at_:W.findIn K (.ref C) m=some (some (.ref f))
  fn:W.isFn K (.ref f)=true
  kp:W.keepIn K (.ref f)=true
section
variable {X:Cx}{pins:List (Addr×Obj)}{σ:St}{H:Hp}{s:fZ}{a C dx:Addr}{fs:List (Str×V)}{f:Str}{v:V}{A:gu}{E:Value->fZ->Prop}
theorem zo5 {Q : Value -> fZ -> Prop}(I : Inv X pins σ H s)(e : H a = some (.ins C dx fs))(c : Cls X.K C)(n : E7 X.K C f)(l : fs.lookup f = some v)
    (h:∀u s',Inv X pins σ H s'->p9 v u->Q u s'):gh (gn X.prog X.w) A (getAttr (.ref a) f b) Q E s:=by
  obtain⟨mA,O,r,_,_,_⟩:=zc9 I.hok e
  obtain⟨u,hu,ru⟩:=A6.some_of (v:=v) (o:=mA f) (by rw[←l];exact r f)
  exact xi7 I.kIn O (c.get f) c.hd n hu (yt6 ru) (h u _ (I.tok _) ru)
theorem zo6 {Q : Value×List Value -> fZ -> Prop}(I : Inv X pins σ H s)(e : H a = some (.ins C dx fs))(c : Cls X.K C)(k : yx0 X.K C m g)(l : fs.lookup m = none)
    (h:Q (.ref g,[.ref a]) s):gh (gn X.prog X.w) A (getMethod (.ref a) m pl) Q E s:=by
  obtain⟨mA,O,r,_,_,_⟩:=zc9 I.hok e
  have hn:mA m=none:=A6.none_of (by rw[←l];exact r m)
  exact yz2 I.kIn O (c.get m) k.at_ k.fn hn h
theorem zs1 {Q : Unit -> fZ -> Prop}(I : Inv X pins σ H s)(e : H a = some (.ins C dx fs))(c : Cls X.K C)(n : E7 X.K C f)(hl : fs.length<1000)(ry : p9 y u)
    (h:∀s',Inv X pins σ (upd H a (.ins C dx (W1 f y fs))) s'->Q () s'):gh (gn X.prog X.w) A (setAttr (.ref a) f u) Q E s:=by
  obtain⟨mA,O,r,wi,_,ho⟩:=zc9 I.hok e
  have hz:(fs.map (·.1)).length<=ge:=by rw[aa,sizeLine_eq];lia
  refine xm1 I.kIn O c.sa c.po n.taker c.hd wi hz λh' O' sb=>h _ ?_
  have hd:∃o,h'.get? dx=some o:=let ⟨o,_,_,e',_⟩:=O'.ns;⟨o,e'⟩
  refine I.write (x:=a) (e:=dx) (by rw[e];exact True.intro) (.inr ho) (λb q hb z=>(sb.2 b hb).trans z) hd ?_
  refine⟨by rw[z6 O.ne];exact ho,?_,O.ne,O'.obj,_,O'.ns,λg=>?_,λg hg=>?_⟩
  . have:=zj6 f y fs;lia
  . show A6 ((W1 f y fs).lookup g) (if g = f then some u else mA g)
    rw[zj7]
    by_cases q:g=f
    . rw[if_pos q,if_pos q];exact ry
    . rw[if_neg q,if_neg q];exact r g
  . by_cases q : g = f
    . rw[q];exact(zh1 f y fs).1
    . refine(zh1 f y fs).2 g (wi g λz => hg ?_)
      show(if g=f then some u else mA g)=none
      rw[if_neg q];exact z
theorem Inv.made (I : Inv X pins σ H s) : Inv X pins σ (upd (upd H s.heap.objs.size (.own (s.heap.objs.size+1))) (s.heap.objs.size+1) (.ins C s.heap.objs.size []))
    { s with heap:=(s.heap.push W.emptyDict).push (W.instObj C s.heap.objs.size) }:=by
  have e1:(s.heap.push W.emptyDict).get? s.heap.objs.size=some W.emptyDict:=aB s.heap rfl
  have e2:((s.heap.push W.emptyDict).push (W.instObj C s.heap.objs.size)).get? (s.heap.objs.size+1)=some (W.instObj C s.heap.objs.size):=by
    have:=aB (s.heap.push W.emptyDict) (o:=W.instObj C s.heap.objs.size) rfl
    rwa [dv]at this
  have e3:(s.heap.push W.emptyDict).Ns s.heap.objs.size (λ_=>none):=⟨W.emptyDict,#[],_,e1,rfl,(λe he=>absurd he (by simp)),λ_=>rfl⟩
  have I1:=I.laid (a:=s.heap.objs.size) (o:=.own (s.heap.objs.size+1)) (h':=s.heap.push W.emptyDict) (t':=s.toks) (λb u q=>ao _ q) (ag _) ⟨_,e1⟩
  refine I1.laid (a:=s.heap.objs.size+1) (o:=.ins C s.heap.objs.size []) (t':=s.toks) (λb u q=>ao _ q) (eE (dv _ _)) ?_
  have ne:s.heap.objs.size≠s.heap.objs.size+1:=aU (cZ _)
  refine⟨by rw[z6 ne,z4],aP _,ne,e2,λ_=>none,(Heap.Ns1.of_empty e3).at λo q=>ao _ q,λ_=>True.intro,λy hy=>absurd rfl hy⟩
theorem xi2 {Q : Value -> fZ -> Prop}(hb : attributeBase e f env (eval e env) = eval e env)
    (h:gh (gn prog w) A (eval e env) (λo s₁=>gh (gn prog w) A (getAttr o f true) Q E s₁) E s):gh (gn prog w) A (eval (.Attribute e f pos) env) Q E s :=
  Attribute_any_ h (by rw[arm_eval_Attribute,hb])
end
def xy6 (K:W.Frag)(ta:TE)(f:Str):TE:=λσ H Q=>ta σ H λx H1=>∃a C dx fs v,x=.ref a/\H1 a=some (.ins C dx fs)/\Cls K C/\E7 K C f/\fs.lookup f=some v/\Q v H1
def xy2 (K:W.Frag)(ta tv:TE)(f:Str):TS:=λD σ H=>tv σ H λy H1=>ta σ H1 λx H2=>∃a C dx fs,x=.ref a/\H2 a=some (.ins C dx fs)/\Cls K C/\E7 K C f/\fs.length<1000 /\
  D.nx σ (upd H2 a (.ins C dx (W1 f y fs)))
def xw6 (X:Cx)(op:Operator)(rd:V->V->Hp->VK->Prop):Prop :=
  ∀(pins:List (Addr×Obj)) (s:fZ) (σ:St) (H:Hp) (x y:V) (u v:Value) (Q:VK),Inv X pins σ H s->p9 x u->p9 y v->rd x y H Q->gh (gn X.prog X.w) X.A (inplaceOp op u v) (EP X pins σ Q) X.xe s
def xl9 (K:W.Frag)(ta tv:TE)(rd:V->V->Hp->VK->Prop)(f:Str):TS:=λD σ H=>ta σ H λx H1=>∃a C dx fs v,x=.ref a/\H1 a=some (.ins C dx fs)/\Cls K C/\E7 K C f/\fs.lookup f=some v /\
  tv σ H1 λy H2=>rd v y H2 λz H3=>∃dx' fs',H3 a=some (.ins C dx' fs')/\fs'.length<1000/\D.nx σ (upd H3 a (.ins C dx' (W1 f z fs')))
section
variable {X:Cx}{o e value:Expr}{f:Str}{pos pos' tpos:Pos}{ta tv:TE}
theorem y9 (he:PE X e ta)(hb:attributeBase e f X.env (eval e X.env)=eval e X.env):PE X (.Attribute e f pos) (xy6 X.K ta f):=by
  intro pins s σ H Q I h
  refine xi2 hb (thn (he pins s σ H _ I h) λu s1 ⟨x,H1,I1,rx,a,C,dx,fs,v,ex,ea,c,n,l,q⟩=>?_)
  subst ex
  obtain rfl:u=Value.ref a:=rx
  exact zo5 I1 ea c n l λu' s2 I2 ru=>⟨v,H1,I2,ru,q⟩
theorem Z3 (ha:PE X o ta)(hv:PE X value tv)(hs:swapsWith value (some (.Attribute o f pos')) pos.line X.env=pure false):PS X (.Assign [.Attribute o f pos'] value pos) (xy2 X.K ta tv f):=by
  intro pins s σ H D I h
  refine plainObj_wpAny_Assign_Attribute (thn (hv pins s σ H _ I h) λu s1 ⟨y,H1,I1,ry,q⟩=>thn (ha pins s1 σ H1 _ I1 q) λov s2 ⟨x,H2,I2,rx,a,C,dx,fs,ex,ea,c,n,l,q2⟩=>?_) hs
  subst ex
  obtain rfl:ov=Value.ref a:=rx
  exact zs1 I2 ea c n l ry λs3 I3=>⟨σ,_,I3,q2⟩
theorem yv7 {rd:V->V->Hp->VK->Prop}(ha:PE X o ta)(hv:PE X value tv)(hop:xw6 X op rd):PS X (.AugAssign (.Attribute o f tpos) op value pos) (xl9 X.K ta tv rd f):=by
  intro pins s σ H D I h
  refine wpAny_AugAssign_AttributeAny (thn (ha pins s σ H _ I h) λov s1 ⟨x,H1,I1,rx,a,C,dx,fs,v,ex,ea,c,n,l,q⟩=>?_)
  subst ex
  obtain rfl:ov=Value.ref a:=rx
  refine zo5 I1 ea c n l λu s2 I2 ru=>thn (hv pins s2 σ H1 _ I2 q) λw3 s3 ⟨y,H2,I3,ry,q3⟩=>thn (hop pins s3 σ H2 v y u w3 _ I3 ru ry q3) λw4 s4 ⟨z,H3,I4,rz,dx',fs',ea',l',q4⟩=>?_
  exact zs1 I4 ea' c n l' rz λs5 I5=>⟨σ,_,I5,q4⟩
end
section
variable {X:Cx}{pins:List (Addr×Obj)}{σ:St}{H:Hp}{s:fZ}{A:gu}{E:Value->fZ->Prop}{Q:Value->fZ->Prop}{c:Value}{b:Bool}
inductive K6 (K:W.Frag) (H:Hp):V->Value->Prop where
  | non:K6 K H .non (.type "NoneType")
  | bl (x:Bool):K6 K H (.bl x) (.type "bool")
  | int (i:Int):K6 K H (.int i) (.type "int")
  | str (x:Str):K6 K H (.str x) (.type "str")
  | flt (x:UInt64):K6 K H (.flt x) (.type "float")
  | lst {a:Addr} {xs:List V} (e:H a=some (.lst xs)):K6 K H (.ref a) (.type "list")
  | frz {a:Addr} {o:Obj} {xs:List V} (e:H a=some (.frz o (.lst xs))):K6 K H (.ref a) (.type "list")
  | tup {a:Addr} {xs:List V} (e:H a=some (.tup xs)):K6 K H (.ref a) (.type "tuple")
  | dK {a:Addr} {kvs:List (Key×V)} (e:H a=some (.dK kvs)):K6 K H (.ref a) (.type "dict")
  | dT {a:Addr} {kvs:List (List Key×V)} (e:H a=some (.dT kvs)):K6 K H (.ref a) (.type "dict")
  | ins {a C dx : Addr} {fs : List (Str×V)} (e : H a = some (.ins C dx fs)) (cl : Cls K C) (ha : W.findIn K (.ref C) "__class__" = some (some (.builtin "object.__class__")))
      (hn:W.specialIn K (.builtin "object.__class__") "__get__"=some (some (.builtin "getset_descriptor.__get__"))) (htk:W.takesIn K (.builtin "object.__class__")=some true)
      (hm:W.mroIn K C (.type "object")=some true):K6 K H (.ref a) (.ref C)
theorem yu3 (I : Inv X pins σ H s)(rx : p9 x u)(ty : K6 X.K H x t)(e : W.kitOne X.K t c = some b)(h : ∀tk, Q (.bool b) { s with toks := tk }) :
    gh (gn X.prog X.w) A (call (.builtin "isinstance") [u,c]) Q E s:=by
  cases ty with
  | non=>cases (show u=Value.none from rx);exact W.kia_one W.kitx_none I.kIn True.intro e (λz=>nomatch z) h
  | bl y=>cases (show u=Value.bool y from rx);exact W.kia_one W.kitx_bool I.kIn True.intro e (λz=>nomatch z) h
  | int i=>obtain⟨t,q⟩:=(show ∃t,u=Value.int i t from rx);cases q;exact W.kia_one W.kitx_int I.kIn True.intro e (λz=>nomatch z) h
  | str y=>obtain⟨t,q⟩:=(show ∃t,u=Value.str y t from rx);cases q;exact W.kia_one W.kitx_str I.kIn True.intro e (λz=>nomatch z) h
  | flt y=>obtain⟨t,q⟩:=(show ∃t,u=Value.float y t from rx);cases q;exact W.kia_one W.kitx_float I.kIn True.intro e (λz=>nomatch z) h
  | @lst a xs ea =>
    cases (show u=Value.ref a from rx)
    obtain⟨_,_,n,_,h1⟩:=(show l7 X.prog X.w H s.heap a (.lst xs) from I.hok a _ ea)
    exact W.kia_one W.kitx_list I.kIn ⟨_,h1,rfl⟩ e (λz=>nomatch z) h
  | @frz a ob xs ea =>
    cases (show u=Value.ref a from rx)
    obtain⟨_,_,_,n,_,h1⟩:=(show l7 X.prog X.w H s.heap a (.frz ob (.lst xs)) from I.hok a _ ea)
    exact W.kia_one W.kitx_list I.kIn ⟨_,h1,rfl⟩ e (λz=>nomatch z) h
  | @tup a xs ea =>
    cases (show u=Value.ref a from rx)
    obtain⟨_,_,_,p⟩:=(show l7 X.prog X.w H s.heap a (.tup xs) from I.hok a _ ea)
    obtain⟨o,h1,h2,_⟩:=p
    exact W.kia_one W.kitx_tuple I.kIn ⟨o,h1,h2⟩ e (λz=>nomatch z) h
  | @dK a kvs ea =>
    cases (show u=Value.ref a from rx)
    obtain⟨_,_,vs,_,p⟩:=(show l7 X.prog X.w H s.heap a (.dK kvs) from I.hok a _ ea)
    obtain⟨o,es,ep,h1,h2,_⟩:=p
    exact W.kia_one W.kitx_dict I.kIn ⟨o,h1,h2.1⟩ e (λz=>nomatch z) h
  | @dT a kvs ea =>
    cases (show u=Value.ref a from rx)
    obtain⟨_,_,xs,_,o,es,ep,h1,h2,_⟩:=(show l7 X.prog X.w H s.heap a (.dT kvs) from I.hok a _ ea)
    exact W.kia_one W.kitx_dict I.kIn ⟨o,h1,h2.1⟩ e (λz=>nomatch z) h
  | @ins a C dx fs ea cl ha hn htk hm =>
    cases (show u=Value.ref a from rx)
    obtain⟨mA,O,_⟩:=zc9 I.hok ea
    obtain⟨od,J,_⟩:=O.look
    exact W.kia_one (W.kitx_own (cl.get _) cl.hd ha hn htk hm) I.kIn J e (λz=>nomatch z) h
end
structure Z8 (k:Nat) (A:gu):Prop where
  hd:A.handled=none
  dp:A.depth+3*k+5<recursionLimit
  un:A.units+16*k+200<cLine
theorem Z8.mono (r:Z8 k A)(h:j<=k):Z8 j A:=⟨r.hd,by have:=r.dp;lia,by have:=r.un;lia⟩
theorem Z8.deeper {A:gu}(r:Z8 (k+1) A)(env:Env):Z8 k (A.deeper env) :=
  ⟨r.hd,by have:=r.dp;show A.depth+1+3*k+5<_;lia,by have:=r.un;show A.units+3+16*k+200<_;lia⟩
theorem yl2 {A:gu}:(A.under (.builtin "type.__call__" ⟨.ref C::us,kw⟩)).depth=A.depth+1:=by
  first|rfl|simp[Around.under,Code.weight,Code.isCreation,Code.isGuard,Code.isCaller,Code.frames,Code.isFrame,guardIds]
theorem yl3 {A:gu}:(A.under (.builtin "type.__call__" ⟨.ref C::us,kw⟩)).units=A.units+1:=by
  first|rfl|simp[Around.under,Code.cUnits,Code.frames,Code.isFrame]
theorem Z8.make {A:gu}(r:Z8 (k+1) A)(C:Addr)(us:List Value)(kw:List (Str×Value)):Z8 k (A.under (.builtin "type.__call__" ⟨.ref C::us,kw⟩)) :=
  ⟨r.hd,by have:=r.dp;rw[yl2];lia,by have:=r.un;rw[yl3];lia⟩
theorem Z8.depth {A:gu}(r:Z8 k A):A.depth<recursionLimit:=by have:=r.dp;lia
theorem Z8.units {A:gu}(r:Z8 k A):A.units+64<cLine:=by have:=r.un;lia
def xs9:TA:=λ_ H Q=>Q [] H
def xv6 (ta:TE)(tr:TA):TA:=λσ H Q=>ta σ H λx H1=>tr σ H1 λxs H2=>Q (x::xs) H2
section
variable {X:Cx}{e:Expr}{es:List Expr}{te:TE}{t:TA}{pos:Pos}
theorem z5:PA X [] xs9:=λ_ _ _ _ H Q I h=>Calls.spliced_nil ⟨[],H,I,.nil,h⟩
theorem z0 (ha:PE X e te)(hr:PA X es t)(hs:gl (e::es) X.env=(false,eval e X.env)::gl es X.env:=by rfl):PA X (e::es) (xv6 te t):=by
  intro pos pins s σ H Q I h
  rw[hs]
  show gh _ _ (spliced ((false,eval e X.env)::backTo pos (gl es X.env))) _ _ s
  refine Calls.spliced_cons (thn (ha pins s σ H _ I h) λu s1 ⟨x,H1,I1,r1,q1⟩=>?_)
  exact thn (hr pos pins s1 σ H1 _ I1 q1) λus s2 ⟨xs,H2,I2,r2,q2⟩=>⟨x::xs,H2,I2,.cons r1 r2,q2⟩
def xz3 (t:TA):TE:=λσ H Q=>t σ H λxs H1=>xs.length<=ge/\∀p,H1 p=none->Q (.ref p) (upd H1 p (.tup xs))
def xz0 (t:TA):TE:=λσ H Q=>t σ H λxs H1=>xs.length<=ge/\∀p,H1 p=none->Q (.ref p) (upd H1 p (.lst xs))
theorem C3 {x1}(h:PA X es t):PE X (.Tuple es x1 pos) (xz3 t):=by
  intro pins s σ H Q I hq
  refine wpAny_Tuple_spliced (thn (h pos pins s σ H _ I hq) λus s1 ⟨xs,H1,I1,r,z,q⟩=>⟨by rw[←r.length];exact z,?_⟩)
  have hf:H1 s1.heap.objs.size=none:=I1.hok.fresh (ag _)
  refine⟨.ref s1.heap.objs.size,upd H1 s1.heap.objs.size (.tup xs),I1.laid (t':=s1.toks) (λb u e=>ao _ e) (ag _) ?_,rfl,q _ hf⟩
  exact⟨z,us,r,⟨_,aB _ rfl,rfl,_,rfl,rfl⟩⟩
theorem c0 (h:PA X es t):PE X (.List es pos) (xz0 t):=by
  intro pins s σ H Q I hq
  refine wpAny_List_spliced (thn (h pos pins s σ H _ I hq) λus s1 ⟨xs,H1,I1,r,z,q⟩=>⟨by rw[←r.length];exact z,?_⟩)
  have hf:H1 s1.heap.objs.size=none:=I1.hok.fresh (ag _)
  refine⟨.ref s1.heap.objs.size,upd H1 s1.heap.objs.size (.lst xs),I1.laid (t':=s1.toks) (λb u e=>ao _ e) (ag _) ?_,rfl,q _ hf⟩
  exact⟨z,us,0,r,aB _ rfl⟩
end
abbrev Sp:=List V->Hp->VK->XK->Prop
abbrev CXT:=List Env->Hp->fZ->XK->Value->fZ->Prop
structure yj4 (P:gf) (w:gq) (K:W.Frag) (mg:Str->Option Value) (base:Heap) (A:gu) (outer:List Env) (s:fZ) (H:Hp):Prop where
  frames:A.frames=some outer
  mod:Mod K mg base
  bs:∀b o,base.get? b=some o->s.heap.get? b=some o/\H b=none
  bsz:base.objs.size<=s.heap.objs.size
  funs:s.heap.FunFrames base outer
  frf:∀b∈frs outer,H b=none
  hok:HOk P w H s.heap
  bare:AllBare s.gens
def CE (outer:List Env)(P:gf)(w:gq)(H:Hp)(s:fZ)(Q:VK)(u:Value)(s':fZ):Prop :=
  ∃v H',s'.os=s.os/\AllBare s'.gens/\Un (frs outer) [] H H' s.heap s'.heap/\HOk P w H' s'.heap/\p9 v u/\Q v H'
def CR (CX:CXT)(outer:List Env)(P:gf)(w:gq)(H:Hp)(s:fZ)(Q:VK)(E:XK)(r:Result)(s':fZ):Prop :=
  match r with
  | .ok (.ret u)=>CE outer P w H s Q u s'
  | .ok _=>False
  | .error e=>CX outer H s E e s'
structure u8 (P:gf) (w:gq) (K:W.Frag) (mg:Str->Option Value) (base:Heap) (CX:CXT) (k:Nat) (f:Addr) (fd:gB) (ps:List Str) (sp:Sp):Prop where
  len:∀vs H Q E,sp vs H Q E->vs.length=ps.length
  run:∀(A:gu) (outer:List Env) (s:fZ) (H:Hp) (args:Args) (us:List Value) (vs:List V) (Q:VK) (E:XK),Z8 k A->yj4 P w K mg base A outer s H->BindsTo s fd args (ps.zip us)->p7 vs us->sp vs H Q E ->
    codeAny (gn P w) A (.call (.ref f) args) (CR CX outer P w H s Q E) s
theorem u8.imp {K : W.Frag}{mg : Str -> Option Value}{k : Nat}{f : Addr}{fd : gB}{ps : List Str}{sp sp' : Sp}(F : u8 P w K mg base CX k f fd ps sp)
    (h:∀vs H Q E,sp' vs H Q E->sp vs H Q E):u8 P w K mg base CX k f fd ps sp' :=
  ⟨λvs H Q E q=>F.len vs H Q E (h _ _ _ _ q),λA outer s H args us vs Q E hr he hb hv hs=>F.run A outer s H args us vs Q E hr he hb hv (h _ _ _ _ hs)⟩
theorem yj4.make {K : W.Frag}{mg : Str -> Option Value}{A : gu}{s : fZ}{H : Hp}(e : yj4 P w K mg base A outer s H)(C : Addr)(us : List Value)(kw : List (Str×Value)) :
    yj4 P w K mg base (A.under (.builtin "type.__call__" ⟨.ref C::us,kw⟩)) outer s H:=⟨by first|exact e.frames|(simpa[Around.under,Code.envs,Code.isFrame,pushEnvs] using e.frames),e.mod,e.bs,e.bsz,e.funs,e.frf,e.hok,e.bare⟩
section
variable {X:Cx}{pins:List (Addr×Obj)}{σ:St}{H:Hp}{s s':fZ}
theorem Inv.env0 (I:Inv X pins σ H s):yj4 X.prog X.w X.K X.mg X.base X.A X.stack s H :=
  ⟨I.ok.frames,I.ok.mod,I.bs,aO I.ok.bsz I.sz,I.stack,I.stkFree,I.hok,I.bare⟩
theorem Inv.after (I:Inv X pins σ H s)(h:CE X.stack X.prog X.w H s Q u s'):EP X pins σ Q u s':=by
  obtain⟨v,H',os,bare,un,hok,r,q⟩:=h
  obtain⟨hh,g,d,t,os'⟩:=s'
  obtain rfl:os'=s.os:=os
  exact⟨v,H',I.call (h':=hh) (g':=g) (d':=d) (t':=t) (ch:=[]) un hok bare (λb z=>absurd z (by simp)),r,q⟩
end
def zw9 (sp:Sp)(dvs:List V)(E:XK)(t:TA):TE:=λσ H Q=>t σ H λvs H1=>sp (vs++dvs) H1 Q E
def yi8 (C:Addr)(m:Str)(sp:Sp)(dvs:List V)(E:XK)(ta:TE)(t:TA):TE:=λσ H Q=>ta σ H λx H1=>∃a dx fs,x=.ref a/\H1 a=some (.ins C dx fs)/\fs.lookup m=none /\
  t σ H1 λvs H2=>sp (x::(vs++dvs)) H2 Q E
def xh0 (C:Addr)(sp:Sp)(dvs:List V)(E:XK)(t:TA):TE:=λσ H Q=>t σ H λvs H1=>∀x dx,H1 x=none->H1 dx=none->dx≠x ->
  sp (.ref x::(vs++dvs)) (upd (upd H1 dx (.own x)) x (.ins C dx [])) (λv H2=>v=.non/\Q (.ref x) H2) E
def W3 (K:W.Frag)(fd:gB)(ps:List Str)(ds:List Value):Prop :=
  ∀(s:fZ) (us:List Value),K.In s.heap->(us++ds).length=ps.length->BindsTo s fd ⟨us,[]⟩ (ps.zip (us++ds))
theorem W3.all {K:W.Frag}{ps:List Str}(h:∀us:List Value,us.length=ps.length->bindArgs fd ⟨us,[]⟩=pure (ps.zip us)):W3 K fd ps []:=λs us _ hl=>by
  rw[bF]at hl ⊢
  exact .of_eq (h us hl)
def E9 (CX:CXT)(X:Cx)(E:XK):Prop:=∀(pins:List (Addr×Obj)) (σ:St) (H:Hp) (s:fZ) (e:Value) (s':fZ),Inv X pins σ H s->CX X.stack H s E e s'->X.xe e s'
section
variable {X:Cx}{CX:CXT}{k:Nat}{f C:Addr}{fd:gB}{ps:List Str}{sp:Sp}{dvs:List V}{ds:List Value}{E:XK}{x m:Str}{p pos apos:Pos}{e o:Expr}{es:List Expr}{ta:TE}{t:TA}
theorem ya8 {σ : St}{us : List Value}{vs : List V}(F : u8 X.prog X.w X.K X.mg X.base CX k f fd ps sp)(hr : Z8 k X.A)(hb : W3 X.K fd ps ds)(hd : p7 dvs ds)(hx : E9 CX X E)
    (I:Inv X pins σ H s) (r:p7 vs us) (h:sp (vs++dvs) H Q E):gh (gn X.prog X.w) X.A (call (.ref f) us) (EP X pins σ Q) X.xe s:=by
  have r2:p7 (vs++dvs) (us++ds):=r.append hd
  have hl:(us++ds).length=ps.length:=by rw[←r2.length];exact F.len _ _ _ _ h
  refine wpAny_call (codeAny_mono (F.run X.A X.stack s H ⟨us,[]⟩ (us++ds) (vs++dvs) Q E hr I.env0 (hb s us I.kIn hl) r2 h) λr s' hq=>?_)
  cases r with
  | error e=>exact hx pins σ H s e s' I hq
  | ok fl =>
    cases fl with
    | ret u=>exact I.after hq
    | next=>exact False.elim hq
    | brk=>exact False.elim hq
    | cont=>exact False.elim hq
theorem zm3 (F : u8 X.prog X.w X.K X.mg X.base CX k f fd ps sp)(hr : Z8 k X.A)(hg : Gl X x)(hm : X.mg x = some (.ref f))(hk : W.keepIn X.K (.ref f) = true)(hb : W3 X.K fd ps ds)(hd : p7 dvs ds)(hx : E9 CX X E)
    (ha:PA X (e::es) t) (hdb:(x==("__debug__":Str))=false:=by decide) (he:gl (e::es) X.env=(false,eval e X.env)::gl es X.env:=by rfl) (hpl:(backTo pos (gl es X.env)).any (·.1)=false:=by rfl) :
    PE X (.Call (.Name x p) (e::es) [] pos) (zw9 sp dvs E t):=by
  intro pins s σ H Q I h
  refine wpAny_Call_Name_kw (K9 I hg hm ?_ hdb)
  refine W.callWith_K (h₀:=X.base) I.ok.mod.kin hk (thn (ha pos pins s σ H _ I h) λus s1 ⟨vs,H1,I1,r,q⟩=>⟨I1.kIn,?_⟩) he hpl
  exact ya8 F hr hb hd hx I1 r q
theorem yq5 {pl : Sem Bool}(he : PE X o ta)(c : Cls X.K C)(hm : yx0 X.K C m f)(F : u8 X.prog X.w X.K X.mg X.base CX k f fd ps sp)(hr : Z8 k X.A)(hb : W3 X.K fd ps ds)(hd : p7 dvs ds)(hx : E9 CX X E)(ha : PA X (e::es) t)
    (hst:gl (e::es) X.env=(false,eval e X.env)::gl es X.env:=by rfl) (hpl:(backTo pos (gl es X.env)).any (·.1)=false:=by rfl)
    (ht : eval (.Call (.Attribute o m apos) (e::es) [] pos) X.env = (do
      let ov ←eval o X.env
      standAt apos.atName
      let (f,first) ←holding [ov] (getMethod ov m pl)
      callWith pos f first (backTo pos (gl (e::es) X.env)) (backToKw pos (gA [] X.env))):=by rfl) :
    PE X (.Call (.Attribute o m apos) (e::es) [] pos) (yi8 C m sp dvs E ta t):=by
  intro pins s σ H Q I h
  refine W.methodCall_KW (pl:=pl) (thn (he pins s σ H _ I h) λu s1 ⟨x,H1,I1,rx,a,dx,fs,ex,ea,l,q⟩=>?_) ht
  subst ex
  obtain rfl:u=Value.ref a:=rx
  refine zo6 I1 ea c hm l ?_
  refine W.callWith_K (first:=[.ref a]) (h₀:=X.base) I.ok.mod.kin hm.kp (thn (ha pos pins s1 σ H1 _ I1 q) λus s2 ⟨vs,H2,I2,r,q2⟩=>⟨I2.kIn,?_⟩) hst hpl
  exact ya8 (us:=.ref a::us) (vs:=.ref a::vs) F hr hb hd hx I2 (.cons rfl r) q2
theorem xd6 {pl : Sem Bool}(he : PE X o ta)(c : Cls X.K C)(hm : yx0 X.K C m f)(F : u8 X.prog X.w X.K X.mg X.base CX k f fd ps sp)(hr : Z8 k X.A)(hb : W3 X.K fd ps ds)(hd : p7 dvs ds)(hx : E9 CX X E)
    (ht : eval (.Call (.Attribute o m apos) [] [] pos) X.env = (do
      let ov ←eval o X.env
      standAt apos.atName
      let (f,first) ←holding [ov] (getMethod ov m pl)
      callWith pos f first (backTo pos (gl [] X.env)) (backToKw pos (gA [] X.env))):=by rfl) :
    PE X (.Call (.Attribute o m apos) [] [] pos) (yi8 C m sp dvs E ta xs9):=by
  intro pins s σ H Q I h
  refine W.methodCall_KW (pl:=pl) (thn (he pins s σ H _ I h) λu s1 ⟨x,H1,I1,rx,a,dx,fs,ex,ea,l,q⟩=>?_) ht
  subst ex
  obtain rfl:u=Value.ref a:=rx
  refine zo6 I1 ea c hm l ?_
  exact W.callWith_K0 (first:=[.ref a]) I1.kIn hm.kp (ya8 (us:=[.ref a]) (vs:=[.ref a]) F hr hb hd hx I1 (.cons rfl .nil) q)
structure Mk (K:W.Frag) (C f:Addr):Prop where
  makes:W.makesIn K C=true
  init:W.findIn K (.ref C) "__init__"=some (some (.ref f))
  fn:W.isFn K (.ref f)=true
  kp:W.keepIn K (.ref C)=true
theorem xe8 {σ : St}{us : List Value}{vs : List V}(M : Mk X.K C f)(F : u8 X.prog X.w X.K X.mg X.base CX k f fd ps sp)(hr : Z8 (k+1) X.A)(hb : W3 X.K fd ps ds)(hd : p7 dvs ds)
    (hx:E9 CX X E) (I:Inv X pins σ H s) (r:p7 vs us)
    (h:∀x dx,H x=none->H dx=none->dx≠x->sp (.ref x::(vs++dvs)) (upd (upd H dx (.own x)) x (.ins C dx [])) (λv H2=>v=.non/\Q (.ref x) H2) E) :
    gh (gn X.prog X.w) X.A (call (.ref C) us) (EP X pins σ Q) X.xe s:=by
  have hq:=h (s.heap.objs.size+1) s.heap.objs.size (I.hok.fresh (bU _)) (I.hok.fresh (ag _)) (aU (cZ _))
  have I2:=Inv.made (C:=C) I
  have r2:p7 (V.ref (s.heap.objs.size+1)::(vs++dvs)) (Value.ref (s.heap.objs.size+1)::(us++ds)):=.cons rfl (r.append hd)
  have hl:(Value.ref (s.heap.objs.size+1)::us++ds).length=ps.length:=by
    have e:=r2.length
    rw[F.len _ _ _ _ hq]at e
    exact e.symm
  refine wpAny_call (xc1 (f := f) I.kIn M.makes M.init (beq_iff_eq.mp M.fn) (codeAny_mono (F.run _ X.stack _ _ ⟨Value.ref (s.heap.objs.size+1)::us, []⟩ (Value.ref (s.heap.objs.size+1)::(us ++ ds)) _ _ E (hr.make C us [])
    (I2.env0.make C us []) (hb _ (Value.ref (s.heap.objs.size+1)::us) I2.kIn hl) r2 hq) λr s' hq'=>?_))
  cases r with
  | error e=>exact hx pins σ _ _ e s' I2 hq'
  | ok fl =>
    cases fl with
    | ret u =>
      obtain⟨v,H',I3,rv,ev,q3⟩:=I2.after hq'
      subst ev
      exact⟨rv,⟨V.ref (s.heap.objs.size+1),H',I3,rfl,q3⟩⟩
    | next=>exact False.elim hq'
    | brk=>exact False.elim hq'
    | cont=>exact False.elim hq'
theorem yq4 (M : Mk X.K C f)(F : u8 X.prog X.w X.K X.mg X.base CX k f fd ps sp)(hr : Z8 (k+1) X.A)(hg : Gl X x)(hm : X.mg x = some (.ref C))(hb : W3 X.K fd ps ds)(hd : p7 dvs ds)(hx : E9 CX X E)
    (ha:PA X (e::es) t) (hdb:(x==("__debug__":Str))=false:=by decide) (he:gl (e::es) X.env=(false,eval e X.env)::gl es X.env:=by rfl) (hpl:(backTo pos (gl es X.env)).any (·.1)=false:=by rfl) :
    PE X (.Call (.Name x p) (e::es) [] pos) (xh0 C sp dvs E t):=by
  intro pins s σ H Q I h
  refine wpAny_Call_Name_kw (K9 I hg hm ?_ hdb)
  refine W.callWith_K (h₀:=X.base) I.ok.mod.kin M.kp (thn (ha pos pins s σ H _ I h) λus s1 ⟨vs,H1,I1,r,q⟩=>⟨I1.kIn,?_⟩) he hpl
  exact xe8 M F hr hb hd hx I1 r q
end
section
variable {X:Cx}{CX:CXT}{k:Nat}{f C:Addr}{fd:gB}{ps ks:List Str}{sp:Sp}{E:XK}{x m:Str}{p pos apos kpos:Pos}{e o:Expr}{es:List Expr}{kws:List Keyword}{te ta:TE}{t tk:TA}{nm:Option Str}
variable {g:List Value->List Value->List Value}{gV:List V->List V->List V}
end
structure x9 (N P:List Str) (sc:Scope):Prop where
  kind:sc.kind=.function
  co:sc.isCoroutine=false
  gen:sc.isGenerator=false
  nd:N.Nodup
  pre:N.take P.length=P
  par:∀x∈P,sc.names.lookup x=some .local∨sc.names.lookup x=some .cell
  nofree:∀y∈sc.names,y.2≠.free
theorem zv7 {kindOf : Str -> Option NameKind} : ∀{binds : List (Str×Value)} {m : Str -> Option Value}, (∀v, (x, v) ∉ binds) -> bindL kindOf binds m x = m x
  | [],_,_=>rfl
  | (n,v)::r,m,h=>by
    unfold bindL
    rw[zv7 λw hw=>h w (av _ hw)]
    split
    . have : x ≠ n := by rintro rfl; exact h v ax
      simp[this]
    . rfl
theorem zv5 {kindOf : Str -> Option NameKind} : ∀{binds : List (Str×Value)} {m : Str -> Option Value}, (∀v, (x, v) ∉ binds) -> bindC kindOf binds m x = m x
  | [],_,_=>rfl
  | (n,v)::r,m,h=>by
    unfold bindC
    rw[zv5 λw hw=>h w (av _ hw)]
    split
    . rfl
    . have : x ≠ n := by rintro rfl; exact h v ax
      simp[this]
theorem zv6 {kindOf:Str->Option NameKind}:∀{P:List Str} {vs:List Value} {i:Nat} {m:Str->Option Value},P.Nodup->P[i]?=some x->vs[i]?=some v->kindOf x=some .local ->
    bindL kindOf (P.zip vs) m x=some v
  | [],_,_,_,_,h,_,_=>by simp at h
  | _::_,[],_,_,_,_,h,_=>by simp at h
  | p::P,w::vs,0,m,nd,h1,h2,hk=>by
    simp at h1 h2;subst h1;subst h2
    show bindL kindOf ((p,w)::P.zip vs) m p=_
    unfold bindL
    rw[zv7 λv hv=>(aV.mp nd).1 (eR hv).1,if_pos hk]
    simp
  | p::P,w::vs,i+1,m,nd,h1,h2,hk=>by
    show bindL kindOf ((p,w)::P.zip vs) m x=_
    unfold bindL
    exact zv6 (i:=i) (aV.mp nd).2 (by simpa using h1) (by simpa using h2) hk
theorem zv4 {kindOf:Str->Option NameKind}:∀{P:List Str} {vs:List Value} {i:Nat} {m:Str->Option Value},P.Nodup->P[i]?=some x->vs[i]?=some v->kindOf x≠some .local ->
    bindC kindOf (P.zip vs) m x=some v
  | [],_,_,_,_,h,_,_=>by simp at h
  | _::_,[],_,_,_,_,h,_=>by simp at h
  | p::P,w::vs,0,m,nd,h1,h2,hk=>by
    simp at h1 h2;subst h1;subst h2
    show bindC kindOf ((p,w)::P.zip vs) m p=_
    unfold bindC
    rw[zv5 λv hv=>(aV.mp nd).1 (eR hv).1,if_neg hk]
    simp
  | p::P,w::vs,i+1,m,nd,h1,h2,hk=>by
    show bindC kindOf ((p,w)::P.zip vs) m x=_
    unfold bindC
    exact zv4 (i:=i) (aV.mp nd).2 (by simpa using h1) (by simpa using h2) hk
def start (N:List Str)(vs:List V):St:=vs.map some++List.replicate (N.length-vs.length) none
def X8 (CX:CXT)(P:gf)(w:gq)(K:W.Frag)(mg:Str->Option Value)(base:Heap)(N:List Str)(qual:Str)(scope:Scope)(f:Addr)(cd:Value)(A:gu)(outer:List Env)(s:fZ)(H:Hp)(E:XK):Cx where
  prog:=P
  w:=w
  K:=K
  mg:=mg
  base:=base
  A:=A.deeper (envOfC qual scope s.heap.objs.size f cd)
  N:=N
  s₀:=s
  H₀:=H
  env:=envOfC qual scope s.heap.objs.size f cd
  outer:=outer
  stack:=envOfC qual scope s.heap.objs.size f cd::outer
  ex:=[]
  calm:=true
  fn:=λ_=>true
  pn:=[]
  xe:=λe s'=>gh (gn P w) (A.deeper (envOfC qual scope s.heap.objs.size f cd)) (leaving (envOfC qual scope s.heap.objs.size f cd) e) (λ_ s''=>CX outer H s E e s'') (λe' s''=>CX outer H s E e' s'') s'
theorem yd0 {sc:Scope}(h:sc.names.lookup x=some .cell):∃c,(cellsFrom n sc.names []).lookup x=some c:=by
  have q:=W.cellsFrom_some sc.names n [] (.inl h)
  exact dJ.mp q
theorem yu0 {K : W.Frag}{mg : Str -> Option Value}{N ps : List Str}{qual : Str}{scope : Scope}{f : Addr}{cd : Value}{A : gu}{outer : List Env}{s s1 : fZ}{H : Hp}{E : XK}{us : List Value}{vs : List V}
    (S:x9 N ps scope) (hd:A.handled=none) (e0:yj4 P w K mg base A outer s H) (hl:vs.length=ps.length) (r:p7 vs us)
    (x:InCallC s s.heap.objs.size (bindL (envOfC qual scope s.heap.objs.size f cd).kindOf (ps.zip us) λ_=>none) (cellsFrom (s.heap.objs.size+1) scope.names []) (bindC (envOfC qual scope s.heap.objs.size f cd).kindOf (ps.zip us) λ_=>none) s1) :
    Inv (X8 CX P w K mg base N qual scope f cd A outer s H E) [] (start N vs) H s1:=by
  have hpl:ps.length<=N.length:=by have:=congrArg List.length S.pre;rw[bo]at this;lia
  obtain⟨h1,tk,rfl,hk⟩:=x.done
  have noA:∀b:Addr,b∉(X8 CX P w K mg base N qual scope f cd A outer s H E).ex:=λb z=>absurd (show b∈([]:List Addr) from z) (by simp)
  refine⟨⟨e0.mod,S.kind,rfl,rfl,ag _,λy z c h1 h2=>?_,λy hy=>?_,λy c _ h=>?_,λ_=>hd,Around.frames_deeper e0.frames,.inr ⟨rfl,rfl⟩,λb z=>absurd z (noA b),e0.bs,e0.bsz,λb _ _=>noA b,λb z=>absurd z (noA b),e0.funs,e0.frf⟩,
    rfl,e0.bare,Un.kept hk,⟨_,x.toInCall.ns,λi y v h1 h2 h3=>?_⟩,λy c h=>⟨_,x.cell y c h⟩,e0.hok.fresh (ag _),λy c h=>?_,λp hp=>absurd (show p∈([]:List (Addr×Obj)) from hp) (by simp),e0.hok.kept hk,?_⟩
  . exact name_of_addr x.apart (PySem.mem_of_lookup h1) (PySem.mem_of_lookup h2)
  . have hy : scope.names.lookup y = some .cell∨scope.names.lookup y = some .free := hy
    rcases hy with hy|hy
    . exact yd0 hy
    . exact absurd rfl (S.nofree _ (PySem.mem_of_lookup hy))
  . exact bA (x.above y c (PySem.mem_of_lookup h))
  . have hi:i<vs.length:=by
      unfold start at h2
      by_cases hi:i<vs.length
      . exact hi
      . rw[aX (by simpa using hi)]at h2
        rw[cF]at h2
        split at h2 <;> cases h2
    have ha:vs[i]?=some v:=by
      unfold start at h2
      rw[aN (by simpa using hi),af]at h2
      cases e:vs[i]? with
      | none=>rw[e]at h2;cases h2
      | some a=>rw[e]at h2;cases h2;rfl
    obtain⟨u,hu,rv⟩:=r.get ha
    have hp:ps[i]?=some y:=by
      rw[←S.pre,cq (by lia)];exact h1
    have ndP:ps.Nodup:=by rw[←S.pre];exact S.nd.sublist (cz _ _)
    refine⟨u,rv,?_⟩
    rcases S.par y (aq hp) with k|k
    . exact .inl ⟨k,zv6 ndP hp hu k⟩
    . obtain⟨c, e⟩ := yd0 (n := s.heap.objs.size+1) k
      refine .inr ⟨.inl k,c,e,?_⟩
      have q:=x.cell y c e
      rw[zv4 ndP hp hu (by show scope.names.lookup y≠_;rw[k];decide)]at q
      exact q
  . exact e0.hok.fresh (bA (x.above y c (PySem.mem_of_lookup h)))
  . unfold start
    show _=N.length
    rw[ah,aa,ck]
    lia
theorem yz1 {K : W.Frag}{mg : Str -> Option Value}{f : Addr}{name qual : Str}{params : Arguments}{body : List Stmt}{scope : Scope}{dV kV doc pm cdv ct oc : Value}{an od : Option Addr}
    {osl:Array (Option Value)} {N ps:List Str} {sp:Sp} (lk:K.lookup f=some ⟨oc,od,.func (W.fnOf name qual params body scope dV kV doc pm an cdv ct),osl⟩) (hcd:W.codeIn K cdv qual=true) (S:x9 N ps scope)
    (len:∀vs H Q E,sp vs H Q E->vs.length=ps.length)
    (hbody:∀(A:gu) (outer:List Env) (s:fZ) (H:Hp) (vs:List V) (Q:VK) (E:XK),Z8 k (A.deeper (envOfC qual scope s.heap.objs.size f cdv))->sp vs H Q E ->
      ∃t,PSs (X8 CX P w K mg base N qual scope f cdv A outer s H E) body t/\t { nx:=λ_ H'=>Q .non H',rt:=Q } (start N vs) H) :
    u8 P w K mg base CX (k+1) f (W.fnOf name qual params body scope dV kV doc pm an cdv ct) ps sp:=by
  refine⟨len,λA outer s H args us vs Q E hr e0 hb r hsp=>?_⟩
  have hl:=len _ _ _ _ hsp
  have KX:K.In s.heap:=e0.mod.kin.keeps λb o e=>(e0.bs b o e).1
  have lim:s.heap.NoLimit:=e0.mod.nolimit.keeps λb o e=>(e0.bs b o e).1
  have hkind:∀y∈ps.zip us,scope.names.lookup y.1=some .local∨(scope.names.lookup y.1=some .cell/\((cellsFrom (s.heap.objs.size+1) scope.names []).lookup y.1).isSome=true):=λ⟨n,v⟩ hy=>by
    rcases S.par n (eR hy).1 with q|q
    . exact .inl q
    . exact .inr ⟨q,W.cellsFrom_some _ _ _ (.inl q)⟩
  refine codeAny_call_function hr.depth (KX _ _ lk) rfl S.co S.gen rfl (W.codeRec_of KX hcd) (hb _ _ _ _ ?_)
  refine wpAny_newFunctionEnv_cells S.kind hkind λenv he s1 x=>?_
  subst he
  refine⟨lim.keeps x.toInCall.keep,codeAny_func ?_⟩
  obtain⟨t,ht,hq⟩:=hbody A outer s H vs Q E (hr.deeper _) hsp
  have I:Inv (X8 CX P w K mg base N qual scope f cdv A outer s H E) [] (start N vs) H s1:=yu0 S hr.hd e0 hl r x
  refine gw (ht [] s1 (start N vs) H _ I hq) (λfl s' hs=>?_) λe s' hs=>hs
  have fin:∀{σ':St} {H':Hp} {v:V} {u:Value},Inv (X8 CX P w K mg base N qual scope f cdv A outer s H E) [] σ' H' s'->p9 v u->Q v H'->CE outer P w H s Q u s' :=
    λ{σ' H' v u} J rv q=>⟨v,H',J.os,J.bare,J.base,J.hok,rv,q⟩
  cases fl with
  | ret u =>
    obtain⟨v,σ',H',J,rv,q⟩:=hs
    exact fin J rv q
  | next =>
    obtain⟨σ',H',J,q⟩:=hs
    exact fin (v:=V.non) (u:=Value.none) J rfl q
  | brk =>
    obtain⟨_,_,_,q⟩:=hs
    exact False.elim q
  | cont =>
    obtain⟨_,_,_,q⟩:=hs
    exact False.elim q
section
variable {X:Cx}{x:Str}{p pos:Pos}{e:Expr}{es:List Expr}{t:TA}{id T:String}{r:List V->Hp->VK->Prop}
def tCB (r:List V->Hp->VK->Prop)(t:TA):TE:=λσ H Q=>t σ H λvs H1=>r vs H1 Q
theorem v9 (hc : T9 X (.builtin id) r)(hg : Gl X x)(hm : X.mg x = none)(hv : gz x = some (.builtin id))(ha : PA X (e::es) t)(hn : x ≠ "__name__" := by decide)(hdb : (x==("__debug__" : Str)) = false := by decide)
    (he:gl (e::es) X.env=(false,eval e X.env)::gl es X.env:=by rfl) (hpl:(backTo pos (gl es X.env)).any (·.1)=false:=by rfl):PE X (.Call (.Name x p) (e::es) [] pos) (tCB r t):=by
  intro pins s σ H Q I h
  refine wpAny_Call_Name_kw (zh3 I hg hm hv ?_ hn hdb)
  exact PyProof.Rows.callWith_builtin1 (thn (ha pos pins s σ H _ I h) λus s1 ⟨vs,H1,I1,r1,q1⟩=>hc pins s1 σ H1 vs us Q I1 r1 q1) he hpl
theorem u5 (hc : T9 X (.type T) r)(hg : Gl X x)(hm : X.mg x = none)(hv : gz x = some (.type T))(ha : PA X (e::es) t)(hn : x ≠ "__name__" := by decide)(hdb : (x==("__debug__" : Str)) = false := by decide)
    (he:gl (e::es) X.env=(false,eval e X.env)::gl es X.env:=by rfl) (hpl:(backTo pos (gl es X.env)).any (·.1)=false:=by rfl):PE X (.Call (.Name x p) (e::es) [] pos) (tCB r t):=by
  intro pins s σ H Q I h
  refine wpAny_Call_Name_kw (zh3 I hg hm hv ?_ hn hdb)
  exact PyProof.Rows.callWith_type1 (thn (ha pos pins s σ H _ I h) λus s1 ⟨vs,H1,I1,r1,q1⟩=>hc pins s1 σ H1 vs us Q I1 r1 q1) he hpl
end
end L2
namespace HT
open PySem PyProof.Rows
def lexLt : List Int -> List Int -> Bool
  | [],[]=>false
  | [],_::_=>true
  | _::_,[]=>false
  | x::xs,y::ys=>if x=y then lexLt xs ys else decide (x<y)
theorem lexLt_cons (x y:Int)(xs ys:List Int):lexLt (x::xs) (y::ys)=if x=y then lexLt xs ys else decide (x<y):=rfl
theorem lexLt_nil_cons (y:Int)(ys:List Int):lexLt [] (y::ys)=true:=rfl
section
open PySem.SeqAt
open PySem.AutoSeq1 (wpAny_loadPart')
open PySem.MeetsSeq PySem.MeetsSeq2 PySem.MeetsSeq3
end
section
variable {prog:gf}{w:gq}{A:gu}{E:Value->fZ->Prop}{s:fZ}
theorem cat_tup {vs ws : List Value}{Q : Value -> fZ -> Prop}(ht : IsTup s.heap t vs.toArray)(hb : IsTup s.heap b ws.toArray)(hv : vs ≠ [])
    (h1:ws=[]->Q (.ref t) s) (h2:ws≠[]->Q (.ref s.heap.objs.size) { s with heap:=s.heap.push { cls:=.type "tuple",data:=.seq (vs++ws).toArray } })
    (hsz:vs.length+ws.length<=ge):gh (gn prog w) A (binaryOp .Add (.ref t) (.ref b)) Q E s:=by
  obtain⟨⟨cls,dd,data,sl⟩,ho,hc,n,hd⟩:=id ht
  obtain⟨⟨cls2,dd2,data2,sl2⟩,ho2,hc2,n2,hd2⟩:=id hb
  simp only at hc hd hc2 hd2
  subst hc hd hc2 hd2
  have e:vs.toArray++ws.toArray=(vs++ws).toArray:=by simp
  by_cases hw:ws=[]
  . exact concat_meets ⟨_, ho, rfl⟩ ⟨_, ho2, rfl⟩ noFill_tuple_add seq_tuple_add PySem.F.slot_tuple_add PySem.F.entry_tuple_add (PySem.F.args_tuple_add_2 _ _)
      (tuple_addW1 t b vs.toArray ws.toArray n n2 dd dd2 sl sl2 (by simpa using hv) (by simp[hw])) ⟨ho,ho2,h1 hw⟩
  . refine concat_meets ⟨_, ho, rfl⟩ ⟨_, ho2, rfl⟩ noFill_tuple_add seq_tuple_add PySem.F.slot_tuple_add PySem.F.entry_tuple_add (PySem.F.args_tuple_add_2 _ _)
      (tuple_addW2 t b vs.toArray ws.toArray n n2 dd dd2 sl sl2 (by simpa using hv) (by simpa using hw) (by rw[aA,aA];exact hsz)) ⟨ho,ho2,?_⟩
    rw[e]
    exact h2 hw
def sIx (n d : Nat) : Option Int -> Nat
  | none=>d
  | some v=>if v<0 then(v+(n:Int)).toNat else min v.toNat n
theorem sIx_none (n d:Nat):sIx n d none=d:=rfl
theorem sIx_nat (n d k:Nat):sIx n d (some (k:Int))=min k n:=by
  show(if (k:Int)<0 then((k:Int)+(n:Int)).toNat else min (k:Int).toNat n)=min k n
  rw[if_neg (by lia),cU]
end
end HT
namespace L2
open PySem PySem.Spec PyProof.Rows
abbrev TO:=St->Hp->(Option Int->Hp->Prop)->Prop
def PO (X:Cx)(e:Option Expr)(t:TO):Prop :=
  ∀(pins:List (Addr×Obj)) (s:fZ) (σ:St) (H:Hp) (Q:Option Int->Hp->Prop),Inv X pins σ H s->t σ H Q ->
    gh (gn X.prog X.w) X.A (evalPart e X.env) (λu s'=>∃o H',Inv X pins σ H' s'/\IsPart u o/\Q o H') X.xe s
def xm9:TO:=λ_ H Q=>Q none H
def xw2 (t:TE):TO:=λσ H Q=>t σ H λx H1=>∃i,x=.int i/\Q (some i) H1
theorem O2 {ns:List Int}:∀{us:List Value},p7 (ns.map V.int) us->IntsAre us ns:=by
  induction ns with
  | nil=>intro us r;rw[cK]at r;cases r;exact .nil
  | cons n ns ih =>
    intro us r
    rw[aQ]at r
    cases r with
    | cons r1 r2 =>
      obtain⟨t,e⟩:=r1
      subst e
      exact .cons n t (ih r2)
section
variable {X:Cx}{e:Expr}{te:TE}{lo hi:Option Expr}{tl th:TO}{pos p2:Pos}
theorem A1:PO X none xm9:=by
  intro pins s σ H Q I h
  rw[evalPart_none]
  exact gc ⟨none,H,I,.none,h⟩
theorem N9 (h:PE X e te):PO X (some e) (xw2 te):=by
  intro pins s σ H Q I hw
  rw[evalPart_some]
  refine thn (h pins s σ H _ I hw) λu s1 ⟨x,H1,I1,r1,q1⟩=>?_
  obtain⟨i,rfl,q⟩:=q1
  obtain⟨t,rfl⟩:=r1
  exact⟨some i,H1,I1,.int i t,q⟩
def SlR (X:Cx)(r:V->Option Int->Option Int->Hp->VK->Prop):Prop :=
  ∀(pins:List (Addr×Obj)) (s:fZ) (σ:St) (H:Hp) (x:V) (v vl vu:Value) (lo hi:Option Int) (sl:Addr) (Q:VK),Inv X pins σ H s->p9 x v->s.heap.IsSliceOf sl vl vu .none->IsPart vl lo->IsPart vu hi->r x lo hi H Q ->
    ∃T id,typeLookup (.type T) "__getitem__"=pure (some (.builtin id))/\s.TypeIs v T/\gh (gn X.prog X.w) X.A (getItem v (.ref sl)) (EP X pins σ Q) X.xe s
def tSl (r:V->Option Int->Option Int->Hp->VK->Prop)(te:TE)(tl th:TO):TE:=λσ H Q=>te σ H λx H1=>tl σ H1 λl H2=>th σ H2 λu H3=>r x l u H3 Q
theorem O7 {r:V->Option Int->Option Int->Hp->VK->Prop}(hr:SlR X r)(he:PE X e te)(hl:PO X lo tl)(hu:PO X hi th):PE X (.Subscript e (.Slice lo hi none p2) pos) (tSl r te tl th):=by
  intro pins s σ H Q I h
  refine Subscript_ (thn (he pins s σ H _ I h) λv s1 ⟨x,H1,I1,r1,q1⟩=>?_)
  refine wpAny_Slice (thn (hl pins s1 σ H1 _ I1 q1) λvl s2 ⟨l,H2,I2,pl,q2⟩=>thn (hu pins s2 σ H2 _ I2 q2) λvu s3 ⟨u,H3,I3,pu,q3⟩=>?_)
  rw[evalPart_none]
  refine gc ?_
  have I4:Inv X pins σ H3 { s3 with heap:=s3.heap.push { cls:=.type "slice",data:=.fields #[vl,vu,.none] } }:=I3.kept (t':=s3.toks) λb ob q=>ao _ q
  obtain⟨T,id,hT,ht,hg⟩:=hr pins { s3 with heap:=s3.heap.push { cls:=.type "slice",data:=.fields #[vl,vu,.none] } } σ H3 x v vl vu l u s3.heap.objs.size Q I4 r1 (Heap.IsSliceOf.new ..) pl pu q3
  show gh (gn X.prog X.w) X.A (subscriptTail e (.Slice lo hi none p2) v (.ref s3.heap.objs.size)) (EP X pins σ Q) X.xe { s3 with heap:=s3.heap.push { cls:=.type "slice",data:=.fields #[vl,vu,.none] } }
  exact tail_any (ops:=[.ref s3.heap.objs.size,v]) ht hT hg (by with_unfolding_all rfl)
def zg7 (xs:List V)(lo hi:Option Int):List V:=(xs.drop (HT.sIx xs.length 0 lo)).take (HT.sIx xs.length xs.length hi-HT.sIx xs.length 0 lo)
theorem yd6 (xs:List V)(lo hi:Option Int):(zg7 xs lo hi).length<=xs.length:=by
  unfold zg7
  rw[bo,bP]
  lia
def xv1 (K:W.Frag):R2:=λx y H Q=>∃a b xs ys,x=.ref a/\y=.ref b/\SqT K H a xs/\SqT K H b ys/\xs≠[]/\xs.length+ys.length<=ge /\
  (ys=[]->Q (.ref a) H)/\(ys≠[]->∀p,H p=none->Q (.ref p) (upd H p (.tup (xs++ys))))
theorem p7.nil_iff (r:p7 xs us):us=[]↔xs=[]:=by
  cases r with
  | nil=>simp
  | cons _ _=>simp
theorem xk5:OpR X (binaryOp .Add) (xv1 X.K):=by
  intro pins s σ H x y v u Q I rx ry h
  obtain⟨a,b,xs,ys,rfl,rfl,ha,hb,hx,hz,q1,q2⟩:=h
  cases rx
  cases ry
  obtain⟨its,r1,p1,_⟩:=I.tuple ha
  obtain⟨its2,r2,p2,_⟩:=I.tuple hb
  refine HT.cat_tup p1 p2 (λz=>hx (r1.nil_iff.mp z)) (λz=>⟨.ref a,H,I,rfl,q1 (r2.nil_iff.mp z)⟩) (λz=>?_) (by rw[←r1.length,←r2.length];exact hz)
  refine⟨.ref s.heap.objs.size,_,I.laid (t':=s.toks) (o:=.tup (xs++ys)) (λb ob q=>ao _ q) (ag _) ?_,rfl,q2 (λw=>z (r2.nil_iff.mpr w)) _ (I.hok.fresh (ag _))⟩
  exact⟨by rw[ah];exact hz,_,r1.append r2,zx5.new _ _⟩
end
def ixN (n:Nat)(i:Int):Option Nat:=if 0<=i then(if i<n then some i.toNat else none) else if -(n:Int)<=i then some (i+n).toNat else none
def atI {α:Type}(xs:List α)(i:Int):Option α:=(ixN xs.length i).bind λj=>xs[j]?
theorem zy4 (h:ixN n i=some j):seqIndex? i n=some j/\j<n/\-(n:Int)<=i/\i<n:=by
  unfold ixN at h
  by_cases h0:0<=i
  . rw[if_pos h0]at h
    by_cases h1:i<n
    . rw[if_pos h1]at h
      have e:i.toNat=j:=Option.some.inj h
      exact⟨by rw[seqIndex_of h0 h1,e],by lia,by lia,h1⟩
    . rw[if_neg h1]at h;cases h
  . rw[if_neg h0]at h
    by_cases h1:-(n:Int)<=i
    . rw[if_pos h1]at h
      have e:(i+n).toNat=j:=Option.some.inj h
      exact⟨by rw[seqIndex_neg (by lia) h1,e],by lia,h1,by lia⟩
    . rw[if_neg h1]at h;cases h
theorem yo6 {α:Type}{xs:List α}{v:α}(h:atI xs i=some v):∃j,seqIndex? i xs.length=some j/\xs[j]?=some v/\j<xs.length/\-(xs.length:Int)<=i/\i<xs.length:=by
  unfold atI at h
  cases e:ixN xs.length i with
  | none=>rw[e]at h;cases h
  | some j =>
    rw[e]at h
    obtain⟨h1,h2,h3,h4⟩:=zy4 e
    exact⟨j,h1,h,h2,h3,h4⟩
theorem l9 {α:Type}{xs:List α}{j:Nat}{v:α}(h:xs[j]?=some v):atI xs (j:Int)=some v:=by
  have hj:j<xs.length:=(al.mp h).1
  have e:ixN xs.length (j:Int)=some j:=by
    unfold ixN
    rw[if_pos (by lia),if_pos (by lia)];simp
  unfold atI;rw[e];exact h
def xh9 (b:Expr):Prop:=∀o i,subscripted b false o i=operate [o,i] (getItem o i)
def IxR (X:Cx)(r:R2):Prop :=
  ∀(value slice:Expr) (pins:List (Addr×Obj)) (s:fZ) (σ:St) (H:Hp) (x y:V) (v u:Value) (Q:VK),Inv X pins σ H s->p9 x v->p9 y u->r x y H Q ->
    subscripted slice false v u=operate [v,u] (getItem v u)->gh (gn X.prog X.w) X.A (subscriptTail value slice v u) (EP X pins σ Q) X.xe s
def MtR (X:Cx)(id:String)(r:V->List V->Hp->VK->Prop):Prop :=
  ∀(pins:List (Addr×Obj)) (s:fZ) (σ:St) (H:Hp) (x:V) (xs:List V) (v:Value) (us:List Value) (Q:VK),Inv X pins σ H s->p9 x v->p7 xs us->r x xs H Q ->
    gh (gn X.prog X.w) X.A (call (.builtin id) (v::us)) (EP X pins σ Q) X.xe s
section
variable {X:Cx}{a b:Expr}{ta tb:TE}{pos:Pos}
theorem k9 (hr:IxR X r)(ha:PE X a ta)(hb:PE X b tb)(hs:xh9 b):PE X (.Subscript a b pos) (tOp r ta tb):=by
  intro pins s σ H Q I h
  exact Subscript_ (xo8 ha hb I h λv u s2 x y H2 I2 rx ry q=>hr a b pins s2 σ H2 x y v u Q I2 rx ry q (hs _ _))
def xx8 (K:W.Frag):R2:=λx y H Q=>∃p xs i v,x=.ref p/\y=.int i/\SqL K H p xs/\atI xs i=some v/\Q v H
def xx9 (K:W.Frag):R2:=λx y H Q=>∃p xs i v,x=.ref p/\y=.int i/\SqT K H p xs/\atI xs i=some v/\Q v H
theorem p5:IxR X (xx8 X.K):=by
  intro value slice pins s σ H x y v u Q I rx ry h hs
  obtain⟨p,xs,i,z,rfl,rfl,hq,he,q⟩:=h
  cases rx
  obtain⟨t,rfl⟩:=ry
  obtain⟨its,r,pl,hz⟩:=I.list hq
  obtain⟨j,h1,h2,h3,h4,h5⟩:=yo6 he
  obtain⟨w,ew,rw'⟩:=r.get h2
  have hl:=r.length
  have hn:=zp5
  have fin:EP X pins σ Q w s:=⟨z,H,I,rw',q⟩
  by_cases h0:0<=i
  . have hj:i.toNat=j:=by
      rw[seqIndex_of h0 h5]at h1
      exact Option.some.inj h1
    exact item_listR pl.isList h0 (by lia) (by rw[hj];simpa using ew) fin hs
  . have hj:(i+(its.toArray.size:Int)).toNat=j:=by
      rw[seqIndex_neg (by lia) h4]at h1
      rw[aA,←hl]
      exact Option.some.inj h1
    exact subscriptTail_builtinR (x := w) pl.isList.typeIs slot_list_getitem.lookup
      (wpAny_getItem_list_neg (Q:=λr s'=>r=w/\EP X pins σ Q r s') pl.isList (by lia) (by rw[aA] <;> lia) (by lia) (by rw[hj];simpa using ew) ⟨rfl,fin⟩) hs
theorem D6:IxR X (xx9 X.K):=by
  intro value slice pins s σ H x y v u Q I rx ry h hs
  obtain⟨p,xs,i,z,rfl,rfl,hq,he,q⟩:=h
  cases rx
  obtain⟨t,rfl⟩:=ry
  obtain⟨its,r,pl,hz⟩:=I.tuple hq
  obtain⟨j,h1,h2,h3,h4,h5⟩:=yo6 he
  obtain⟨w,ew,rw'⟩:=r.get h2
  have hl:=r.length
  have hn:=zp5
  have fin:EP X pins σ Q w s:=⟨z,H,I,rw',q⟩
  exact subscriptTail_builtinR (x := w) pl.typeIs slot_tuple_getitem.lookup
    (getItem_tuple (j:=j) (Q:=λr s'=>r=w/\EP X pins σ Q r s') pl (by lia) (by lia) (by rw[aA,←hl];exact h1) (by simpa using ew) ⟨rfl,fin⟩) hs
theorem yl4 (its:List Value)(n j:Nat)(u:Value):Obj.mapSeq (·.setIfInBounds j u) { cls:=.type "list",data:=.seq its.toArray n }={ cls:=.type "list",data:=.seq (its.set j u).toArray n }:=by
  simp[Obj.mapSeq]
theorem Inv.lst {σ : St}{s : fZ}{xs : List V}(I : Inv X pins σ H s)(h : H p = some (.lst xs)) :
    ∃(its:List Value) (n:Nat),p7 xs its/\s.heap.get? p=some { cls:=.type "list",data:=.seq its.toArray n }/\xs.length<=ge:=by
  obtain⟨z,its,n,r,e⟩:=I.hok p _ h
  exact⟨its,n,r,e,z⟩
theorem Inv.lstUpd {σ : St}{s : fZ}{xs ys : List V}{its its' : List Value}{f : Obj -> Obj}(I : Inv X pins σ H s)(h : H p = some (.lst xs))
    (ho:s.heap.get? p=some { cls:=.type "list",data:=.seq its.toArray n }) (hf:f { cls:=.type "list",data:=.seq its.toArray n }={ cls:=.type "list",data:=.seq its'.toArray n' }) (r:p7 ys its') (hz:ys.length<=ge) (t:Nat) :
    Inv X pins σ (upd H p (.lst ys)) { s with heap:=s.heap.update p f,toks:=t }:=by
  have e:(s.heap.update p f).get? p=some { cls:=.type "list",data:=.seq its'.toArray n' }:=by
    rw[Heap.get?_update_self f ho (by rw[hf] <;> rfl),hf]
  refine I.write (x:=p) (e:=p) (by rw[h];trivial) (.inl rfl) (λb u hb q=>(Heap.get?_update_other _ _ (Ne.symm hb)).trans q) ⟨_,e⟩ ?_
  exact⟨hz,its',n',r,e⟩
def xv2:V->V->V->Hp->(Hp->Prop)->Prop:=λo i v H Q=>∃p xs k j,o=.ref p/\i=.int k/\H p=some (.lst xs)/\ixN xs.length k=some j/\Q (upd H p (.lst (xs.set j v)))
theorem B2:xt6 X xv2:=by
  intro pins s σ H o i v ov iv u Q I ro ri rv h
  obtain⟨p,xs,k,j,rfl,rfl,hp,hj,q⟩:=h
  cases ro
  obtain⟨t,rfl⟩:=ri
  obtain⟨its,n,r,ho,hz⟩:=I.lst hp
  obtain⟨h1,h2,h3,h4⟩:=zy4 hj
  have hl:=r.length
  have hn:=zp5
  have I':Inv X pins σ (upd H p (.lst (xs.set j v))) { s with heap:=s.heap.update p (Obj.mapSeq (·.setIfInBounds j u)) } :=
    I.lstUpd hp ho (yl4 its n j u) (r.set rv j) (by rw[bV];exact hz) s.toks
  by_cases h0:0<=k
  . have hk:k.toNat=j:=by
      rw[seqIndex_of h0 h4]at h1
      exact Option.some.inj h1
    exact W.ki_setAt ho h0 (by lia) (by rw[aA,←hl];exact h4) (by rw[hk];exact⟨_,I',q⟩)
  . have hk:(k+(its.toArray.size:Int)).toNat=j:=by
      rw[seqIndex_neg (by lia) h3]at h1
      rw[aA,←hl]
      exact Option.some.inj h1
    exact W.ki_setBack ho (by lia) (by rw[aA,←hl];exact h3) (by lia) (by rw[hk];exact⟨_,I',q⟩)
theorem yb5 (lo hi:Option Int)(n:Nat):(sliceBounds lo hi none n).1=((HT.sIx n 0 lo:Nat):Int)/\(sliceBounds lo hi none n).2.1=((HT.sIx n n hi:Nat):Int)/\(sliceBounds lo hi none n).2.2=1:=by
  refine⟨?_,?_,rfl⟩
  . cases lo with
    | none=>simp[sliceBounds,HT.sIx]
    | some i =>
      simp only[sliceBounds,HT.sIx,fB,show(1:Int) > 0 by decide,if_true]
      by_cases h:i<0
      . simp only[h,if_true] <;> lia
      . simp only[h,if_false] <;> lia
  . cases hi with
    | none=>simp[sliceBounds,HT.sIx]
    | some i =>
      simp only[sliceBounds,HT.sIx,fB,show(1:Int) > 0 by decide,if_true]
      by_cases h:i<0
      . simp only[h,if_true] <;> lia
      . simp only[h,if_false] <;> lia
theorem zv2 (its:List Value)(lo hi:Option Int):slicePick its.toArray lo hi none=((its.drop (HT.sIx its.length 0 lo)).take (HT.sIx its.length its.length hi-HT.sIx its.length 0 lo)).toArray:=by
  obtain⟨h1,h2,h3⟩:=yb5 lo hi its.toArray.size
  unfold slicePick
  rw[h1,h2,h3]
  simp only[sliceRange_one,pick_run,aA] <;> rfl
def xy0 (K:W.Frag):V->Option Int->Option Int->Hp->VK->Prop:=λx lo hi H Q=>∃a xs,x=.ref a/\SqL K H a xs/\∀p,H p=none->Q (.ref p) (upd H p (.lst (zg7 xs lo hi)))
theorem F7:SlR X (xy0 X.K):=by
  intro pins s σ H x v vl vu lo hi sl Q I rx hs pl pu h
  obtain⟨a,xs,rfl,hx,q⟩:=h
  cases rx
  obtain⟨its,r,ht,hz⟩:=I.list hx
  have hlen:=r.length
  refine⟨"list",_,slot_list_getitem.lookup,ht.isList.typeIs,?_⟩
  refine wpAny_getItem_list_slice ht.isList hs pl pu .none (by simp) ?_ (by rw[aA] <;> lia)
  rw[zv2,←hlen]
  refine⟨.ref s.heap.objs.size,_,I.laid (t':=s.toks) (o:=.lst (zg7 xs lo hi)) (λb ob q=>ao _ q) (ag _) ?_,rfl,q _ (I.hok.fresh (ag _))⟩
  exact⟨aO (yd6 xs lo hi) hz,_,0,(r.drop (HT.sIx xs.length 0 lo)).take (HT.sIx xs.length xs.length hi-HT.sIx xs.length 0 lo),aB _ rfl⟩
theorem q9:T9 X (.builtin "len") (λxs H Q=>∃p ys,xs=[.ref p]/\(SqL X.K H p ys∨SqT X.K H p ys)/\Q (.int ys.length) H):=by
  intro pins s σ H xs us Q I r h
  obtain⟨p,ys,rfl,hq,q⟩:=h
  obtain⟨u,rfl,rx⟩:=N6 r
  cases rx
  have hn:=zp5
  rcases hq with hq|hq
  . obtain⟨its, r', pl, hz⟩ := I.list hq
    have hlen:=r'.length
    exact Calls.call_len_list pl.isList (by simp only[aA] <;> lia) ⟨.int ys.length,H,I.tok _,⟨s.toks+1,by rw[aA,hlen]⟩,q⟩
  . obtain⟨its, r', pl, hz⟩ := I.tuple hq
    have hlen:=r'.length
    exact len_tuple pl (by simp only[aA] <;> lia) ⟨.int ys.length,H,I.tok _,⟨s.toks+1,by rw[aA,hlen]⟩,q⟩
theorem zc4:T9 X (.type "list") (λxs H Q=>∃p ys,xs=[.ref p]/\(SqL X.K H p ys∨SqT X.K H p ys)/\∀l,H l=none->Q (.ref l) (upd H l (.lst ys))):=by
  intro pins s σ H xs us Q I r h
  obtain⟨p,ys,rfl,hq,q⟩:=h
  obtain⟨u,rfl,rx⟩:=N6 r
  cases rx
  have fin:∀(its:List Value),p7 ys its->ys.length<=ge->∀(h':Heap) (c':Nat),(∀b o',s.heap.get? b=some o'->h'.get? b=some o') ->
      h'.get? s.heap.objs.size=some { cls:=.type "list",dict:=none,data:=.seq its.toArray c',slots:=#[] }->EP X pins σ Q (.ref s.heap.objs.size) { s with heap:=h' }:=λits r' hz h' c' kp e =>
    ⟨.ref s.heap.objs.size,_,I.laid (t':=s.toks) kp (ag _) (show l7 X.prog X.w _ h' _ (.lst ys) from⟨hz,its,c',r',e⟩),rfl,q _ (I.hok.fresh (ag _))⟩
  rcases hq with hq|hq
  . obtain⟨its, r', pl, hz⟩ := I.list hq
    have hlen:=r'.length
    obtain⟨o,ho,hc,n,hd⟩:=pl.isList
    exact call_list_seq p (.inl rfl) ho hc hd (λh' c' kp e=>fin its r' hz h' c' kp e) (by simp only[aA] <;> lia)
  . obtain⟨its, r', pl, hz⟩ := I.tuple hq
    have hlen:=r'.length
    obtain⟨o,ho,hc,n,hd⟩:=pl
    exact call_list_seq p (.inr rfl) ho hc hd (λh' c' kp e=>fin its r' hz h' c' kp e) (by simp only[aA] <;> lia)
theorem o7:T9 X (.type "tuple") (λxs H Q=>∃p ys,xs=[.ref p]/\((SqL X.K H p ys/\∀l,H l=none->Q (.ref l) (upd H l (.tup ys)))∨(SqT X.K H p ys/\Q (.ref p) H))):=by
  intro pins s σ H xs us Q I r h
  obtain⟨p,ys,rfl,h⟩:=h
  obtain⟨u,rfl,rx⟩:=N6 r
  cases rx
  rcases h with⟨hq,q⟩|⟨hq,q⟩
  . obtain⟨its, r', pl, hz⟩ := I.list hq
    have hlen:=r'.length
    refine call_tuple_list pl.isList (λh' kp=>?_) (by simp only[aA] <;> lia)
    have I1:Inv X pins σ H { s with heap:=h' }:=I.kept (t':=s.toks) kp
    have I2:Inv X pins σ (upd H h'.objs.size (.tup ys)) { s with heap:=h'.push { cls:=.type "tuple",data:=.seq its.toArray } } :=
      I1.laid (t':=s.toks) (λb o e=>ao _ e) (ag _) (show l7 X.prog X.w _ _ _ (.tup ys) from⟨hz,its,r',zx5.new _ _⟩)
    exact⟨.ref h'.objs.size,_,I2,rfl,q _ (I1.hok.fresh (ag _))⟩
  . obtain⟨its, r', pl, hz⟩ := I.tuple hq
    exact call_tuple_same pl ⟨.ref p,H,I,rfl,q⟩
def tyV (K:W.Frag)(T:String)(x:V)(H:Hp):Prop:=match x with
  | .str _=>T="str"
  | .int _=>T="int"
  | .ref p => (T = "list" /\ ∃xs, SqL K H p xs)∨(T = "tuple" /\ ∃o, K.lookup p = some o /\ o.cls = .type "tuple" /\ o.dict = none) ∨
      (T="dict"/\((∃kvs,H p=some (.dK kvs))∨∃kvs,H p=some (.dT kvs)))∨(T="set"/\∃S n,H p=some (.set S n))
  | _=>False
theorem xt1 {σ : St}{s : fZ}{v : Value}(I : Inv X pins σ H s)(r : p9 x v)(ty : tyV X.K T x H) :
    s.TypeIs v T/\∀a,v=.ref a->∃ob,s.heap.get? a=some ob/\ob.dict=none:=by
  cases x with
  | str z =>
    obtain⟨t,rfl⟩:=r
    cases (show T="str" from ty)
    exact⟨typeIs_str s z t,λ_ e=>nomatch e⟩
  | int i =>
    obtain⟨t,rfl⟩:=r
    cases (show T="int" from ty)
    exact⟨typeIs_int s i t,λ_ e=>nomatch e⟩
  | ref p =>
    cases r
    rcases ty with⟨rfl,xs,hq⟩|⟨rfl,o,hk,hc,hd⟩|⟨rfl,hk⟩|⟨rfl,S,n,hk⟩
    . obtain⟨its, _, pl, _⟩ := I.list hq
      refine⟨pl.isList.typeIs,λa e=>?_⟩
      cases e
      obtain⟨o,n,e,c,hd,_⟩:=pl
      exact⟨o,e,hd⟩
    . refine⟨⟨o, I.kIn p o hk, hc⟩, λa e => ?_⟩
      cases e
      exact⟨o,I.kIn _ o hk,hd⟩
    . have z:∃o,s.heap.get? p=some o/\o.ExactDict:=by
        rcases hk with⟨kvs,hk⟩|⟨kvs,hk⟩
        . obtain⟨_, _, _, _, o, _, _, e, ex, _⟩ := I.hok p _ hk
          exact⟨o,e,ex⟩
        . obtain⟨_, _, _, _, o, _, _, e, ex, _⟩ := I.hok p _ hk
          exact⟨o,e,ex⟩
      obtain⟨o,e,ex⟩:=z
      refine⟨⟨o,e,ex.1⟩,λa e2=>?_⟩
      cases e2
      exact⟨o,e,ex.2.1⟩
    . obtain⟨o, _, _, _, e, ex, _⟩ := I.hok p _ hk
      refine⟨⟨o,e,ex.1⟩,λa e2=>?_⟩
      cases e2
      exact⟨o,e,ex.2.1⟩
  | _=>exact False.elim ty
def tBM (K:W.Frag)(T:String)(r:V->List V->Hp->VK->Prop)(to:TE)(t:TA):TE:=λσ H Q=>to σ H λx H1=>tyV K T x H1/\t σ H1 λxs H2=>r x xs H2 Q
variable {o e:Expr}{es:List Expr}{to:TE}{t:TA}{name:Str}{apos cpos:Pos}{T id:String}{r:V->List V->Hp->VK->Prop}
theorem E4 (pa : PlainAttrs T)(slot : Slot T name id)(hty : typeOf (.builtin id) = pure (.type "method_descriptor"))(hm : MtR X id r)(ho : PE X o to)(ha : PA X (e::es) t)
    (hbase:attributeBase o name X.env (eval o X.env)=eval o X.env:=by rfl)
    (hfew : ((backTo cpos (gl (e::es) X.env)).all (λx => !x.1)&&(backToKw cpos (gA [] X.env)).all (λx => x.1.isSome)
      && decide ((e::es).length+([]:List Keyword).length+(if ([]:List Keyword).isEmpty then 0 else 1)<30))=true:=by rfl)
    (hline:(apos.endLine==cpos.line)=true:=by rfl) (hs:gl (e::es) X.env=(false,eval e X.env)::gl es X.env:=by rfl) (hplain:(backTo cpos (gl es X.env)).any (·.1)=false:=by rfl) :
    PE X (.Call (.Attribute o name apos) (e::es) [] cpos) (tBM X.K T r to t):=by
  intro pins s σ H Q I h
  refine wpAny_Call_method_late hbase hfew hline rfl (thn (ho pins s σ H _ I h) λv s1 ⟨x,H1,I1,r1,ty,q1⟩=>?_)
  obtain⟨h1,h2⟩:=xt1 I1 r1 ty
  refine⟨T,id,pa,slot,hty,h1,h2,?_⟩
  have hA:=ha cpos pins s1 σ H1 _ I1 q1
  rw[hs]at hA ⊢
  refine Calls.callWith_builtin (by show(false || (backTo cpos (gl es X.env)).any (·.1))=false;rw[hplain] <;> rfl) (Calls.evalArgs_plain ?_)
  exact thn hA λus s2 ⟨vs,H2,I2,r2,q2⟩=>hm pins s2 σ H2 x vs v us Q I2 r1 r2 q2
end
def MtM (X:Cx)(id:String)(r:V->List V->Hp->VK->Prop):Prop :=
  ∀(pins:List (Addr×Obj)) (s:fZ) (σ:St) (H:Hp) (x:V) (xs:List V) (v:Value) (us:List Value) (Q:VK),Inv X pins σ H s->p9 x v->p7 xs us->r x xs H Q ->
    gh (gn X.prog X.w) X.A (call (.builtin id) (v::us)) (EP X pins σ Q) X.xe s
theorem p7.one : ∀{x : V} {us : List Value}, p7 [x] us -> ∃u, us = [u] /\ p9 x u
  | _,_,.cons r .nil=>⟨_,rfl,r⟩
theorem p7.eraseIdx : ∀{xs : List V} {us : List Value} (i : Nat), p7 xs us -> p7 (xs.eraseIdx i) (us.eraseIdx i)
  | _,_,_,.nil=>.nil
  | _,_,0,.cons _ t=>t
  | _,_,i+1,.cons r t=>.cons r (p7.eraseIdx i t)
theorem zw1 {α : Type} : ∀(l : List α) (i : Nat), (l.eraseIdx i).length <= l.length
  | [],_=>ag _
  | _::_,0=>bU _
  | _::r,i+1=>Nat.succ_le_succ (zw1 r i)
section
variable {X:Cx}{pins:List (Addr×Obj)}{σ:St}{H:Hp}{s:fZ}{l b:Addr}{xs ys zs:List V}
theorem Inv.lset {its its' : List Value}{f : Array Value -> Array Value}(I : Inv X pins σ H s)(hH : H l = some (.lst xs))
    (e:s.heap.get? l=some { cls:=.type "list",data:=.seq its.toArray n }) (hf:f its.toArray=its'.toArray) (hv:p7 ys its') (hz:ys.length<=ge) :
    Inv X pins σ (upd H l (.lst ys)) { s with heap:=s.heap.update l (Obj.mapSeq f),toks:=t' }:=by
  have q:=PySem.IsL.update e f
  rw[hf]at q
  refine I.write (x:=l) (e:=l) (by rw[hH];exact trivial) (.inl rfl) (λb' u hb hu=>(Heap.get?_update_other s.heap (Obj.mapSeq f) (Ne.symm hb)).trans hu) ⟨_,q⟩ ?_
  exact⟨hz,its',_,hv,q⟩
theorem Inv.lnew {its : List Value}(I : Inv X pins σ H s)(hv : p7 ys its)(hz : ys.length <= ge) :
    Inv X pins σ (upd H s.heap.objs.size (.lst ys)) { s with heap:=s.heap.push { cls:=.type "list",data:=.seq its.toArray },toks:=t' } :=
  I.laid (λ_ _ q=>ao _ q) (ag _) ⟨hz,its,0,hv,aB _ rfl⟩
theorem Inv.fresh (I:Inv X pins σ H s):H s.heap.objs.size=none:=I.hok.fresh (ag _)
theorem Inv.lstM (I:Inv X pins σ H s)(hH:H l=some (.lst xs)):xs.length<=ge/\∃(its:List Value) (n:Nat),p7 xs its/\xs.length=its.length/\s.heap.get? l=some { cls:=.type "list",data:=.seq its.toArray n }:=by
  obtain⟨z,its,n,r,e⟩:=I.hok l _ hH
  exact⟨z,its,n,r,r.length,e⟩
theorem xc8 (h:n<=ge):Builtin.List.listTooLong n=false:=by
  unfold Builtin.List.listTooLong
  exact decide_eq_false (by lia)
end
section
variable {X:Cx}
def xl3:V->List V->Hp->VK->Prop:=λx vs H Q=>∃l xs y,x=.ref l/\vs=[y]/\H l=some (.lst xs)/\xs.length<ge/\Q .non (upd H l (.lst (xs++[y])))
theorem X2:MtM X "list.append" xl3:=by
  intro pins s σ H x vs v us Q I rx rv h
  obtain⟨l,xs,y,rfl,rfl,hH,hz,q⟩:=h
  cases rx
  obtain⟨u,rfl,ru⟩:=rv.one
  obtain⟨z,its,n,r,hl,e⟩:=I.lstM hH
  refine call_meets F.slot_list_append ⟨_,e,rfl⟩ F.entry_list_append (F.args_list_append_2 _ _) (PySem.list_append l its.toArray n u (by rw[aA];lia)) ⟨e,?_⟩
  refine⟨.non,_,I.lset (its':=its++[u]) hH e (by simp) (r.append (.cons ru .nil)) ?_,rfl,q⟩
  rw[ah,bI]
  lia
def xl4:V->List V->Hp->VK->Prop:=λx vs H Q=>∃l b xs zs,x=.ref l/\vs=[.ref b]/\H l=some (.lst xs)/\H b=some (.lst zs)/\xs.length+zs.length<=ge/\Q .non (upd H l (.lst (xs++zs)))
theorem zw2:MtM X "list.extend" xl4:=by
  intro pins s σ H x vs v us Q I rx rv h
  obtain⟨l,b,xs,zs,rfl,rfl,hH,hB,hz,q⟩:=h
  cases rx
  obtain⟨u,rfl,ru⟩:=rv.one
  cases ru
  obtain⟨z,its,n,r,hl,e⟩:=I.lstM hH
  obtain⟨z2,its2,n2,r2,hl2,e2⟩:=I.lstM hB
  have hsz:its.toArray.size+its2.toArray.size<=ge:=by rw[aA,aA];lia
  have hlong:¬(!its.toArray.isEmpty&&Builtin.List.listTooLong (its.toArray.size+its2.toArray.size))=true:=by
    rw[xc8 hsz,eX]
    exact aD
  refine call_meets F.slot_list_extend ⟨_, e, rfl⟩ F.entry_list_extend (F.args_list_extend_2 _ _)
    (AutoSeq1.list_extend_list_list_0 l its.toArray n b its2.toArray n2 hlong (by rw[aA];lia) (by lia)) ⟨e,e2,?_⟩
  refine⟨.non,_,I.lset (its':=its++its2) hH e (by simp) (r.append r2) ?_,rfl,q⟩
  rw[ah]
  lia
def xs0:V->List V->Hp->VK->Prop:=λx vs H Q=>∃l xs i k y,x=.ref l/\vs=[.int i]/\H l=some (.lst xs)/\-(2 ^ 63)<=i/\i<2 ^ 63/\seqIndex? i xs.length=some k/\xs[k]?=some y/\Q y (upd H l (.lst (xs.eraseIdx k)))
theorem xc5:MtM X "list.pop" xs0:=by
  intro pins s σ H x vs v us Q I rx rv h
  obtain⟨l,xs,i,k,y,rfl,rfl,hH,h1,h2,hk,hy,q⟩:=h
  cases rx
  obtain⟨u,rfl,ru⟩:=rv.one
  obtain⟨t,rfl⟩:=ru
  obtain⟨z,its,n,r,hl,e⟩:=I.lstM hH
  obtain⟨w,hw,rw'⟩:=r.get hy
  refine call_meets F.slot_list_pop ⟨_, e, rfl⟩ F.entry_list_pop (F.args_list_pop_2 _ _)
    (MeetsSeq.list_pop_at l its.toArray n i t k w (fitsIndex_both h1 h2) (by rw[aA,←hl];exact hk) (by rw[←bz];exact hw) (by rw[aA];lia)) ⟨e,?_⟩
  refine⟨y,_,I.lset (its':=its.eraseIdx k) hH e ?_ (r.eraseIdx k) ?_,rw',q⟩
  . show its.toArray.eraseIdxIfInBounds k = (its.eraseIdx k).toArray
    rw[List.eraseIdxIfInBounds_toArray]
  . have := zw1 xs k
    lia
end
section
variable {prog:gf}{w:gq}{A:gu}{E:Value->fZ->Prop}{s:fZ}
end
section
variable {X:Cx}
end
section
variable {κ:Type}[DecidableEq κ]
def V4 (kvs:List (κ×V))(k:κ):Option V:=(kvs.find? λkv=>decide (kv.1=k)).map (·.2)
def putK (kvs:List (κ×V))(k:κ)(v:V):List (κ×V) :=
  if (kvs.any λkv=>decide (kv.1=k))=true then kvs.map (λkv=>if kv.1=k then(kv.1,v) else kv) else kvs++[(k,v)]
theorem c4 {p:κ×V}{r:List (κ×V)}{k:κ}(e:p.1=k):V4 (p::r) k=some p.2:=by simp[V4,dh,e]
theorem i8 {p:κ×V}{r:List (κ×V)}{k:κ}(e:¬p.1=k):V4 (p::r) k=V4 r k:=by simp[V4,dh,e]
theorem T7 (k : κ) : ∀kvs : List (κ×V), (kvs.any λkv => decide (kv.1 = k)) = (V4 kvs k).isSome
  | []=>rfl
  | p::r=>by
    rw[fq]
    by_cases e:p.1=k
    . simp only[c4 e,decide_eq_true e,Bool.true_or,Option.isSome_some]
    . rw[i8 e,decide_eq_false e,Bool.false_or];exact T7 k r
theorem yj1 (k j : κ)(y : V) : ∀kvs : List (κ×V), V4 (kvs.map λkv => if kv.1 = k then(kv.1, y) else kv) j = (V4 kvs j).map λx => if j = k then y else x
  | []=>rfl
  | p::r=>by
    have ih:=yj1 k j y r
    rw[aQ]
    by_cases h:p.1=k
    . rw[if_pos h]
      by_cases e:p.1=j
      . rw[c4 (p:=(p.1,y)) e,c4 e,cJ,if_pos (e.symm.trans h)]
      . rw[i8 (p:=(p.1,y)) e,i8 e,ih]
    . rw[if_neg h]
      by_cases e:p.1=j
      . rw[c4 (p:=p) e,c4 e,cJ,if_neg (λz=>h (e.trans z))]
      . rw[i8 (p:=p) e,i8 e,ih]
theorem zx0 (k j : κ)(y : V) : ∀kvs : List (κ×V), V4 kvs k = none -> V4 (kvs ++ [(k, y)]) j = if j = k then some y else V4 kvs j
  | [],_=>by
    by_cases e:k=j
    . rw[if_pos e.symm];exact c4 (p:=(k,y)) e
    . rw[if_neg (λz=>e z.symm)];exact i8 (p:=(k,y)) e
  | p::r,hn=>by
    rw[List.cons_append]
    have hk:¬p.1=k:=λz=>by rw[c4 z]at hn;cases hn
    rw[i8 hk]at hn
    have ih:=zx0 k j y r hn
    by_cases e:p.1=j
    . rw[c4 e,c4 e,if_neg (λz=>hk (e.trans z))]
    . rw[i8 e,i8 e,ih]
theorem xh4 (kvs:List (κ×V))(k j:κ)(y:V):V4 (putK kvs k y) j=if j=k then some y else V4 kvs j:=by
  unfold putK
  by_cases a:(kvs.any λkv=>decide (kv.1=k))=true
  . rw[if_pos a, yj1]
    rw[T7]at a
    by_cases e:j=k
    . obtain⟨x, hx⟩ := dJ.mp a
      rw[if_pos e,e,hx,cJ,if_pos rfl]
    . rw[if_neg e]
      cases V4 kvs j with
      | none=>rfl
      | some x=>rw[cJ,if_neg e]
  . rw[if_neg a]
    refine zx0 k j y kvs ?_
    rw[T7]at a
    cases q:V4 kvs k with
    | none=>rfl
    | some x=>rw[q]at a;exact(a rfl).elim
theorem N7 (kvs:List (κ×V))(k:κ)(v:V):(putK kvs k v).length<=kvs.length+1:=by
  unfold putK
  split
  . rw[aa];lia
  . rw[ah,aC,dF];lia
theorem zr1 {kvs:List (κ×V)}{k:κ}(v:V)(h:V4 kvs k=none):putK kvs k v=kvs++[(k,v)]:=by
  unfold putK
  rw[T7,h]
  exact if_neg (by decide)
theorem A6.isSome_eq {o:Option V}{u:Option Value}(r:A6 o u):o.isSome=u.isSome:=by
  cases o with
  | none=>cases u with
    | none=>rfl
    | some _=>exact(show False from r).elim
  | some _=>cases u with
    | none=>exact(show False from r).elim
    | some _=>rfl
theorem KV.val {kvs:List (κ×V)}{vs:List (κ×Value)}(r:KV kvs vs)(k:κ):A6 (V4 kvs k) (valueAt vs k):=by
  unfold KV at r
  induction r with
  | nil=>exact True.intro
  | @cons p q ps qs h t ih =>
    obtain⟨h1,h2⟩:=h
    by_cases e:p.1=k
    . have e' : q.1 = k := h1.symm.trans e
      have b:valueAt (q::qs) k=some q.2:=by simp[valueAt,dh,e']
      rw[c4 e,b];exact h2
    . have e' : ¬q.1 = k := λz => e (h1.trans z)
      have b:valueAt (q::qs) k=valueAt qs k:=by simp[valueAt,dh,e']
      rw[i8 e,b];exact ih
theorem KV.any {kvs:List (κ×V)}{vs:List (κ×Value)}(r:KV kvs vs)(k:κ):(kvs.any λkv=>decide (kv.1=k))=vs.any λkv=>decide (kv.1=k):=by
  unfold KV at r
  induction r with
  | nil=>rfl
  | cons h t ih=>rw[fq,fq,ih,h.1]
theorem KV.repl {kvs : List (κ×V)}{vs : List (κ×Value)}(r : KV kvs vs)(k : κ){y : V}{u : Value}(ry : p9 y u) :
    KV (kvs.map λkv=>if kv.1=k then(kv.1,y) else kv) (vs.map λkv=>if kv.1=k then(kv.1,u) else kv):=by
  unfold KV at r ⊢
  induction r with
  | nil=>exact .nil
  | @cons p q ps qs h t ih =>
    rw[aQ,aQ]
    refine .cons ?_ ih
    obtain⟨h1,h2⟩:=h
    by_cases e:p.1=k
    . rw[if_pos e,if_pos (h1.symm.trans e)];exact⟨h1,ry⟩
    . rw[if_neg e,if_neg (λz=>e (h1.trans z))];exact⟨h1,h2⟩
theorem KV.put {kvs:List (κ×V)}{vs:List (κ×Value)}(r:KV kvs vs)(k:κ){y:V}{u:Value}(ry:p9 y u):KV (putK kvs k y) (stored vs k u):=by
  unfold putK stored
  rw[r.any k]
  by_cases e:(vs.any λkv=>decide (kv.1=k))=true
  . rw[if_pos e,if_pos e];exact r.repl k ry
  . rw[if_neg e,if_neg e];exact Paired.snoc r ⟨rfl,ry⟩
theorem KV.length {kvs:List (κ×V)}{vs:List (κ×Value)}(r:KV kvs vs):kvs.length=vs.length:=Paired.length r
end
theorem ye9 (r:p9 (kV k) u):(c9 P w).is k u=true:=by
  cases k with
  | inl i=>obtain⟨t,e⟩:=(show ∃t,u=Value.int i t from r);subst e;exact yf4 P w i t
  | inr x=>obtain⟨t,e⟩:=(show ∃t,u=Value.str x t from r);subst e;exact yf5 P w x t
theorem zw0  : ∀{ks : List Key} {us : List Value}, p7 (ks.map kV) us -> ItemsAre (c9 P w) ks us
  | [],_,r=>by rw[cK]at r;cases r;exact .nil
  | k::ks,_,r=>by
    rw[aQ]at r
    cases r with
    | cons h t=>exact .cons (ye9 h) (zw0 t)
abbrev KT (H:Hp):List (List Key×V)->List (List Key×Addr×Value)->Prop:=Paired λp q=>p.1=q.1/\H q.2.1=some (.tup (p.1.map kV))/\p9 p.2 q.2.2
theorem KT.val (r:KT H kvs xs)(k:List Key):A6 (V4 kvs k) ((atKey xs k).map (·.2)):=by
  induction r with
  | nil=>exact True.intro
  | @cons p q ps qs h t ih =>
    obtain⟨h1,_,h2⟩:=h
    by_cases e:p.1=k
    . have e' : q.1 = k := h1.symm.trans e
      have b:atKey (q::qs) k=some q.2:=by simp[atKey,dh,e']
      rw[c4 e,b];exact h2
    . have e' : ¬q.1 = k := λz => e (h1.trans z)
      have b:atKey (q::qs) k=atKey qs k:=by simp[atKey,dh,e']
      rw[i8 e,b];exact ih
theorem KT.repl {kvs : List (List Key×V)}{xs : List (List Key×Addr×Value)}(r : KT H kvs xs)(k : List Key)(ry : p9 y u) :
    KT H (kvs.map λkv=>if kv.1=k then(kv.1,y) else kv) (xs.map (putAt k u)):=by
  induction r with
  | nil=>exact .nil
  | @cons p q ps qs h t ih =>
    rw[aQ,aQ]
    refine .cons ?_ ih
    obtain⟨h1,h2,h3⟩:=h
    unfold putAt
    by_cases e:p.1=k
    . rw[if_pos e,if_pos (h1.symm.trans e)];exact⟨h1,h2,ry⟩
    . rw[if_neg e,if_neg (λz=>e (h1.trans z))];exact⟨h1,h2,h3⟩
theorem KT.put (r : KT H kvs xs)(k : List Key)(hb : H b = some (.tup (k.map kV)))(ry : p9 y u) :
    KT H (putK kvs k y) (storedH xs k b u):=by
  have e:(kvs.any λkv=>decide (kv.1=k))=(atKey xs k).isSome:=by
    rw[T7,(r.val k).isSome_eq,fz]
  unfold putK storedH
  rw[e]
  by_cases q:(atKey xs k).isSome=true
  . rw[if_pos q,if_pos q];exact r.repl k ry
  . rw[if_neg q,if_neg q];exact Paired.snoc r ⟨rfl,hb,ry⟩
theorem KT.keeps (r:KT H kvs xs)(ht:∀b ys,H b=some (.tup ys)->H' b=some (.tup ys)):KT H' kvs xs :=
  Paired.mapP r λ_ _ z=>⟨z.1,ht _ _ z.2.1,z.2.2⟩
section
variable {P:gf}{w:gq}{H:Hp}{h:Heap}{a:Addr}
theorem xo1 (ok:HOk P w H h)(e:Rd H a u):l7 P w H h a u:=e.ok ok
theorem yp2 {kvs:List (Key×V)}(ok:HOk P w H h)(e:Rd H a (.dK kvs)):kvs.length<=ge/\(a==sysModules)=false/\∃vs,KV kvs vs/\h.DictOf (c9 P w) a vs :=
  show l7 P w H h a (.dK kvs) from xo1 ok e
theorem yy2 {kvs:List (Key×V)}(ok:HOk P w H h)(e:H a=some (.dK kvs)):kvs.length<=ge/\(a==sysModules)=false/\∃vs,KV kvs vs/\h.DictOf (c9 P w) a vs:=yp2 ok (.inl e)
theorem zp2 {ks:List Key}(ok:HOk P w H h)(e:H a=some (.tup (ks.map kV))):(tupleKind (c9 P w)).is h ks a:=by
  obtain⟨_,its,r,o,h1,h2,n,h3⟩:=(show l7 P w H h a (.tup (ks.map kV)) from ok a _ e)
  exact⟨o,its.toArray,n,h1,h2,h3.1,by simpa using zw0 r⟩
theorem yp3 {kvs:List (List Key×V)}(ok:HOk P w H h)(e:Rd H a (.dT kvs)):kvs.length<=ge/\(a==sysModules)=false /\
    ∃xs,KT H kvs xs/\h.DictOfH (tupleKind (c9 P w)) a xs:=by
  obtain⟨z,y,xs,r,o,es,ep,h1,h2,h3,h4,h5⟩:=(show l7 P w H h a (.dT kvs) from xo1 ok e)
  refine⟨z,y,xs,r,o,es,ep,h1,h2,h3,h4,λx hx=>?_,h5⟩
  have all:∀{l:List (List Key×V)} {m:List (List Key×Addr×Value)},KT H l m->∀x∈m,(tupleKind (c9 P w)).is h x.1 x.2.1:=by
    intro l m q
    induction q with
    | nil=>intro x hx;exact nomatch hx
    | @cons p q ps qs hq t ih =>
      intro x hx
      rcases aw.mp hx with e|hx
      . subst e
        exact zp2 ok (by rw[←hq.1];exact hq.2.1)
      . exact ih x hx
  exact all r x hx
theorem yy4 {kvs:List (List Key×V)}(ok:HOk P w H h)(e:H a=some (.dT kvs)):kvs.length<=ge/\(a==sysModules)=false /\
    ∃xs,KT H kvs xs/\h.DictOfH (tupleKind (c9 P w)) a xs:=yp3 ok (.inl e)
end
def V1 (H:Hp)(a:Addr)(y:V)(r:Option V):Prop :=
  (∃kvs k,Rd H a (.dK kvs)/\y=kV k/\r=V4 kvs k)∨∃kvs k b,Rd H a (.dT kvs)/\y=.ref b/\H b=some (.tup (k.map kV))/\r=V4 kvs k
def zm8 (H:Hp)(a:Addr)(y v:V)(H':Hp):Prop :=
  (∃kvs k,H a=some (.dK kvs)/\y=kV k/\kvs.length<ge/\H'=upd H a (.dK (putK kvs k v))) ∨
  ∃kvs k b,H a=some (.dT kvs)/\y=.ref b/\H b=some (.tup (k.map kV))/\kvs.length<ge/\H'=upd H a (.dT (putK kvs k v))
theorem V1.k {k:Key}(e:H a=some (.dK kvs)):V1 H a (kV k) (V4 kvs k):=.inl ⟨kvs,k,.inl e,rfl,rfl⟩
theorem V1.t {k:List Key}(e:H a=some (.dT kvs))(eb:H b=some (.tup (k.map kV))):V1 H a (.ref b) (V4 kvs k):=.inr ⟨kvs,k,b,.inl e,rfl,eb,rfl⟩
theorem zm8.k {kvs:List (Key×V)}{k:Key}(e:H a=some (.dK kvs))(hl:kvs.length<ge):zm8 H a (kV k) v (upd H a (.dK (putK kvs k v))):=.inl ⟨kvs,k,e,rfl,hl,rfl⟩
theorem zm8.t {kvs : List (List Key×V)}{k : List Key}(e : H a = some (.dT kvs))(eb : H b = some (.tup (k.map kV)))(hl : kvs.length<ge) :
    zm8 H a (.ref b) v (upd H a (.dT (putK kvs k v))):=.inr ⟨kvs,k,b,e,rfl,eb,hl,rfl⟩
section
variable {X:Cx}{pins:List (Addr×Obj)}{σ:St}{H:Hp}{s:fZ}{a:Addr}{y v:V}{u r:Value}{o:Option V}{A:gu}{E:Value->fZ->Prop}
theorem Inv.big (I:Inv X pins σ H s):sysModules<s.heap.objs.size:=by
  have h:mainGlobals<s.heap.objs.size:=(I.mod.glob.keeps I.bk).lt
  exact eD (by decide) h
theorem yt2 {Q : Value -> fZ -> Prop}(hu : A.units+1<cLine)(I : Inv X pins σ H s)(g : V1 H a y (some v))(ry : p9 y u)(h : ∀w' s', Inv X pins σ H s' -> p9 v w' -> Q w' s') :
    gh (gn X.prog X.w) A (getItem (.ref a) u) Q E s:=by
  rcases g with⟨kvs,k,e,ey,l⟩|⟨kvs,k,b,e,ey,eb,l⟩
  . subst ey
    obtain⟨z,hd,vs,rel,dd⟩:=yp2 I.hok e
    obtain⟨w',hw,rw'⟩:=A6.some_of (v:=v) (o:=valueAt vs k) (by rw[l];exact rel.val k)
    exact wpAny_getItem_of (ye9 ry) dd.mapOf hw (h w' _ (I.tok _) rw')
  . subst ey
    cases (show u=Value.ref b from ry)
    obtain⟨z,hd,xs,rel,dd⟩:=yp3 I.hok e
    obtain⟨w',hw,rw'⟩:=A6.some_of (v:=v) (o:=(atKey xs k).map (·.2)) (by rw[l];exact rel.val k)
    obtain⟨p,hp,hp2⟩:=fh.mp hw
    refine wpAny_getItem_heap (tupleKind_room_in1 hu) (zp2 I.hok eb) dd hp ?_
    rw[hp2]
    exact h w' _ (I.tok _) rw'
theorem xi4 {Q : Value -> fZ -> Prop}(hu : A.units+1<cLine)(I : Inv X pins σ H s)(g : V1 H a y o)(ry : p9 y u)(h : ∀s', Inv X pins σ H s' -> Q (.bool (!o.isSome)) s') :
    gh (gn X.prog X.w) A (compareOp .NotIn u (.ref a)) Q E s:=by
  rcases g with⟨kvs,k,e,ey,l⟩|⟨kvs,k,b,e,ey,eb,l⟩
  . subst ey
    obtain⟨z,hd,vs,rel,dd⟩:=yp2 I.hok e
    refine wpAny_notIn_of (ye9 ry) hd dd.mapOf ?_
    rw[←(rel.val k).isSome_eq,←l]
    exact h _ (I.tok _)
  . subst ey
    cases (show u=Value.ref b from ry)
    obtain⟨z,hd,xs,rel,dd⟩:=yp3 I.hok e
    refine wpAny_notIn_heap (tupleKind_room_in1 hu) (zp2 I.hok eb) hd dd ?_
    have q:=(rel.val k).isSome_eq
    rw[fz]at q
    rw[←q,←l]
    exact h _ (I.tok _)
theorem zl8 {h' : Heap}(I : Inv X pins σ H s)(mu : Mut (H a))(hs : Heap.SameBut a s.heap h')(he : ∃q, h'.get? a = some q)(new : l7 X.prog X.w (upd H a ob) h' a ob) :
    Inv X pins σ (upd H a ob) { s with heap:=h',toks:=t' } :=
  I.write (x:=a) (e:=a) mu (.inl rfl) (λb q hb z=>(hs.2 b hb).trans z) he new
theorem yy1 {h' : Heap}{kvs : List (Key×V)}(z : kvs.length <= ge)(hd : (a==sysModules) = false)(rel : KV kvs vs)(dd : h'.DictOf (c9 P w) a vs) :
    l7 P w H' h' a (.dK kvs):=⟨z,hd,vs,rel,dd⟩
theorem yt3 {Q : Unit -> fZ -> Prop}(hu : A.units+1<cLine)(I : Inv X pins σ H s)(g : zm8 H a y v H')(ry : p9 y u)(rv : p9 v r)(h : ∀s', Inv X pins σ H' s' -> Q () s') :
    gh (gn X.prog X.w) A (setItem (.ref a) u r) Q E s:=by
  rcases g with⟨kvs,k,e,ey,l,eH⟩|⟨kvs,k,b,e,ey,eb,l,eH⟩
  . subst ey eH
    obtain⟨z,hd,vs,rel,dd⟩:=yy2 I.hok e
    have hz:vs.length<=ge:=by rw[←rel.length];exact z
    have hl:(putK kvs k v).length<=ge:=by have:=N7 kvs k v;lia
    refine wpAny_setItem_pairs (hsz:=hz) (ye9 ry) dd λh' dd' hs=>h _ ?_
    have he:∃q,h'.get? a=some q:=let ⟨q,_,_,hq,_⟩:=dd';⟨q,hq⟩
    exact zl8 I (by rw[e];exact True.intro) hs he (yy1 hl hd (rel.put k rv) dd')
  . subst ey eH
    cases (show u=Value.ref b from ry)
    obtain⟨z,hd,xs,rel,dd⟩:=yy4 I.hok e
    have hz:xs.length<=ge:=by rw[←Paired.length rel];exact z
    have hl:(putK kvs k v).length<=ge:=by have:=N7 kvs k v;lia
    refine wpAny_setItem_heap (hsz:=hz) (tupleKind_room_in1 hu) (zp2 I.hok eb) dd λh' dd' hs=>h _ ?_
    obtain⟨q,es,ep,hq,h2,h3,h4,_,h5⟩:=dd'
    refine zl8 I (by rw[e];exact True.intro) hs ⟨q,hq⟩ ⟨hl,hd,_,(rel.put k eb rv).keeps λc ys ec=>?_,q,es,ep,hq,h2,h3,h4,h5⟩
    rw[z6 (i9 ec e (λz=>nomatch z))]
    exact ec
end
section
variable {X:Cx}{pins:List (Addr×Obj)}{σ:St}{H:Hp}{s:fZ}{a:Addr}{kvs:List (Key×V)}{k:Key}{u:Value}{A:gu}{E:Value->fZ->Prop}
end
def xt5 (i:Expr):Prop:=∀ov iv,subscripted i false ov iv=operate [ov,iv] (getItem ov iv)
theorem xm4 {E : Value -> fZ -> Prop}{value slice : Expr}{pos : Pos}{T id : String}{Q : Value -> fZ -> Prop}
    (hl:typeLookup (.type T) "__getitem__"=pure (some (.builtin id))) (hs:xt5 slice)
    (h:gh (gn prog w) A (eval value env) (λo s₁=>gh (gn prog w) A (eval slice env) (λi s₂=>s₂.TypeIs o T/\gh (gn prog w) A (getItem o i) Q E s₂) E s₁) E s) :
    gh (gn prog w) A (eval (.Subscript value slice pos) env) Q E s:=by
  refine Subscript_ (gw h (λo s₁ h₁=>gw h₁ (λi s₂ h₂=>?_) λ_ _ x=>x) λ_ _ x=>x)
  obtain⟨hT,h₂⟩:=h₂
  unfold subscriptTail
  refine fY ?_
  rw[getitemInPython_of_ne hT.not_modules]
  refine fY (wpAny_specialOf hT hl ?_)
  have fin:gh (gn prog w) A (subscripted slice false o i) (λr s₃=>gh (gn prog w) A (letTemporaryGo value o r >>= λ_=>pure r) Q E s₃) E s₂:=by
    rw[hs o i]
    exact wpAny_operating (gw h₂ (λr s₃ h₃=>fY (wpAny_letTemporaryGo (gc h₃))) λ_ _ x=>x)
  first
    | exact gc (fY fin)
    | exact fY (gc (fY fin))
    | exact fY fin
theorem yd8 {σ:St}{s:fZ}{y:V}{o:Option V}(I:Inv X pins σ H s)(g:V1 H a y o):s.TypeIs (.ref a) "dict":=by
  rcases g with⟨kvs,k,e,_,_⟩|⟨kvs,k,b,e,_,_,_⟩
  . obtain⟨_, _, vs, _, dd⟩ := yp2 I.hok e
    exact dd.typeIs
  . obtain⟨_, _, xs, _, dd⟩ := yp3 I.hok e
    exact dd.typeIs
def xv7 (td ty:TE):TE:=λσ H Q=>td σ H λx H1=>ty σ H1 λy H2=>∃a v,x=.ref a/\V1 H2 a y (some v)/\Q v H2
def xm7 (ty td:TE):TE:=λσ H Q=>ty σ H λy H1=>td σ H1 λx H2=>∃a o,x=.ref a/\V1 H2 a y o/\Q (.bl (!o.isSome)) H2
def xv3 (td ty tv:TE):TS:=λD σ H=>tv σ H λv H1=>td σ H1 λx H2=>ty σ H2 λy H3=>∃a H4,x=.ref a/\zm8 H3 a y v H4/\D.nx σ H4
section
variable {X:Cx}{o i e value:Expr}{pos pos' tpos:Pos}{td ty tv:TE}
theorem Q3 (hu:X.A.units+1<cLine)(ho:PE X o td)(hi:PE X i ty)(hs:xt5 i):PE X (.Subscript o i pos) (xv7 td ty):=by
  intro pins s σ H Q I h
  refine xm4 PySem.F.slot_dict_getitem.lookup hs (thn (ho pins s σ H _ I h) λu s1 ⟨x,H1,I1,rx,q1⟩=>thn (hi pins s1 σ H1 _ I1 q1) λiv s2 ⟨y,H2,I2,ry,a,v,ex,g,q2⟩=>?_)
  subst ex
  obtain rfl:u=Value.ref a:=rx
  exact⟨yd8 I2 g,yt2 hu I2 g ry λw' s3 I3 rw'=>⟨v,H2,I3,rw',q2⟩⟩
theorem K1 (hu:X.A.units+1<cLine)(hi:PE X i ty)(ho:PE X o td):PC X .NotIn i o (xm7 ty td):=by
  intro pins s σ H Q I h
  refine thn (hi pins s σ H _ I h) λiv s1 ⟨y,H1,I1,ry,q1⟩=>thn (ho pins s1 σ H1 _ I1 q1) λu s2 ⟨x,H2,I2,rx,a,ov,ex,g,q2⟩=>?_
  subst ex
  obtain rfl:u=Value.ref a:=rx
  exact xi4 hu I2 g ry λs3 I3=>⟨.bl (!ov.isSome),H2,I3,rfl,q2⟩
theorem J2 (hu : X.A.units+1<cLine)(ho : PE X o td)(hi : PE X i ty)(hv : PE X value tv)(hs : swapsWith value (some (.Subscript o i pos')) pos.line X.env = pure false) :
    PS X (.Assign [.Subscript o i pos'] value pos) (xv3 td ty tv):=by
  intro pins s σ H D I h
  refine wpAny_Assign_Subscript (thn (hv pins s σ H _ I h) λr s1 ⟨v,H1,I1,rv,q1⟩=>thn (ho pins s1 σ H1 _ I1 q1) λu s2 ⟨x,H2,I2,rx,q2⟩=>thn (hi pins s2 σ H2 _ I2 q2) λiv s3 ⟨y,H3,I3,ry,a,H4,ex,g,q3⟩=>?_) hs
  subst ex
  obtain rfl:u=Value.ref a:=rx
  exact yt3 hu I3 g ry rv λs4 I4=>⟨σ,H4,I4,q3⟩
end
theorem yy0 (h:Heap)(hb:sysModules<h.objs.size):l7 P w H (h.push { cls:=.type "dict",data:=.dict #[] }) h.objs.size (.dK []) :=
  ⟨aP _,beq_eq_false_iff_ne.mpr (Ne.symm (aU hb)),[],.nil,Heap.DictOf.new h⟩
theorem ye1 (h:Heap)(hb:sysModules<h.objs.size):l7 P w H (h.push { cls:=.type "dict",data:=.dict #[] }) h.objs.size (.dT []) :=
  ⟨aP _,beq_eq_false_iff_ne.mpr (Ne.symm (aU hb)),[],.nil,_,#[],0,aB _ rfl,⟨rfl,rfl,rfl⟩,rfl,rfl,eV⟩
def xs7:TE:=λ_ H Q=>∀p,H p=none->Q (.ref p) (upd H p (.dT []))
section
variable {X:Cx}{pos:Pos}
theorem zq4:PE X (.Dict [] [] pos) xs7:=λpins s σ H Q I h =>
  wpAny_Dict_empty ⟨.ref s.heap.objs.size,_,I.laid (a:=s.heap.objs.size) (o:=.dT []) (t':=s.toks) (λ_ _ q=>ao _ q) (ag _) (ye1 s.heap I.big),rfl,h _ (I.hok.fresh (ag _))⟩
end
def yn8 : List (TE×TE) -> St -> Hp -> (List (V×V) -> Hp -> Prop) -> Prop
  | [],_,H,Q=>Q [] H
  | (tk,tv)::r,σ,H,Q=>tk σ H λx H1=>tv σ H1 λy H2=>yn8 r σ H2 λps H3=>Q ((x,y)::ps) H3
abbrev VV:List (V×V)->List (Value×Value)->Prop:=Paired λp q=>p9 p.1 q.1/\p9 p.2 q.2
def PPs (X:Cx)(pos:Pos)(keys:List (Option Expr))(values:List Expr)(trs:List (TE×TE)):Prop :=
  ∀(pins:List (Addr×Obj)) (s:fZ) (σ:St) (H:Hp) (Q:List (V×V)->Hp->Prop),Inv X pins σ H s->yn8 trs σ H Q ->
    gh (gn X.prog X.w) X.A (evalPairs (pairTrees keys values X.env pos)) (λvs s'=>∃ps H',Inv X pins σ H' s'/\VV ps vs/\Q ps H') X.xe s
theorem ya4 :PPs X pos [] [] []:=λpins s σ H Q I h=>pairTrees_nil_walk ⟨[],H,I,.nil,h⟩
theorem zq8 (hk : PE X k tk)(hv : PE X v tv)(hr : PPs X pos ks vs trs) :
    PPs X pos (some k::ks) (v::vs) ((tk,tv)::trs):=λpins s σ H Q I h =>
  pairTrees_cons_walk (thn (hk pins s σ H _ I h) λu s1 ⟨x,H1,I1,rx,q1⟩=>thn (hv pins s1 σ H1 _ I1 q1) λw2 s2 ⟨y,H2,I2,ry,q2⟩ =>
    thn (hr pins s2 σ H2 _ I2 q2) λws s3 ⟨ps,H3,I3,rel,q3⟩=>⟨(x,y)::ps,H3,I3,.cons ⟨rx,ry⟩ rel,q3⟩)
def U0 (kvs more:List (Key×V)):List (Key×V):=more.foldl (λacc kv=>putK acc kv.1 kv.2) kvs
theorem KV.merge:∀{more:List (Key×V)} {rs:List (Key×Value)} {kvs:List (Key×V)} {vs:List (Key×Value)},KV more rs->KV kvs vs->KV (U0 kvs more) (merged vs rs):=by
  intro more rs kvs vs r
  unfold KV at r
  induction r generalizing kvs vs with
  | nil=>intro q;exact q
  | @cons p q ps qs h t ih =>
    intro r0
    have e:KV (putK kvs p.1 p.2) (stored vs q.1 q.2):=by
      have:=r0.put p.1 h.2
      rw[←h.1];exact this
    exact ih e
theorem za3 : ∀(more kvs : List (Key×V)), (U0 kvs more).length <= kvs.length+more.length
  | [],kvs=>by show kvs.length<=kvs.length+0;lia
  | p::r,kvs=>by
    have h1:=za3 r (putK kvs p.1 p.2)
    have h2:=N7 kvs p.1 p.2
    show(U0 (putK kvs p.1 p.2) r).length<=_
    rw[aC];lia
theorem zn6  : ∀{kvs : List (Key×V)} {ws : List (Value×Value)}, VV (kvs.map λkv => (kV kv.1, kv.2)) ws -> ∃rs, Carries (c9 P w) ws rs /\ KV kvs rs
  | [],_,r=>by rw[cK]at r;cases r;exact⟨[],True.intro,.nil⟩
  | p::kvs,_,r=>by
    rw[aQ]at r
    cases r with
    | @cons a b as bs h t =>
      obtain⟨rs,c,q⟩:=zn6 (P:=P) (w:=w) t
      obtain⟨b1,b2⟩:=b
      exact⟨(p.1,b2)::rs,⟨ye9 h.1,rfl,c⟩,.cons ⟨rfl,h.2⟩ q⟩
def xv8 (trs:List (TE×TE)):TE:=λσ H Q=>∀p,H p=none->yn8 trs σ (upd H p (.dK [])) λps H2=>H2 p=some (.dK [])/\∃kvs:List (Key×V),ps=kvs.map (λkv=>(kV kv.1,kv.2))/\kvs.length<=15/\Q (.ref p) (upd H2 p (.dK (U0 [] kvs)))
theorem ya0 {keys : List (Option Expr)}{values : List Expr}(h : PPs X pos keys values trs)(hall : keys.all (·.isSome) = true)(hl : keys.length = values.length)(h0 : keys ≠ [])
    (h15:keys.length<=15):PE X (.Dict keys values pos) (xv8 trs):=by
  intro pins s σ H Q I q
  have hn:=I.hok.fresh (ag s.heap.objs.size)
  have I1:=I.laid (a:=s.heap.objs.size) (o:=.dK []) (h':=s.heap.push { cls:=.type "dict",data:=.dict #[] }) (t':=s.toks) (λ_ _ q=>ao _ q) (ag _) (yy0 s.heap I.big)
  refine wpAny_Dict_walk (knd:=c9 X.prog X.w) hall hl h0 h15 (thn (h pins _ σ _ _ I1 (q _ hn)) λws s2 ⟨ps,H2,I2,rel,e,kvs,ep,lk,q2⟩=>?_)
  subst ep
  obtain⟨rs,c,rk⟩:=zn6 (P:=X.prog) (w:=X.w) rel
  obtain⟨z,hd,vs0,r0,dd⟩:=yy2 I2.hok e
  cases r0
  refine⟨rs,c,dd,λh' dd' hs=>⟨.ref s.heap.objs.size,_,?_,rfl,q2⟩⟩
  have hz:(U0 [] kvs).length<=ge:=by
    have h1:=za3 kvs []
    rw[dF]at h1
    rw[sizeLine_eq];lia
  have he:∃q,h'.get? s.heap.objs.size=some q:=let ⟨q,_,_,hq,_⟩:=dd';⟨q,hq⟩
  exact zl8 I2 (by rw[e];exact True.intro) hs he (yy1 hz hd (rk.merge .nil) dd')
structure M2 (X:Cx) (o:Expr) (m:Str) (apos:Pos) (e f:Expr) (cpos:Pos):Prop where
  base:attributeBase o m X.env (eval o X.env)=eval o X.env
  few : ((backTo cpos (gl [e, f] X.env)).all (λx => !x.1)&&(backToKw cpos (gA [] X.env)).all (λx => x.1.isSome)
    && decide (([e,f]:List Expr).length+([]:List Keyword).length+(if ([]:List Keyword).isEmpty then 0 else 1)<30))=true
  line:(apos.endLine==cpos.line)=true
  trees:backTo cpos (gl [e,f] X.env)=[(false,eval e X.env),(false,eval f X.env)]
section
variable {X:Cx}{pins:List (Addr×Obj)}{σ:St}{H:Hp}{s:fZ}{a:Addr}{y d:V}{u r:Value}{o:Option V}{A:gu}{E:Value->fZ->Prop}
end
section
variable {X:Cx}{o e f:Expr}{apos cpos:Pos}{td ty tx:TE}
end
section
variable {X:Cx}{pins:List (Addr×Obj)}{σ:St}{H:Hp}{s:fZ}{a:Addr}{kvs:List (Key×V)}{A:gu}{E:Value->fZ->Prop}
end
section
variable {X:Cx}{pins:List (Addr×Obj)}{σ:St}{H:Hp}{s:fZ}{a:Addr}{y:V}{u:Value}{A:gu}{E:Value->fZ->Prop}
end
end L2
namespace Att
open PySem PySem.W PySem.Calls PyProof.Rows
theorem zk7 :∀(ns:List Int) (vs:List Value),WellAll P h vs (ns.map WData.int)->IntsAre vs ns:=by
  intro ns
  induction ns with
  | nil =>
    intro vs w
    rw[cK]at w
    cases w
    exact .nil
  | cons n ns ih =>
    intro vs w
    rw[aQ]at w
    cases w with
    | cons a b =>
      cases a
      exact .cons _ _ (ih _ b)
theorem yw1 {l : OpenLaw}(hn : l.most = some n){h : Heap}
    (hpre:l.row.toRowW.claim.pre args=true) (hwl:WellAll P h vals args) :
    ∃a vs ns,vals=[Value.ref a]/\args=[WData.list (ns.map WData.int)]/\h.get? a=some { cls:=.type "list",data:=.seq vs.toArray }/\IntsAre vs ns/\ns.length<=n:=by
  have hsh:WShape.hasAll [] args [.list .int]=true:=(pre_splitW hpre).1
  have hc:l.pre.holds [] { args:=args }=true:=(pre_splitW hpre).2
  obtain⟨d,r,rfl,h1,h2⟩:=hasAllW_cons hsh
  obtain rfl:=hasAllW_nil h2
  obtain⟨xs,rfl,h3⟩:=hasW_list h1
  obtain⟨ns,rfl⟩:=items_int h3
  have hlen:ns.length<=n:=by
    unfold OpenLaw.pre at hc
    have h4:(WTm.not (.lt (.lit (.int n)) (.len (.arg 0)))).holds [] { args:=[.list (ns.map .int)] }=true:=by
      have h4:=(holds_andW hc).1
      rw[hn]at h4
      exact h4
    have h5:=condW_of h4 (w_not (w_lt w_lit (w_len_list (w_arg rfl))))
    rw[aa]at h5
    refine cH λq=>?_
    have q':(n:Int)<((ns.length:Nat):Int):=by lia
    first
      | (rw[decide_eq_true q']at h5;exact absurd h5 (by decide))
      | (simp at h5;lia)
  cases hwl with
  | cons w1 w2 =>
    cases w2
    cases w1 with
    | list ho hall=>exact⟨_,_,ns,rfl,rfl,ho,zk7 ns _ hall,hlen⟩
theorem yv6 (l:OpenLaw)(args:List WData):l.row.toRowW.claim.post args (.bool true) args=true :=
  postW_of (r := l.row.toRowW) (X := (true==true))
    (show WShape.has [] (.bool true) .bool=true by first|rfl|decide|simp[WShape.has,WShape.arms,WShape.armsAll])
    (show(WTm.eq .res (.lit (.bool true))).value [] { args:=args,res:=some (.bool true),after:=args }=some (.bool (true==true)) from w_eq_bool (w_res rfl) w_lit) rfl
section
variable {prog:gf}{w:gq}{A:gu}{E:Value->fZ->Prop}{s:fZ}{K:Frag}
end
end Att
namespace L2
open PySem PySem.Spec PyProof.Rows
theorem zj3 : ∀{vs : List Value} {ns : List Int}, IntsAre vs ns -> p7 (ns.map V.int) vs
  | _,_,.nil=>.nil
  | _,_,.cons n t h=>.cons ⟨t,rfl⟩ (zj3 h)
def Only (H:Hp):Prop:=∀b,H b=none∨∃o xs,H b=some (.frz o (.lst xs))
theorem xb5 {K : W.Frag}{mg mb : Str -> Option Value}{s₁ : fZ}{vs : List Value}{ns : List Int}
    (KX:K.In s₁.heap) (hns:s₁.heap.Ns mainGlobals mg) (hb:s₁.heap.Ns builtinsNs mb) (hbb:∀x:Str,x≠"__name__"->mb x=gz x) (hlim:s₁.heap.NoLimit) (hg:s₁.gens=#[])
    (ha:s₁.heap.get? a=some { cls:=.type "list",data:=.seq vs.toArray }) (hi:IntsAre vs ns) (hl:ns.length<=ge) (hr:Z8 k callerA)
    (F:∀base:Heap,K.In base->base.Ns mainGlobals mg->u8 P w K mg base CX k fa fd [x] sp) (hbind:∀(s:fZ) (u:Value),BindsTo s fd ⟨[u],[]⟩ [(x,u)])
    (hsp:∀H:Hp,Only H->SqL K H a (ns.map V.int)->sp [.ref a] H (λv _=>v=.bl true) λ_ _ _=>False)
    (hCX:∀H e s',CX [] H s₁ (λ_ _ _=>False) e s'->False) :
    codeAny (gn P w) callerA (.call (.ref fa) ⟨[.ref a],[]⟩) (λr s'=>r=.ok (.ret (.bool true))/\OldK s₁.heap s'.heap/\s'.os=s₁.os/\AllBare s'.gens) s₁:=by
  have rv:=zj3 hi
  have lenV:=hi.length
  have core:∀H:Hp,Only H->SqL K H a (ns.map V.int)->HOk P w H s₁.heap->(∀b,H b≠none->b=a)->(H a≠none->K.lookup a=none) ->
      codeAny (gn P w) callerA (.call (.ref fa) ⟨[.ref a],[]⟩) (λr s'=>r=.ok (.ret (.bool true))/\OldK s₁.heap s'.heap/\s'.os=s₁.os/\AllBare s'.gens) s₁:=by
    intro H hO hS hok hA hK
    have base_of:∀{b:Addr} {o:Obj},s₁.heap.get? b=some o->H b=none->(zy3 s₁.heap H).get? b=some o:=λe n=>yz4 e n
    have noA:∀{b:Addr} {o:Obj} {es:Array DictEntry} {ep:Nat},s₁.heap.get? b=some o->o.data=.dict es ep->H b=none:=λ{b o es ep} e d=>by
      cases q:H b with
      | none=>rfl
      | some u =>
        have e':b=a:=hA b (by rw[q];simp)
        subst e'
        rw[ha]at e;cases e
        have d':Data.seq vs.toArray _=Data.dict es ep:=d
        cases d'
    have nsK:∀{b:Addr} {m:Str->Option Value},s₁.heap.Ns b m->(zy3 s₁.heap H).Ns b m:=λ{b m} ⟨o,es,ep,e,d,r⟩=>⟨o,es,ep,base_of e (noA e d),d,r⟩
    have hKb:K.In (zy3 s₁.heap H):=λb o e=>base_of (KX b o e) (by
      cases q:H b with
      | none=>rfl
      | some u =>
        have e':b=a:=hA b (by rw[q];simp)
        subst e'
        rw[hK (by rw[q];simp)]at e;cases e)
    have hM:Mod K mg (zy3 s₁.heap H):=⟨hKb,nsK hns,⟨mb,nsK hb,hbb⟩,let ⟨mc,h1,h2⟩:=hlim;⟨mc,nsK h1,h2⟩⟩
    have e0:yj4 P w K mg (zy3 s₁.heap H) callerA [] s₁ H:=⟨rfl,hM,λb o e=>xk0 e,eE (yt7 _ _),trivial,λb hb=>absurd (show b∈([]:List Addr) from hb) (by simp),hok,.of_eq hg⟩
    refine codeAny_mono ((F _ hKb (nsK hns)).run callerA [] s₁ H ⟨[.ref a],[]⟩ [.ref a] [.ref a] _ _ hr e0 (hbind s₁ (.ref a)) (.cons rfl .nil) (hsp H hO hS)) λr s' h=>?_
    cases r with
    | error e=>exact(hCX H e s' h).elim
    | ok fl =>
      cases fl with
      | next=>exact False.elim h
      | brk=>exact False.elim h
      | cont=>exact False.elim h
      | ret u =>
        obtain⟨v,H',os,bare,un,hok',r',q⟩:=h
        have q':v=.bl true:=q
        subst q'
        obtain rfl:u=Value.bool true:=r'
        refine⟨rfl,OldK.of_keep λb o e=>?_,os,bare⟩
        cases q:H b with
        | none=>exact un.keep b o e q (by intro z;exact absurd (show b∈([]:List Addr) from z) (by simp)) (by simp)
        | some u =>
          rcases hO b with z|⟨ob,xs,z⟩
          . rw[q]at z;cases z
          . have z2 := un.frzs b ob _ z
            obtain⟨e1,_⟩:=hok b _ z
            obtain⟨e2,_⟩:=hok' b _ z2
            rw[e]at e1;cases e1
            exact e2
  cases hk:K.lookup a with
  | some o =>
    have e:=KX a o hk
    rw[ha]at e
    cases e
    refine core (λ_=>none) (λ_=>.inl rfl) (.inr ⟨_,vs.toArray,_,hk,rfl,rfl,rfl,by rw[aA,lenV];exact hl,by simpa using rv⟩) (λb u z=>by have z':(none:Option HO)=some u:=z;cases z') (λb z=>absurd rfl z) λz=>absurd rfl z
  | none =>
    refine core (λb=>if b=a then some (.frz { cls:=.type "list",data:=.seq vs.toArray } (.lst (ns.map V.int))) else none) (λb=>?_) (.inl (.inr ⟨{ cls:=.type "list",data:=.seq vs.toArray },if_pos rfl⟩)) (λb u z=>?_) (λb z=>?_) λ_=>hk
    . by_cases hb : b = a
      . exact .inr ⟨_,_,if_pos hb⟩
      . exact .inl (if_neg hb)
    . by_cases hb : b = a
      . have z' := (if_pos hb).symm.trans z
        cases z'
        subst hb
        exact⟨ha,by rw[aa];exact hl,vs,_,rv,ha⟩
      . have z' := (if_neg hb).symm.trans z
        cases z'
    . by_cases hb : b = a
      . exact hb
      . exact absurd (if_neg hb) z
end L2
namespace L2
open PySem PySem.Spec PyProof.Rows
def X9 (s:Stmt):Arguments:=match s with
  | .FunctionDef _ a _ _ _ _ _ _ _ _=>a
  | _=>{ posonlyargs:=[],args:=[],vararg:=none,kwonlyargs:=[],kw_defaults:=[],kwarg:=none,defaults:=[] }
def Z4 (s:Stmt):List Stmt:=match s with
  | .FunctionDef _ _ b _ _ _ _ _ _ _=>b
  | _=>[]
def z9 (s:Stmt):Scope:=match s with
  | .FunctionDef _ _ _ _ _ _ sc _ _ _=>sc
  | _=>{ kind:=.function,names:=[],isGenerator:=false,isCoroutine:=false }
abbrev CX0:CXT:=λ_ _ _ _ _ _=>False
abbrev E0:XK:=λ_ _ _=>False
theorem zw3 :E9 CX0 X E0:=λ_ _ _ _ _ _ _ h=>h.elim
structure Fun (K:W.Frag) (x qual:Str) (st:Stmt) (f:Addr) (fd:gB):Prop where
  ex:∃(oc:Value) (od:Option Addr) (kV doc pm:Value) (an:Option Addr) (cdv ct:Value) (osl:Array (Option Value)),
    fd=W.fnOf x qual (X9 st) (Z4 st) (z9 st) .none kV doc pm an cdv ct/\K.lookup f=some ⟨oc,od,.func fd,osl⟩/\W.codeIn K cdv qual=true
  kp:W.keepIn K (.ref f)=true
section
variable {P:gf}{w:gq}{K:W.Frag}{mg:Str->Option Value}{base:Heap}
theorem Fun.ok {st : Stmt}{N ps : List Str}{sp : Sp}(F : Fun K x qual st f fd)(S : x9 N ps (z9 st))(len : ∀vs H Q E, sp vs H Q E -> vs.length = ps.length)
    (hbody:∀(cdv:Value) (A:gu) (outer:List Env) (s:fZ) (H:Hp) (vs:List V) (Q:VK) (E:XK),Z8 k (A.deeper (envOfC qual (z9 st) s.heap.objs.size f cdv))->sp vs H Q E ->
      ∃t,PSs (X8 CX0 P w K mg base N qual (z9 st) f cdv A outer s H E).nox (Z4 st) t/\t { nx:=λ_ H'=>Q .non H',rt:=Q } (start N vs) H):u8 P w K mg base CX0 (k+1) f fd ps sp:=by
  obtain⟨oc,od,kV,doc,pm,an,cdv,ct,osl,rfl,lk,hcd⟩:=F.ex
  refine yz1 lk hcd S len λA outer s H vs Q E hr hsp=>?_
  obtain⟨t,h,q⟩:=hbody cdv A outer s H vs Q E hr hsp
  exact⟨t,h.nox,q⟩
theorem Fun.binds {st : Stmt}{ps : List Str}(F : Fun K x qual st f fd)
    (h:∀(kV doc pm:Value) (an:Option Addr) (cdv ct:Value) (us:List Value),us.length=ps.length->bindArgs (W.fnOf x qual (X9 st) (Z4 st) (z9 st) .none kV doc pm an cdv ct) ⟨us,[]⟩=pure (ps.zip us)):W3 K fd ps []:=by
  obtain⟨oc,od,kV,doc,pm,an,cdv,ct,osl,rfl,lk,hcd⟩:=F.ex
  exact .all (h kV doc pm an cdv ct)
theorem zo3 {st : Stmt}{osl : Array (Option Value)}{kV doc pm cdv ct : Value}(l : K.lookup f = some ⟨oc, od, .func (W.fnOf x qual (X9 st) (Z4 st) (z9 st) .none kV doc pm an cdv ct), osl⟩)
    (c:W.codeIn K cdv qual=true) (k:W.keepIn K (.ref f)=true):Fun K x qual st f (W.fnOf x qual (X9 st) (Z4 st) (z9 st) .none kV doc pm an cdv ct):=⟨⟨oc,od,kV,doc,pm,an,cdv,ct,osl,rfl,l,c⟩,k⟩
end
theorem ye5 {A:gu}(hr:Z8 k A):A.units+1<cLine:=di (Nat.add_le_add_left (by decide:1<=64) _) hr.units
theorem zi6 (h:n<=1000):n<ge:=di h (by decide)
section
variable {X:Cx}
theorem pv (i : Nat){pos : Pos}(hN : X.N[i]? = some x := by rfl)(hv : Vis X.env.scope x := by first|exact Or.inl rfl|exact Or.inr (Or.inl rfl)|exact Or.inr (Or.inr rfl))(hd : (x==("__debug__" : Str)) = false := by decide)
    (hcd:(x==("__classdict__":Str))=false:=by decide):PE X (.Name x pos) (xw4 i):=xr8 hN hv hd hcd
end
theorem g7 {A B:Prop}(h:B):if false=true then A else B:=by
  rw[if_neg aD]
  exact h
theorem Y2 {A B:Prop}(h:A):if true=true then A else B:=by
  rw[if_pos rfl]
  exact h
theorem ye7 {c A B:Prop}[Decidable c](h1:c->A)(h2:¬c->B):if c then A else B:=by
  by_cases h:c
  . rw[if_pos h]
    exact h1 h
  . rw[if_neg h]
    exact h2 h
def y6 (H H':Hp):Prop:=∀b o,H b=some o->H' b=some o
theorem y6.refl (H:Hp):y6 H H:=λ_ _ h=>h
theorem y6.trans (a:y6 H H1)(b:y6 H1 H2):y6 H H2:=λc o h=>b c o (a c o h)
theorem y6.free (e:y6 H H')(h:H' l=Option.none):H l=Option.none:=by
  cases q:H l with
  | none=>rfl
  | some o =>
    rw[e l o q]at h
    cases h
theorem y6.seq {K:W.Frag}(e:y6 H H')(h:SqL K H a xs):SqL K H' a xs:=by
  rcases h with (h|⟨o,h⟩)|h
  . exact .inl (.inl (e _ _ h))
  . exact .inl (.inr ⟨o,e _ _ h⟩)
  . exact .inr h
section
variable {X:Cx}
end
section
variable {κ:Type}[DecidableEq κ]
end
end L2
set_option maxHeartbeats 4000000
namespace Att
open PySem PySem.W PySem.Calls PyProof.Rows
theorem ys5 {ns:List Int}(h:(WData.list (ns.map WData.int)).layable=true)(hz:z∈ns):Builtin.Int.intBits z<=2 ^ 20:=by
 have h1:=layableW_item h (WData.int z) (ay.mpr ⟨z,hz,rfl⟩)
 obtain⟨_,_,h3⟩:=layableW_iff.mp h1
 simpa only[WData.weight,Builtin.Int.intBits] using h3
theorem attach_callB {l:OpenLaw}{XP:(Str->Option Value)->Heap->Prop}{YP:gq->Heap->Prop}{d:DefRec}
  (hn:l.most=some n) (hdf:d.params.defaults=[])
  (call:∀(w:gq) (s₀ s₁:fZ) (mg mb:Str->Option Value) (fa:Addr) (o:Obj) (pm cd doc:Value) (a:Addr) (vs:List Value) (ns:List Int),
   Ground q loose [] XP w s₀ mg mb s₁.heap->YP w s₁.heap ->
   s₁.heap.get? fa=some o->o.data=.func (docDef d.name d.params d.body d.scope pm cd doc)->s₁.heap.CodeRec cd d.name->mg d.name=some (.ref fa) ->
   s₁.heap.get? a=some { cls:=.type "list",data:=.seq vs.toArray }->IntsAre vs ns->ns.length<=n->(∀z∈ns,Builtin.Int.intBits z<=2 ^ 20)->s₁.gens=#[] ->
   codeAny (gn l.prog w) callerA (.call (.ref fa) ⟨[.ref a],[]⟩) (λr s'=>r=.ok (.ret (.bool true))/\OldK s₁.heap s'.heap/\s'.os=s₁.os/\AllBare s'.gens) s₁) :
  WalkO q loose XP YP l.row.toRowW d [] (λf vs=>PySem.call f vs):=by
 intro w s₀ s₁ mg mb G Y fa o pm cd doc dV kV ho hd hcd hD hmg hg args vals as hpre hlay hrd hwl hlo
 obtain rfl:dV=.none:=Dflts.none hD hdf
 obtain rfl:kV=.none:=Dflts.noKw hD
 obtain⟨a,vs,ns,rfl,rfl,hobj,hints,hlen⟩:=yw1 hn hpre hwl
 have hbits:∀z∈ns,Builtin.Int.intBits z<=2 ^ 20:=λz hz=>ys5 (layableW_arg hlay _ ax) hz
 refine enter_call (codeAny_mono (call w s₀ s₁ mg mb fa o pm cd doc a vs ns G Y ho (fd_plain hd) hcd hmg hobj hints hlen hbits hg) λr s' hq=>?_)
 obtain⟨rfl,h2,h3,h4⟩:=hq
 exact⟨.inl ⟨.bool true,.bool true,[],rfl,λ_=>rfl,.bool true,yv6 l _,λ_=>⟨List.Pairwise.nil,λ_ hm=>(nomatch hm)⟩⟩,h2,h3,h4⟩
end Att
namespace L2
open PySem PySem.Spec PyProof.Rows
theorem walk_ofB {l:W.OpenLaw}{XP:(Str->Option Value)->Heap->Prop}{YP:gq->Heap->Prop}{d:DefRec}{K:Params->W.Frag}{sp:W.Frag->Sp}
  (hn:l.most=some n) (hn2:n<=ge) (hdf:d.params.defaults=[]) (hr:Z8 k callerA)
  (hY:∀(w:gq) (h:Heap),YP w h->(K w.params).In h)
  (F:∀(w:gq) (mg:Str->Option Value) (fa:Addr) (h:Heap),(K w.params).In h->h.Ns mainGlobals mg->mg d.name=some (.ref fa) ->
   ∃fd:gB,(∀(s:fZ) (u:Value),BindsTo s fd ⟨[u],[]⟩ [(x,u)]) /\
    ∀base:Heap,(K w.params).In base->base.Ns mainGlobals mg->u8 l.prog w (K w.params) mg base CX k fa fd [x] (sp (K w.params)))
  (hsp:∀(K:W.Frag) (H:Hp) (a:Addr) (ns:List Int),ns.length<=n->(∀z∈ns,Builtin.Int.intBits z<=2 ^ 20)->Only H->SqL K H a (ns.map V.int)->sp K [.ref a] H (λv _=>v=.bl true) λ_ _ _=>False)
  (hCX:∀(H:Hp) (s:fZ) (e:Value) (s':fZ),CX [] H s (λ_ _ _=>False) e s'->False) :
  W.WalkO q loose XP YP l.row.toRowW d [] (λf vs=>PySem.call f vs):=by
 refine Att.attach_callB hn hdf λw s₀ s₁ mg mb fa o pm cd doc a vs ns G Y ho hd hcd hmg hobj hints hlen hbits hg=>?_
 have KX:=hY w _ Y
 obtain⟨fd,hb,hF⟩:=F w mg fa _ KX G.T.g hmg
 exact xb5 KX G.T.g G.T.b G.T.builtins G.T.nolimit hg hobj hints (aO hlen hn2) hr hF hb (λH hO hS=>hsp (K w.params) H a ns hlen hbits hO hS) λH e s'=>hCX H s₁ e s'
section
variable {X:Cx}
end
theorem yt5 {α β:Type}{l:List α}{f:α->β->Sem (ForInStep β)}{g:β->α->β}:∀(c:β),(∀x∈l,∀c,f x c=pure (.yield (g c x)))->forIn l c f=pure (l.foldl g c):=by
 induction l with
 | nil=>intro c _;rfl
 | cons x l ih =>
  intro c h
  rw[dQ,h x ax,pure_bind]
  exact ih _ λy hy=>h y (av _ hy)
def Y6 (cells:List (Str×Addr))(cs:List (Str×Addr))(x:Str×NameKind):List (Str×Addr):=if (x.2==NameKind.free)=true then(x.1,(cells.lookup x.1).getD 0)::cs else cs
def za1 (cells:List (Str×Addr))(names:List (Str×NameKind)):List (Str×Addr):=names.foldl (Y6 cells) []
theorem D4 {scope:Scope}{env:Env}(h:∀y∈scope.names,y.2=.free->∃c,env.cells.lookup y.1=some c):closureFor scope env=pure (za1 env.cells scope.names):=by
 simp only[closureFor]
 rw[yt5 (g:=Y6 env.cells) [] (λx hx c=>by
  obtain⟨n,k⟩:=x
  by_cases hk:k=.free
  ·subst hk
   obtain⟨a,ha⟩:=h _ hx rfl
   have ha':env.cells.lookup n=some a:=ha
   simp only[Y6,beq_self_eq_true,if_true,cellOf,ha',dC,pure_bind]
  ·have hb:(k==NameKind.free)=false:=by simpa using hk
   simp only[Y6,hb,bN,if_false])]
 rfl
theorem zg4 {cells:List (Str×Addr)}:∀{names:List (Str×NameKind)} {cs:List (Str×Addr)},(∀y∈names,y.2=.free->∃c,cells.lookup y.1=some c)->(∀x c,cs.lookup x=some c->cells.lookup x=some c) ->
  ∀x c,(names.foldl (Y6 cells) cs).lookup x=some c->cells.lookup x=some c
 | [],cs,_,h,x,c,e=>h x c e
 | (n,k)::r,cs,hn,h,x,c,e=>by
  refine zg4 (names:=r) (λy hy=>hn y (av _ hy)) (λx c e=>?_) x c e
  by_cases hk:k=.free
  ·subst hk
   obtain⟨a,ha⟩:=hn (n,.free) ax rfl
   have ha':cells.lookup n=some a:=ha
   simp only[Y6,beq_self_eq_true,if_true,ha',dC,bh]at e
   cases q:x==n with
   | true =>
    rw[q]at e
    have q':x=n:=by simpa using q
    rw[q',ha']
    exact e
   | false =>
    rw[q]at e
    exact h x c e
  ·have hb:(k==NameKind.free)=false:=by simpa using hk
   simp only[Y6,hb,bN,if_false]at e
   exact h x c e
theorem L4 :∀{names:List (Str×NameKind)} {cs:List (Str×Addr)},((x,NameKind.free)∈names∨∃c,cs.lookup x=some c)->∃c,(names.foldl (Y6 cells) cs).lookup x=some c
 | [],cs,h=>by
  rcases h with h|h
  ·cases h
  ·exact h
 | (n,k)::r,cs,h=>by
  refine L4 (names:=r) (cs:=Y6 cells cs (n,k)) ?_
  rcases h with h|⟨c,h⟩
  ·rcases aw.mp h with e|e
   ·cases e
    right
    simp[Y6]
   ·exact .inl e
  ·right
   by_cases hk:k=.free
   ·subst hk
    simp only[Y6,beq_self_eq_true,if_true,bh]
    cases x==n with
    | true=>exact⟨_,rfl⟩
    | false=>exact⟨c,h⟩
   ·have hb:(k==NameKind.free)=false:=by simpa using hk
    simp only[Y6,hb,bN,if_false]
    exact⟨c,h⟩
def zg5 (sc osc:Scope)(fr:List Str):Bool :=
 sc.kind == .function&&(sc.names.all λy=>y.2 != .cell)&&(sc.names.all λy=>y.2 != .local || sc.names.lookup y.1==some .local) &&
 (sc.names.all λy=>y.2 != .free || (osc.names.lookup y.1==some .cell || osc.names.lookup y.1==some .free))&&(fr.all λx=>sc.names.lookup x==some .free)
structure yj3 (sc osc:Scope) (fr:List Str):Prop where
 kind:sc.kind=.function
 cell:∀y∈sc.names,y.2≠.cell
 loc:∀y∈sc.names,y.2=.local->sc.names.lookup y.1=some .local
 free:∀y∈sc.names,y.2=.free->osc.names.lookup y.1=some .cell∨osc.names.lookup y.1=some .free
 fr:∀x∈fr,sc.names.lookup x=some .free
theorem zv8 (h:zg5 sc osc fr=true):yj3 sc osc fr:=by
 unfold zg5 at h
 rw[cf,cf,cf,cf]at h
 obtain⟨⟨⟨⟨h1,h2⟩,h3⟩,h4⟩,h5⟩:=h
 refine⟨by simpa using h1,λy hy=>?_,λy hy e=>?_,λy hy e=>?_,λx hx=>?_⟩
 ·simpa using bu.mp h2 y hy
 ·have:=bu.mp h3 y hy
  rw[e]at this
  simpa using this
 ·have:=bu.mp h4 y hy
  rw[e]at this
  simpa using this
 ·simpa using bu.mp h5 x hx
theorem mem_of_lookup :∀{l:List (Str×NameKind)},l.lookup x=some k->(x,k)∈l
 | [],h=>by cases h
 | (n,j)::r,h=>by
  rw[bh]at h
  cases q:x==n with
  | true =>
   rw[q]at h
   have q':x=n:=by simpa using q
   cases h
   rw[q']
   exact ax
  | false =>
   rw[q]at h
   exact av _ (mem_of_lookup h)
theorem W6 {env:Env}:∀{names:List (Str×NameKind)} {x:Str},names.lookup x=some .free ->
  (names.map λ(n,k)=>if (k==NameKind.free&&env.scope.kind == .function&&env.kindOf n==some .cell) then(n,NameKind.cell) else(n,k)).lookup x=some .cell ∨
  (names.map λ(n,k)=>if (k==NameKind.free&&env.scope.kind == .function&&env.kindOf n==some .cell) then(n,NameKind.cell) else(n,k)).lookup x=some .free
 | [],_,h=>by cases h
 | (n,k)::r,x,h=>by
  have ih:=@W6 env r x
  show List.lookup x ((if (k==NameKind.free&&env.scope.kind == .function&&env.kindOf n==some .cell)=true then(n,NameKind.cell) else(n,k))::_)=_∨List.lookup x ((if (k==NameKind.free&&env.scope.kind == .function&&env.kindOf n==some .cell)=true then(n,NameKind.cell) else(n,k))::_)=_
  rw[bh]at h
  by_cases hc:(k==NameKind.free&&env.scope.kind == .function&&env.kindOf n==some .cell)=true
  ·rw[if_pos hc]
   simp only[bh]
   cases hx:x==n with
   | true=>exact .inl rfl
   | false=>rw[hx]at h;exact ih h
  ·rw[if_neg hc]
   simp only[bh]
   cases hx:x==n with
   | true=>rw[hx]at h;exact .inr h
   | false=>rw[hx]at h;exact ih h
def W5 (X:Cx)(N':List Str)(scope:Scope)(C:Addr)(s₃:fZ)(H₃:Hp)(fp:List Addr):Cx where
 prog:=X.prog
 w:=X.w
 K:=X.K
 mg:=X.mg
 base:=X.base
 A:=X.A
 N:=N'
 s₀:=s₃
 H₀:=H₃
 env:=compEnvC scope (za1 X.env.cells scope.names) C X.env
 outer:=X.stack
 stack:=X.stack
 ex:=fp
 fn:=λ_=>false
 calm:=X.calm
 pn:=[]
 xe:=λ_ _=>False
def P3 (own:Nat)(fr:List Nat)(σ:St):St:=List.replicate own none++fr.map λj=>(σ[j]?).getD none
section
variable {X:Cx}{pins:List (Addr×Obj)}{σ:St}{H:Hp}{s:fZ}
theorem yz8 {N':List Str}{fr:List Nat}{h₁:Heap}{m:Str->Option Value}(I:Inv X pins σ H s)(hf:∀b∈fp,A5 X pins H b)(hob:∀b∈fp,∃o,s.heap.get? b=some o)
  (hok:yj3 scope X.env.scope (N'.drop own)) (hfr:fr.map (λj=>X.N[j]?)=(N'.drop own).map some) (hown:own<=N'.length)
  (hn:h₁.Ns s.heap.objs.size m) (hsb:Heap.SameBut s.heap.objs.size (s.heap.push oD) h₁) :
  Inv (W5 X N' scope s.heap.objs.size s H fp) [] (P3 own fr σ) H { s with heap:=h₁,toks:=t }:=by
 have cellsSub:∀x c,(za1 X.env.cells scope.names).lookup x=some c->X.env.cells.lookup x=some c:=λx c e =>
  zg4 (λy hy hk=>I.ok.has y.1 (hok.free y hy hk)) (λx c e=>by cases e) x c e
 have up:∀b o,s.heap.get? b=some o->h₁.get? b=some o:=λb o e=>(hsb.2 b (aU (az e))).trans (ao _ e)
 have hlen:fr.length=(N'.drop own).length:=by
  have:=congrArg List.length hfr
  simpa using this
 have okX:(W5 X N' scope s.heap.objs.size s H fp).Ok :=
  {mod:=I.ok.mod
   kind:=hok.kind
   glob:=I.ok.glob
   blt:=I.ok.blt
   above:=ag _
   inj:=λx y c e1 e2=>I.ok.inj x y c (cellsSub x c e1) (cellsSub y c e2)
   has:=λx hk=>by
    have hk':(relabel scope X.env).names.lookup x=some .cell∨(relabel scope X.env).names.lookup x=some .free:=hk
    have key:(x,NameKind.free)∈scope.names:=by
     have all:∀(l:List (Str×NameKind)),(∀y∈l,y.2≠.cell)->((l.map λ(n,k)=>if (k==NameKind.free&&X.env.scope.kind == .function&&X.env.kindOf n==some .cell) then(n,NameKind.cell) else(n,k)).lookup x=some .cell ∨
       (l.map λ(n,k)=>if (k==NameKind.free&&X.env.scope.kind == .function&&X.env.kindOf n==some .cell) then(n,NameKind.cell) else(n,k)).lookup x=some .free)->(x,NameKind.free)∈l:=by
      intro l
      induction l with
      | nil=>intro _ h;rcases h with h|h <;> cases h
      | cons p r ih =>
       obtain⟨n,k⟩:=p
       intro hc h
       have hr:∀y∈r,y.2≠.cell:=λy hy=>hc y (av _ hy)
       have hkc:k≠.cell:=hc (n,k) ax
       rw[aQ]at h
       by_cases hx:(x==n)=true
       ·have hx':x=n:=by simpa using hx
        subst hx'
        by_cases hk:k=.free
        ·subst hk
         exact ax
        ·exfalso
         have hb:(k==NameKind.free)=false:=by simpa using hk
         simp[hb,bh]at h
         rcases h with h|h
         ·exact hkc h
         ·exact hk h
       ·have hx0:(x==n)=false:=by simpa using hx
        refine av _ (ih hr ?_)
        by_cases hc:(k==NameKind.free&&X.env.scope.kind == .function&&X.env.kindOf n==some .cell)=true
        ·simp only[hc,if_true,bh,hx0]at h
         exact h
        ·have hc':(k==NameKind.free&&X.env.scope.kind == .function&&X.env.kindOf n==some .cell)=false:=by simpa using hc
         simp only[hc',bN,if_false,bh,hx0]at h
         exact h
     exact all scope.names hok.cell hk'
    exact L4 (.inl key)
   cab:=λx c e=>by cases e
   hd:=I.ok.hd
   frames:=I.ok.frames
   stk:=.inl rfl
   exf:=λb hb=>⟨λe=>by
     obtain⟨o,ho⟩:=hob b hb
     exact absurd (az ho) (by rw[e];exact aY _),λx c e=>(hf b hb).2.2.2.2.1 x c (cellsSub x c e)⟩
   bs:=I.bs
   bsz:=aO I.ok.bsz I.sz
   noex:=λb o e hb=>by
    rcases (hf b hb).2.2.2.1 with z|z
    ·exact I.ok.noex b o e z
    ·exact absurd (az (I.ok.bs b o e).1) (dX.mpr z)
   exfs:=λb hb z=>by
    rcases aw.mp (I.stkSub b z) with e|e
    ·exact(hf b hb).2.1 e
    ·exact(hf b hb).2.2.1 e
   funs:=I.stack
   frf:=I.stkFree }
 refine⟨okX,rfl,I.bare,Un.kept up,⟨m,hn,λi x v e1 e2 e3=>?_⟩,λx c e=>?_,I.hok.fresh (ag _),λx c e=>I.freeC x c (cellsSub x c e),λp hp=>(by cases hp),I.hok.kept up,?_⟩
 ·have e2':(List.replicate own none++fr.map λj=>(σ[j]?).getD none)[i]?=some (some v):=e2
  by_cases hi:i<own
  ·rw[aN (by simpa using hi),cF]at e2'
   rw[if_pos hi]at e2'
   cases e2'
  ·rw[aX (by simpa using cH hi),ck,af]at e2'
   cases hj:fr[i-own]? with
   | none=>rw[hj]at e2';cases e2'
   | some j =>
    rw[hj]at e2'
    have e4:(σ[j]?).getD none=some v:=by simpa using e2'
    have e5:σ[j]?=some (some v):=by
     cases q:σ[j]? with
     | none=>rw[q]at e4;cases e4
     | some z=>rw[q]at e4;simpa using e4
    have e6:N'[own+(i-own)]?=some x:=by
     rw[show own+(i-own)=i by lia]
     exact e1
    have e7:(N'.drop own)[i-own]?=some x:=by rw[cM];exact e6
    have e8:X.N[j]?=some x:=by
     have q:=congrArg (λl=>l[i-own]?) hfr
     simp only[af,hj,e7,cJ]at q
     simpa using q
    have hx:=hok.fr x (aq e7)
    have hmem:=mem_of_lookup hx
    have hout:=hok.free _ hmem rfl
    obtain⟨mX,_,hl⟩:=I.loc
    obtain⟨u,r,l⟩:=hl j x v e8 e5 (.inr hout)
    refine⟨u,r,?_⟩
    rcases l with⟨k,_⟩|⟨_,c,ec,z⟩
    ·have k':X.env.scope.names.lookup x=some .local:=k
     rcases hout with q|q <;> (have q':X.env.scope.names.lookup x=_:=q;rw[k']at q';cases q')
    ·obtain⟨c',ec'⟩:=L4 (cells:=X.env.cells) (cs:=[]) (.inl hmem)
     have q:=cellsSub x c' ec'
     rw[ec]at q
     cases q
     obtain⟨o,ho,hd⟩:=z
     exact .inr ⟨W6 hx,c,ec',o,up c o ho,hd⟩
 ·obtain⟨v,o,ho,hd⟩:=I.cell x c (cellsSub x c e)
  exact⟨v,o,up c o ho,hd⟩
 ·show(List.replicate own none++fr.map λj=>(σ[j]?).getD none).length=N'.length
  rw[ah,ck,aa,hlen,bP]
  lia
end
section
variable {prog:gf}{w:gq}{A:gu}{s:fZ}
theorem Q6 {R:Result->fZ->Prop}(I:Nat->fZ->Prop)
  (turn:∀n s,I n s->gh (gn prog w) A (pyNext it) (λr s₁=>match r with
   | none=>R (.ok .next) s₁
   | some v=>gh (gn prog w) A (letOwnedTupleGo target it v) (λ_ s₁'=>gh (gn prog w) A (assign target env v) (λ_ s₂=>gh (gn prog w) A (eval elt env) (λx s₃ =>
     gh (gn prog w) A (call (.builtin "list.append") [acc,x]) (λ_ s₄=>∃m,m<n/\I m s₄) (notedBy (gn prog w) A env λe s'=>R (.error e) s') s₃)
     (notedBy (gn prog w) A env λe s'=>R (.error e) s') s₂) (notedBy (gn prog w) A env λe s'=>R (.error e) s') s₁') (notedBy (gn prog w) A env λe s'=>R (.error e) s') s₁) (notedBy (gn prog w) A env λe s'=>R (.error e) s') s)
  (n:Nat) (h:I n s):codeAny (gn prog w) A (.compLoop (.ListComp elt [⟨target,iter,[],0⟩] scope pos) 0 it acc env) R s:=by
 refine codeAny_loop rfl I (λn s hI=>?_) n h
 show gh _ _ ((compTurn (.ListComp elt [⟨target,iter,[],0⟩] scope pos) 0 it acc env).onRaise (λx=>do noteFrame x env;theTreesLotGoes x)) _ _ s
 refine wpAny_noted ?_
 rw[compTurn_list1]
 refine fY (wpAny_standAt (fY (gw (turn n s hI) (λr s₁ h₁=>?_) λ_ _ h'=>h')))
 cases r with
 | none=>exact gc h₁
 | some v =>
  refine fY (gw h₁ (λ_ s₁' h₁'=>?_) λ_ _ h'=>h')
  exact fY (gw h₁' (λ_ s₂ h₂=>fY (fY (gw h₂ (λx s₃ h₃=>fY (gw h₃
   (λ_ s₄ h₄=>gc (gc ⟨rfl,h₄⟩)) λ_ _ h'=>h')) λ_ _ h'=>h'))) λ_ _ h'=>h')
end
abbrev CT (α:Type):=Addr->fZ->Hp->List Addr->α
def yn7 (own:Nat)(fr:List Nat)(wi:TI)(g:CT TG)(te:CT TE)(σ:St)(H:Hp)(Q:Addr->Hp->Prop):Prop:=wi σ H λJ H1=>∀D,H1 D=none ->
 ∃W:Nat->Nat->St->Hp->Prop,(∃m,W 0 m (P3 own fr σ) (upd H1 D (.lst [])))/\∀i m σ' H',W i m σ' H' ->
  (J.stop i H'/\Q D H')∨(J.go i H'/\∀x H2,J.yld i H' x H2->∀C₀ s₀ H₀ fp,g C₀ s₀ H₀ fp x σ' H2 λσ3 H3=>∃N:VK,te C₀ s₀ H₀ fp σ3 H3 N/\∀y H4,N y H4 ->
   ∃ys m',H4 D=some (.lst ys)/\ys.length<ge/\m'<m/\W (i+1) m' σ3 (upd H4 D (.lst (ys++[y]))))
def yi6 (own:Nat)(fr:List Nat)(wi:TI)(g:CT TG)(te:CT TE):TE:=λσ H Q=>yn7 own fr wi g te σ H λD H'=>Q (.ref D) H'
def xn6 (X:Cx)(pins:List (Addr×Obj))(H:Hp)(C:Addr):Prop :=
 H C=none/\C≠X.env.locals/\X.s₀.heap.objs.size<=C/\(∀x c,X.env.cells.lookup x=some c->c≠C)/\∀p∈X.pn++pins,p.1≠C
section
variable {X:Cx}{own:Nat}{fr:List Nat}{N':List Str}{tg iter elt:Expr}{scope:Scope}{pos:Pos}{wi:TI}{g:CT TG}{te:CT TE}
theorem yd5 {σ:St}{Q:Addr->Hp->Prop}{use:Option (Value->Sem Unit)}{Q':Value->fZ->Prop}(hc:X.calm=true)(hi:PI X tg iter wi)(hg:∀C s₃ H₃ fp,PG (W5 X N' scope C s₃ H₃ fp) tg (g C s₃ H₃ fp))(he:∀C s₃ H₃ fp,PE (W5 X N' scope C s₃ H₃ fp) elt (te C s₃ H₃ fp))
  (hok:yj3 scope X.env.scope (N'.drop own)) (hfr:fr.map (λj=>X.N[j]?)=(N'.drop own).map some) (hown:own<=N'.length) (hs:∀x,foldedSetIterable iter X.env x=pure x)
  (I:Inv X pins σ H s) (h:yn7 own fr wi g te σ H Q)
  (fin:∀D C m H' s',Inv X pins σ H' s'->s'.heap.Ns C m->xn6 X pins H' C->Q D H'->compPost (gn X.prog X.w) X.A X.xe use Q' (.ref D) C (.ok .next) s') :
  gh (gn X.prog X.w) X.A (comprehension (.ListComp elt [⟨tg,iter,[],0⟩] scope pos) scope X.env pos' (newList []) false (eval iter X.env) use) Q' X.xe s:=by
 refine wpAny_comprehension_free rfl hs (D4 λy hy hk=>I.ok.has y.1 (hok.free y hy hk)) hok.kind hok.loc (thn (hi pins s σ H _ I h) λxv s1 h1=>thn h1 λitv s2 h2=>?_)
 obtain⟨it,fp,tn,J,H2,e,I2,T,st2,f2,body⟩:=h2
 subst e
 refine wpAny_newList (items:=[]) ?_
 have hD:H2 s2.heap.objs.size=none:=I2.hok.fresh (ag _)
 have I3:Inv X pins σ (upd H2 s2.heap.objs.size (.lst [])) { s2 with heap:=s2.heap.push { cls:=.type "list",data:=.seq ([]:List Value).toArray } }:=I2.lnew (its:=[]) (t':=s2.toks) .nil (by decide)
 obtain⟨W,⟨m0,w0⟩,turn⟩:=body _ hD
 generalize hDD:s2.heap.objs.size=D at hD I3 w0 turn ⊢
 have up3:∀b o,s2.heap.get? b=some o->(s2.heap.push { cls:=.type "list",data:=.seq ([]:List Value).toArray }).get? b=some o:=λb o e=>ao _ e
 have st3:tn 0 (s2.heap.push { cls:=.type "list",data:=.seq ([]:List Value).toArray }):=T.keep _ _ _ st2 λb _ o e=>up3 b o e
 have fpne:∀b∈fp,b≠D:=λb hb e=>by
  obtain⟨o,ho,_⟩:=T.obj _ _ st2 b hb
  rw[e,←hDD]at ho
  exact absurd (az ho) (aY _)
 have f3:∀b∈fp,A5 X pins (upd H2 D (.lst [])) b:=λb hb=>⟨by rw[z6 (fpne b hb)];exact(f2 b hb).1,(f2 b hb).2⟩
 generalize hs3:({ s2 with heap:=s2.heap.push { cls:=.type "list",data:=.seq ([]:List Value).toArray } }:fZ)=s3 at I3 ⊢
 have st3':tn 0 s3.heap:=by rw[←hs3];exact st3
 generalize upd H2 D (.lst [])=H3 at I3 f3 w0
 have hob:∀b∈fp,∃o,s3.heap.get? b=some o:=λb hb=>let ⟨o,ho,_⟩:=T.obj _ _ st3' b hb;⟨o,ho⟩
 refine wpAny_newFunctionEnv hok.cell (by intro y hy;simp at hy) (λh₁ hns₁ hsb₁=>?_) hok.kind
 have up4:∀b o,s3.heap.get? b=some o->h₁.get? b=some o:=λb o e=>(hsb₁.2 b (aU (az e))).trans (ao _ e)
 have I4:=yz8 (N':=N') (own:=own) (fr:=fr) (scope:=scope) (t:=s3.toks+([]:List (Str×Value)).length) I3 f3 hob hok hfr hown hns₁ hsb₁
 have st4:tn 0 h₁:=T.keep _ _ _ st3' λb _ o e=>up4 b o e
 have stat:∀{H':Hp} ,(∀b∈fp,H' b=none)->∀b∈fp,A5 (W5 X N' scope s3.heap.objs.size s3 H3 fp) [] H' b:=λhn b hb=>by
  refine⟨hn b hb,(I4.ok.exf b hb).1,I4.ok.exfs b hb,.inl hb,(I4.ok.exf b hb).2,λp hp=>by cases hp⟩
 have loop:codeAny (gn X.prog X.w) X.A (.compLoop (.ListComp elt [⟨tg,iter,[],0⟩] scope pos) 0 (.ref it) (.ref D) (W5 X N' scope s3.heap.objs.size s3 H3 fp).env)
   (compPost (gn X.prog X.w) X.A X.xe use Q' (.ref D) s3.heap.objs.size) { s3 with heap:=h₁,toks:=s3.toks+([]:List (Str×Value)).length }:=by
  refine Q6 (λn s'=>∃i σ' H',Inv (W5 X N' scope s3.heap.objs.size s3 H3 fp) [] σ' H' s'/\tn i s'.heap/\(∀b∈fp,H' b=none)/\W i n σ' H') ?_ m0 ⟨0,_,H3,I4,st4,λb hb=>(f3 b hb).1,w0⟩
  rintro n s5 ⟨i,σ5,H5,I5,st5,fr5,w5⟩
  rcases turn i n σ5 H5 w5 with⟨stop,q⟩|⟨go,step⟩
  ·refine thn (T.done (W5 X N' scope s3.heap.objs.size s3 H3 fp) rfl rfl rfl hc i [] s5 σ5 H5 _ I5 (stat fr5) st5 stop) λr s6 ⟨hr,I6⟩=>?_
   subst hr
   obtain⟨m6,hn6,_⟩:=I6.loc
   have I7:Inv X pins σ H5 s6:=I3.call' (ch:=fp) (by have:=I6.os;exact this) I6.base I6.hok I6.bare λb hb=>⟨(f3 b hb).2.2.2.1,(f3 b hb).2.1,(f3 b hb).2.2.2.2.1,(f3 b hb).2.2.2.2.2⟩
   refine fin D s3.heap.objs.size m6 H5 s6 I7 hn6 ⟨I6.free,cY I3.lt,I3.sz,λx c e z=>?_,λp hp z=>?_⟩ q
   ·obtain⟨v,z1⟩:=I3.cell x c e
    exact absurd z1.lt (by rw[z];exact aY _)
   ·exact absurd (az (I3.pin p hp).1) (by rw[z];exact aY _)
  ·refine thn (T.item (W5 X N' scope s3.heap.objs.size s3 H3 fp) rfl rfl rfl hc i [] s5 σ5 H5 _ I5 (stat fr5) st5 go) λr s6 ⟨u,hr,h6⟩=>?_
   subst hr
   refine thn h6 λ_ s7 ⟨x,H7,I7,r7,y7,st7,fr7⟩=>?_
   have I7':=I7.pinned (stat fr7) (T.obj _ _ st7)
   refine gw (hg _ _ _ _ _ s7 σ5 H7 x u _ I7' r7 (step x H7 y7 _ _ _ _)) (λ_ s8 ⟨σ8,H8,I8,N,q8,hN⟩=>?_) λ_ _ z=>z.elim
   refine gw (he _ _ _ _ _ s8 σ8 H8 N I8 q8) (λyv s9 ⟨y,H9,I9,r9,n9⟩=>?_) λ_ _ z=>z.elim
   obtain⟨ys,m',hD9,hlt,hm,w9⟩:=hN y H9 n9
   refine gw (X2 (X:=W5 X N' scope s3.heap.objs.size s3 H3 fp) _ s9 σ8 H9 (.ref D) [y] (.ref D) [yv] (λ_ H'=>H'=upd H9 D (.lst (ys++[y]))) I9 rfl (.cons r9 .nil) ⟨D,ys,y,rfl,rfl,hD9,hlt,rfl⟩) (λ_ s10 ⟨_,H10,I10,_,q10⟩=>?_) λ_ _ z=>z.elim
   subst q10
   have pin:=λb hb o e=>I10.pin (b,o) (aG _ (aG _ (J0 (h:=s7.heap) (fp:=fp) hb e)))
   refine⟨m',hm,i+1,σ8,_,I10.unpinned,T.keep _ _ _ st7 λb hb o e=>(pin b hb o e).1,λb hb=>?_,w9⟩
   obtain⟨o,e,d⟩:=T.obj _ _ st7 b hb
   exact(pin b hb o e).2.1
 exact codeAny_compStart_list loop (T.self X.A 0 _ _ _ st4 loop)
theorem xk8 (own:Nat)(fr:List Nat)(N':List Str)(hc:X.calm=true)(hi:PI X tg iter wi)(hg:∀C s₃ H₃ fp,PG (W5 X N' scope C s₃ H₃ fp) tg (g C s₃ H₃ fp))(he:∀C s₃ H₃ fp,PE (W5 X N' scope C s₃ H₃ fp) elt (te C s₃ H₃ fp))
  (hok:zg5 scope X.env.scope (N'.drop own)=true:=by rfl) (hfr:fr.map (λj=>X.N[j]?)=(N'.drop own).map some:=by rfl) (hown:own<=N'.length:=by decide) (hs:∀x,foldedSetIterable iter X.env x=pure x:=by intro _;rfl) :
  PE X (.ListComp elt [⟨tg,iter,[],0⟩] scope pos) (yi6 own fr wi g te):=by
 intro pins s σ H Q I h
 rw[eval_ListComp]
 refine yd5 (use:=none) hc hi hg he (zv8 hok) hfr hown hs I h λD C m H' s' I' hn sp q=>?_
 refine⟨m,hn,λh' sb=>⟨.ref D,H',?_,rfl,q⟩⟩
 exact I'.turned (t':=s'.toks) (λb o hb e=>(sb.2 b hb).trans e) sp.1 sp.2.1 (.inr sp.2.2.1) sp.2.2.2.1 sp.2.2.2.2
theorem ym4 {py spos:Pos}(own:Nat)(fr:List Nat)(N':List Str)(hN:X.N.Nodup)(hy:X.N[i]?=some y)(hl:X.env.scope.names.lookup y=some .local)(hc:X.calm=true)(hi:PI X tg iter wi)(hg:∀C s₃ H₃ fp,PG (W5 X N' scope C s₃ H₃ fp) tg (g C s₃ H₃ fp))(he:∀C s₃ H₃ fp,PE (W5 X N' scope C s₃ H₃ fp) elt (te C s₃ H₃ fp))
  (hsw:swapsWith (.ListComp elt [⟨tg,iter,[],0⟩] scope pos) (some (.Name y py)) spos.line X.env=pure true:=by rfl)
  (hok:zg5 scope X.env.scope (N'.drop own)=true:=by rfl) (hfr:fr.map (λj=>X.N[j]?)=(N'.drop own).map some:=by rfl) (hown:own<=N'.length:=by decide) (hs:∀x,foldedSetIterable iter X.env x=pure x:=by intro _;rfl) :
  PS X (.Assign [.Name y py] (.ListComp elt [⟨tg,iter,[],0⟩] scope pos) spos) (xm6 (yi6 own fr wi g te) (Q8 i)):=by
 intro pins s σ H D I h
 rw[exec_Assign_Name_used _ _ _ _ hsw]
 refine fY (wpAny_standAt (fY ?_))
 show gh _ X.A (do let _ ←comprehension (.ListComp elt [⟨tg,iter,[],0⟩] scope pos) scope X.env _ (newList []) false (eval iter X.env) (some (assign (.Name y py) X.env))) _ _ s
 refine fY (gw (yd5 (use:=some (assign (.Name y py) X.env)) (Q':=λ_ s'=>SP X pins D .next s') hc hi hg he (zv8 hok) hfr hown hs I h λDl C m H' s' I' hn sp q=>?_) (λ_ s' hq=>gc (gc hq)) λ_ _ e=>e)
 show gh _ X.A (assign (.Name y py) X.env (.ref Dl)) _ _ _
 refine wpAny_assign_Name (zi9 (v:=.ref Dl) I' hN hy (.inl hl) rfl (λs2 I2 ⟨a,sb,ha⟩=>?_) (.inr hl))
 have hCa:C≠a:=by
  rcases ha with e|e
  ·rw[e];exact sp.2.1
  ·exact λz=>sp.2.2.2.1 y a e z.symm
 refine⟨m,hn.sameBut sb hCa,λh' sb'=>⟨_,H',?_,q⟩⟩
 exact I2.turned (t':=s2.toks) (λb o hb e=>(sb'.2 b hb).trans e) sp.1 sp.2.1 (.inr sp.2.2.1) sp.2.2.2.1 sp.2.2.2.2
theorem Z6 (fr:List Nat)(N':List Str)(hc:X.calm=true)(hi:PI X (.Name x px) iter wi)(he:∀C s₃ H₃ fp,PE (W5 X N' scope C s₃ H₃ fp) elt (te C s₃ H₃ fp))(hN:N'.Nodup:=by decide +kernel)(h0:N'[0]?=some x:=by rfl)(hx:scope.names.lookup x=some .local:=by rfl)
  (hok:zg5 scope X.env.scope (N'.drop 1)=true:=by rfl) (hfr:fr.map (λj=>X.N[j]?)=(N'.drop 1).map some:=by rfl) (hown:1<=N'.length:=by decide) (hs:∀x,foldedSetIterable iter X.env x=pure x:=by intro _;rfl) :
  PE X (.ListComp elt [⟨.Name x px,iter,[],0⟩] scope pos) (yi6 1 fr wi (λ_ _ _ _=>Q8 0) te) :=
 xk8 1 fr N' hc hi (λ_ _ _ _=>o5 hN h0 (.inl (lookup_relabel_local hx)) (.inr (lookup_relabel_local hx))) he hok hfr hown hs
theorem yg3 {px py spos:Pos}(fr:List Nat)(N':List Str)(hNd:X.N.Nodup)(hy:X.N[i]?=some y)(hl:X.env.scope.names.lookup y=some .local)(hc:X.calm=true)(hi:PI X (.Name x px) iter wi)(he:∀C s₃ H₃ fp,PE (W5 X N' scope C s₃ H₃ fp) elt (te C s₃ H₃ fp))
  (hsw:swapsWith (.ListComp elt [⟨.Name x px,iter,[],0⟩] scope pos) (some (.Name y py)) spos.line X.env=pure true:=by rfl) (hN:N'.Nodup:=by decide +kernel) (h0:N'[0]?=some x:=by rfl) (hx:scope.names.lookup x=some .local:=by rfl)
  (hok:zg5 scope X.env.scope (N'.drop 1)=true:=by rfl) (hfr:fr.map (λj=>X.N[j]?)=(N'.drop 1).map some:=by rfl) (hown:1<=N'.length:=by decide) (hs:∀x,foldedSetIterable iter X.env x=pure x:=by intro _;rfl) :
  PS X (.Assign [.Name y py] (.ListComp elt [⟨.Name x px,iter,[],0⟩] scope pos) spos) (xm6 (yi6 1 fr wi (λ_ _ _ _=>Q8 0) te) (Q8 i)) :=
 ym4 1 fr N' hNd hy hl hc hi (λ_ _ _ _=>o5 hN h0 (.inl (lookup_relabel_local hx)) (.inr (lookup_relabel_local hx))) he hsw hok hfr hown hs
end
end L2
namespace PySem
open Sem (wp)
section
variable {prog:gf}{w:gq}{A:gu}{E:Value->fZ->Prop}{s:fZ}
theorem A9 {Q:List Value->fZ->Prop}{n:Nat}(hh:A.handled=none)(hr:IsRange s.heap r a b c t u v)(hsmall:Builtin.Range.small a b c=true)
  (hn:Builtin.Range.rangeSize a b c=n) (hlen:n<=2 ^ 24)
  (hQ:∀h' tk acc,(∀b o,s.heap.get? b=some o->h'.get? b=some o)->ItemsOf (λi v=>∃t,v=.int (a+i*c) t) acc n->Q acc.toList { s with heap:=h',toks:=tk }) :
  gh (gn prog w) A (collect (.ref r)) Q E s:=by
 unfold collect
 refine fY (wpAny_runValue (codeAny_builtin F.entry_proto_collect ?_))
 rw[Around.under_plainId F.plain_proto_collect _]
 show gh _ A.in1 (newList [] >>= λl=>again (.builtin "list.__iadd__" ⟨[l,.ref r],[]⟩)) _ _ s
 refine fY (wpAny_newObj_type ?_)
 refine gc ⟨plainId_quiet F.plain_list_iadd _,codeAny_builtin F.entry_list_iadd ?_⟩
 rw[Around.under_plainId F.plain_list_iadd _]
 show gh _ A.in1 (Builtin.List.listExtendWith (.ref s.heap.objs.size) (.ref r) (.ref s.heap.objs.size)) _ _ _
 have key:∀(r₁:Result) (s₁:fZ),(r₁=.ok (.ret (.ref s.heap.objs.size))/\∃h' tk acc' c',s₁={ s with heap:=h',toks:=tk }/\(∀b o,s.heap.get? b=some o->h'.get? b=some o)/\h'.get? s.heap.objs.size=some { cls:=.type "list",dict:=none,data:=.seq acc' c',slots:=#[] }/\ItemsOf (λi v=>∃t,v=.int (a+i*c) t) acc' n) ->
   (match r₁ with
    | .ok (.ret v)=>gh (gn prog w) A (match v with
      | .ref a=>do
       match (←load a).data with
       | .seq xs _=>pure xs.toList
       | _=>unsupported "internal:collect"
      | _=>unsupported "internal:collect") Q E s₁
    | .ok _=>False
    | .error e=>E e s₁):=by
  rintro r₁ s₁ ⟨rfl,h',tk,acc',c',rfl,hk,hS',hacc⟩
  show gh _ A (load s.heap.objs.size >>= _) _ _ _
  refine fY (wpAny_load hS' ?_)
  exact gc (hQ h' tk acc' hk hacc)
 refine gw (wpAny_extend_range (s:={ s with heap:=s.heap.push { cls:=.type "list",data:=.seq ([]:List Value).toArray } }) (A:=A)
  (R:=λr₁ s₁=>r₁=.ok (.ret (.ref s.heap.objs.size))/\∃h' tk acc' c',s₁={ s with heap:=h',toks:=tk }/\(∀b o,s.heap.get? b=some o->h'.get? b=some o)/\h'.get? s.heap.objs.size=some { cls:=.type "list",dict:=none,data:=.seq acc' c',slots:=#[] }/\ItemsOf (λi v=>∃t,v=.int (a+i*c) t) acc' n)
  hh (ao _ hr) hsmall hn hlen s.heap.objs.size (.ref s.heap.objs.size) 0 (aB _ rfl) λh' tk acc' c' hk hS' hacc=>⟨rfl,h',tk,acc',c',rfl,λb o e=>hk b o (aU (az e)) (ao _ e),hS',hacc⟩) (λfin s₁ h₁=>?_) λe s₁ h₁=>key _ _ h₁
 cases fin with
 | done f=>exact key _ _ h₁
 | again c'=>exact⟨h₁.1,codeAny_mono h₁.2 λr₂ s₂ h₂=>key _ _ h₂⟩
open AutoSeq1 (wpAny_loadPart')
theorem E6 {n:Nat}(hsmall:Builtin.Range.small a b c=true)(hn:Builtin.Range.rangeSize a b c=n)(hlen:n<=2 ^ 24)(hsz:n<=ge) :
  Meets (Builtin.«tuple.__new__» ⟨[.type "tuple",.ref r],[]⟩)
   (λA R s=>A.handled=none/\IsRange s.heap r a b c t u v/\∀(h':Heap) (tk:Nat) (acc:Array Value),(∀b o,s.heap.get? b=some o->h'.get? b=some o)->ItemsOf (λi v=>∃t,v=.int (a+i*c) t) acc n ->
    R (.ok (.ret (.ref h'.objs.size))) { s with heap:=h'.push { cls:=.type "tuple",data:=.seq acc },toks:=tk }) :=
 .of_wp λprog w A R s h=>by
  obtain⟨hh,hr,h⟩:=h
  have hsub:=sub_tuple_self
  have hinit:=init_tuple_lookup
  have hmh:=madeHere_tuple
  have hT:s.TypeIs (.ref r) "range":=⟨_,hr,rfl⟩
  have hh1:A.in1.handled=none:=hh
  wp_walk using wpAny_typeOf hT,A9 hh1 hr hsmall hn hlen
  intro h' tk acc hk hacc
  show gh _ _ (Builtin.Tuple.tupleExact acc.toList.toArray >>= λv=>ret v) _ _ _
  unfold Builtin.Tuple.tupleExact
  refine fY (wpAny_newObj_type ?_ (show acc.toList.toArray.size<=ge by simp only[Array.toArray_toList];rw[hacc.1];exact hsz))
  refine gc ⟨_,rfl,?_⟩
  have e:acc.toList.toArray=acc:=by simp
  rw[e]
  exact h h' tk acc hk hacc
theorem zg3 {Q:Value->fZ->Prop}{n:Nat}(hh:A.handled=none)(hr:IsRange s.heap r a b c t u v)(hsmall:Builtin.Range.small a b c=true)
  (hn:Builtin.Range.rangeSize a b c=n) (hlen:n<=2 ^ 24) (hsz:n<=ge)
  (h:∀(h':Heap) (tk:Nat) (acc:Array Value),(∀b o,s.heap.get? b=some o->h'.get? b=some o)->ItemsOf (λi v=>∃t,v=.int (a+i*c) t) acc n->Q (.ref h'.objs.size) { s with heap:=h'.push { cls:=.type "tuple",data:=.seq acc },toks:=tk }) :
  gh (gn prog w) A (call (.type "tuple") [.ref r]) Q E s :=
 callType_new F.called_tuple (by decide) (F.typeCall_tuple_1 _) (F.newCall_tuple_1 _) (λobj=>F.args_object_init_2 obj _) F.entry_tuple_new
  (E6 hsmall hn hlen hsz) ⟨hh,hr,λh' tk acc hk hacc=>⟨⟨_,aB _ rfl,rfl⟩,h h' tk acc hk hacc⟩⟩
end
end PySem
namespace L2
open PySem PySem.Spec PyProof.Rows
theorem za6:∀{xs:List V} {us:List Value},xs.length=us.length->(∀(i:Nat) x u,xs[i]?=some x->us[i]?=some u->p9 x u)->p7 xs us
 | [],[],_,_=>.nil
 | [],_::_,h,_=>by cases h
 | _::_,[],h,_=>by cases h
 | x::xs,u::us,h,r=>.cons (r 0 x u rfl rfl) (za6 (by simpa using h) λi y w e1 e2=>r (i+1) y w (by simpa using e1) (by simpa using e2))
def U8 (lo:Int)(n:Nat):List V:=(List.range n).map λi=>V.int (lo+(i:Nat))
theorem Q0 (lo:Int)(n:Nat):(U8 lo n).length=n:=by unfold U8;rw[aa,aS]
theorem zt1 {acc:Array Value}{lo:Int}(h:ItemsOf (λi v=>∃t,v=.int (lo+i*1) t) acc n):p7 (U8 lo n) acc.toList:=by
 obtain⟨h1,h2⟩:=h
 refine za6 (by rw[Q0,aK,h1]) λi x u e1 e2=>?_
 have hi:i<n:=by
  have:=(al.mp e1).1
  rwa [Q0]at this
 obtain⟨t,rfl⟩:=h2 i u (by simpa using e2)
 unfold U8 at e1
 rw[af,bn hi]at e1
 cases e1
 exact⟨t,by rw[Int.mul_one]⟩
section
variable {X:Cx}
theorem S9:T9 X (.type "range") (λxs H Q=>∃j,xs=[.int j]/\∀p,H p=none->Q (.ref p) (upd H p (.rng 0 j))):=by
 intro pins s σ H xs us Q I r h
 obtain⟨j,rfl,q⟩:=h
 obtain⟨u,rfl,t,rfl⟩:=N6 r
 exact call_range_1 ⟨.ref s.heap.objs.size,_,I.laid (λb o e=>ao _ e) (ag _) (show l7 X.prog X.w _ _ _ (.rng 0 j) from⟨_,_,_,aB _ rfl⟩),rfl,q _ (I.hok.fresh (ag _))⟩
def yx1 (lo hi:Int):Prop:=-(2 ^ 62)<=lo/\lo<2 ^ 62/\-(2 ^ 62)<=hi/\hi<2 ^ 62/\(hi-lo).toNat<=1000000
theorem p8:1000000<=ge:=by decide
theorem V2 (hc:X.calm=true):T9 X (.type "list") (λxs H Q=>∃p lo hi,xs=[.ref p]/\H p=some (.rng lo hi)/\yx1 lo hi/\∀l,H l=none->Q (.ref l) (upd H l (.lst (U8 lo (hi-lo).toNat)))):=by
 intro pins s σ H xs us Q I r h
 obtain⟨p,lo,hi,rfl,hp,⟨s1,s2,s3,s4,s5⟩,q⟩:=h
 obtain⟨u,rfl,rx⟩:=N6 r
 cases rx
 obtain⟨t,u,v,hr⟩:=I.hok p _ hp
 have hz:=p8
 refine call_list_range (n:=(hi-lo).toNat) (I.ok.hd hc) hr (small_one s1 s2 s3 s4) (by rw[rangeSize_one];split <;> lia) (by lia) λh' tk acc' c' kp hS hacc=>?_
 refine⟨.ref s.heap.objs.size,_,I.laid (t':=tk) kp (ag _) (show l7 X.prog X.w _ h' _ (.lst (U8 lo (hi-lo).toNat)) from⟨by rw[Q0];lia,acc'.toList,c',zt1 hacc,by simpa using hS⟩),rfl,q _ (I.hok.fresh (ag _))⟩
theorem D3 (hc:X.calm=true):T9 X (.type "tuple") (λxs H Q=>∃p lo hi,xs=[.ref p]/\H p=some (.rng lo hi)/\yx1 lo hi/\∀l,H l=none->Q (.ref l) (upd H l (.tup (U8 lo (hi-lo).toNat)))):=by
 intro pins s σ H xs us Q I r h
 obtain⟨p,lo,hi,rfl,hp,⟨s1,s2,s3,s4,s5⟩,q⟩:=h
 obtain⟨u,rfl,rx⟩:=N6 r
 cases rx
 obtain⟨t,u,v,hr⟩:=I.hok p _ hp
 have hz:=p8
 refine zg3 (n:=(hi-lo).toNat) (I.ok.hd hc) hr (small_one s1 s2 s3 s4) (by rw[rangeSize_one];split <;> lia) (by lia) (by lia) λh' tk acc kp hacc=>?_
 have I1:Inv X pins σ H { s with heap:=h',toks:=tk }:=I.kept kp
 have I2:Inv X pins σ (upd H h'.objs.size (.tup (U8 lo (hi-lo).toNat))) { s with heap:=h'.push { cls:=.type "tuple",data:=.seq acc },toks:=tk } :=
  I1.laid (t':=tk) (λb o e=>ao _ e) (ag _) (show l7 X.prog X.w _ _ _ (.tup (U8 lo (hi-lo).toNat)) from⟨by rw[Q0];lia,acc.toList,zt1 hacc,by simpa using zx5.new h' acc⟩)
 exact⟨.ref h'.objs.size,_,I2,rfl,q _ (I1.hok.fresh (ag _))⟩
theorem Z7:T9 X (.builtin "isinstance") (λxs H Q=>∃x t c b,xs=[x,.ty c]/\K6 X.K H x t/\W.kitOne X.K t (.type c)=some b/\Q (.bl b) H):=by
 intro pins s σ H xs us Q I r h
 obtain⟨x,t,c,b,rfl,ty,e,q⟩:=h
 obtain⟨u,w',rfl,rx,rc⟩:=xh5 r
 cases (show w'=Value.type c from rc)
 exact yu3 I rx ty e λtk=>⟨.bl b,H,I.tok tk,rfl,q⟩
theorem zg6 {J:It}{fr:List Nat}{te:CT TE}{Q:Addr->Hp->Prop}(ys:List V)(hn:ys.length=n)(hz:n<=ge)
  (hstop:∀H,y6 H1 H->J.stop n H) (hgo:∀i H,i<n->y6 H1 H->J.go i H)
  (turn:∀i H x H2,i<n->y6 H1 H->J.yld i H x H2->H2=H/\∀C₀ s₀ H₀ fp,te C₀ s₀ H₀ fp (some x::fr.map λj=>(σ[j]?).getD none) H λy H4=>y6 H H4/\ys[i]?=some y)
  (fin:∀D H,H1 D=none->y6 H1 H->H D=some (.lst ys)->Q D H) :
  ∀D,H1 D=none->∃W:Nat->Nat->St->Hp->Prop,(∃m,W 0 m (P3 1 fr σ) (upd H1 D (.lst [])))/\∀i m σ' H',W i m σ' H' ->
  (J.stop i H'/\Q D H')∨(J.go i H'/\∀x H2,J.yld i H' x H2->∀C₀ s₀ H₀ fp,Q8 0 x σ' H2 λσ3 H3=>∃N:VK,te C₀ s₀ H₀ fp σ3 H3 N/\∀y H4,N y H4 ->
   ∃ys m',H4 D=some (.lst ys)/\ys.length<ge/\m'<m/\W (i+1) m' σ3 (upd H4 D (.lst (ys++[y])))):=by
 intro D hD
 have s0:∀o,y6 H1 (upd H1 D o):=λo b u e=>by rw[z6 (y0 e hD)];exact e
 refine⟨λi m σ' H'=>m=n-i/\i<=n/\y6 H1 H'/\H' D=some (.lst (ys.take i))/\∃z,σ'=z::fr.map λj=>(σ[j]?).getD none,⟨n,rfl,aP _,s0 _,by rw[z4];rfl,none,rfl⟩,?_⟩
 rintro i m σ' H' ⟨rfl,hi,sm,hl,z,rfl⟩
 by_cases hlt:i<n
 ·refine .inr ⟨hgo i H' hlt sm,λx H2 y C₀ s₀ H₀ fp=>?_⟩
  obtain⟨e,q⟩:=turn i H' x H2 hlt sm y
  subst e
  refine⟨_,q C₀ s₀ H₀ fp,λy H4 ⟨s4,e4⟩=>⟨ys.take i,n-(i+1),s4 _ _ hl,?_,by lia,rfl,hlt,?_,?_,_,rfl⟩⟩
  ·rw[bo];lia
  ·intro b u e
   rw[z6 (y0 e hD)]
   exact s4 _ _ (sm _ _ e)
  ·rw[z4,bJ,e4]
   rfl
 ·have e:i=n:=by lia
  subst e
  refine .inl ⟨hstop H' sm,fin D H' hD sm ?_⟩
  rw[hl,bO (by lia)]
theorem y6.seqT {K:W.Frag}(e:y6 H H')(h:SqT K H a xs):SqT K H' a xs:=by
 rcases h with (h|⟨o,h⟩)|h
 ·exact .inl (.inl (e _ _ h))
 ·exact .inl (.inr ⟨o,e _ _ h⟩)
 ·exact .inr h
theorem zc5 {K:PySem.W.Frag}{xs:List V}{fr:List Nat}{te:CT TE}{Q:Addr->Hp->Prop}(hS:SqT K H1 a xs)(ys:List V)(hn:ys.length=xs.length)(hz:xs.length<=ge)
  (turn:∀(i:Nat) H x,xs[i]?=some x->y6 H1 H->∀C₀ s₀ H₀ fp,te C₀ s₀ H₀ fp (some x::fr.map λj=>(σ[j]?).getD none) H λy H4=>y6 H H4/\ys[i]?=some y)
  (fin:∀D H,H1 D=none->y6 H1 H->H D=some (.lst ys)->Q D H) :
  ∀D,H1 D=none->∃W:Nat->Nat->St->Hp->Prop,(∃m,W 0 m (P3 1 fr σ) (upd H1 D (.lst [])))/\∀i m σ' H',W i m σ' H' ->
  ((Itt K a).stop i H'/\Q D H')∨((Itt K a).go i H'/\∀x H2,(Itt K a).yld i H' x H2->∀C₀ s₀ H₀ fp,Q8 0 x σ' H2 λσ3 H3=>∃N:VK,te C₀ s₀ H₀ fp σ3 H3 N/\∀y H4,N y H4 ->
   ∃ys m',H4 D=some (.lst ys)/\ys.length<ge/\m'<m/\W (i+1) m' σ3 (upd H4 D (.lst (ys++[y])))) :=
 zg6 ys hn hz (λH s=>⟨xs,s.seqT hS,ag _⟩) (λi H hi s=>⟨xs,xs[i],s.seqT hS,by simp[hi]⟩) (λi H x H2 hi s y=>⟨y.1,turn i H x (y.2 xs (s.seqT hS)) s⟩) fin
theorem L6 {K:PySem.W.Frag}{xs:List V}{fr:List Nat}{te:CT TE}{Q:Addr->Hp->Prop}(hS:SqL K H1 a xs)(ys:List V)(hn:ys.length=xs.length)(hz:xs.length<=ge)
  (turn:∀(i:Nat) H x,xs[i]?=some x->y6 H1 H->∀C₀ s₀ H₀ fp,te C₀ s₀ H₀ fp (some x::fr.map λj=>(σ[j]?).getD none) H λy H4=>y6 H H4/\ys[i]?=some y)
  (fin:∀D H,H1 D=none->y6 H1 H->H D=some (.lst ys)->Q D H) :
  ∀D,H1 D=none->∃W:Nat->Nat->St->Hp->Prop,(∃m,W 0 m (P3 1 fr σ) (upd H1 D (.lst [])))/\∀i m σ' H',W i m σ' H' ->
  ((Itl K a).stop i H'/\Q D H')∨((Itl K a).go i H'/\∀x H2,(Itl K a).yld i H' x H2->∀C₀ s₀ H₀ fp,Q8 0 x σ' H2 λσ3 H3=>∃N:VK,te C₀ s₀ H₀ fp σ3 H3 N/\∀y H4,N y H4 ->
   ∃ys m',H4 D=some (.lst ys)/\ys.length<ge/\m'<m/\W (i+1) m' σ3 (upd H4 D (.lst (ys++[y])))) :=
 zg6 ys hn hz (λH s=>⟨xs,s.seq hS,ag _⟩) (λi H hi s=>⟨xs,xs[i],s.seq hS,by simp[hi]⟩) (λi H x H2 hi s y=>⟨y.1,turn i H x (y.2 xs (s.seq hS)) s⟩) fin
end
end L2
namespace PySem
open Sem (wp)
open AutoSeq1 (wpAny_loadPart')
section
variable {prog:gf}{w:gq}{A:gu}{E:Value->fZ->Prop}{s:fZ}
theorem K5 {items}{Q:Value->fZ->Prop}(hit:s.heap.IsTupleIter it t i)(ht:s.heap.IsTuple t items)(hx:items[i]?=some x)
  (hQ:∀h',h'.IsTupleIter it t (i+1)->Heap.SameBut it s.heap h'->Q x { s with heap:=h' }):gh (gn prog w) A (Builtin.SmallTypes.nextOf (.ref it)) Q E s:=by
 obtain⟨o,ho,hc,hd⟩:=id hit
 obtain⟨ol,hol,_,nl,hdl⟩:=ht
 unfold Builtin.SmallTypes.nextOf
 refine fY (wpAny_callSpecial?_slot (name:=Str.ofString "__next__") hit.typeIs F.slot_tuple_iterator_next
  (wpAny_call_entry F.slot_tuple_iterator_next hit.typeIs F.entry_tuple_iterator_next ?_ (F.args_tuple_iterator_next_1 _)))
 show gh _ _ (field (.ref it) 0 >>= _) _ _ s
 refine fY (wpAny_field ho hd (x:=.ref t) rfl ?_)
 show gh _ _ (if (Value.ref t==Value.none)=true then _ else _) _ _ s
 rw[if_neg (show ¬((Value.ref t==Value.none)=true) from aD)]
 show gh _ _ (field (.ref it) 1 >>= _) _ _ s
 refine fY (wpAny_field ho hd (x:=.int i 0) rfl ?_)
 show gh _ _ (seqItems? (.ref t) >>= _) _ _ s
 refine fY (wpAny_seqItems hol hdl ?_)
 simp only[cU,hx]
 refine fY (wpAny_setField ho hd (by simp) (gc ⟨x,rfl,gc (hQ _ ?_ (Heap.SameBut.update ..))⟩))
 exact⟨_,Heap.get?_update_self _ ho (Obj.isFreed_of_fields (Obj.data_mapFields hd _)),(Obj.cls_mapFields ..).trans hc,by
  rw[Obj.data_mapFields hd];simp[rawInt]⟩
theorem T8 {items}{Q:Value->fZ->Prop}(hh:A.handled=none)
  (hit:s.heap.IsTupleIter it t i) (ht:s.heap.IsTuple t items) (hx:items[i]?=none)
  (hE:∀h' e,Heap.ExtBut it s.heap h'->(∃o,h'.get? e=some o/\o.cls=.type "StopIteration")->E (.ref e) { s with heap:=h' }) :
  gh (gn prog w) A (Builtin.SmallTypes.nextOf (.ref it)) Q E s:=by
 obtain⟨o,ho,hc,hd⟩:=id hit
 obtain⟨ol,hol,_,nl,hdl⟩:=ht
 unfold Builtin.SmallTypes.nextOf
 refine fY (wpAny_callSpecial?_slot (name:=Str.ofString "__next__") hit.typeIs F.slot_tuple_iterator_next
  (wpAny_call_entry F.slot_tuple_iterator_next hit.typeIs F.entry_tuple_iterator_next ?_ (F.args_tuple_iterator_next_1 _)))
 show gh _ _ (field (.ref it) 0 >>= _) _ _ s
 refine fY (wpAny_field ho hd (x:=.ref t) rfl ?_)
 show gh _ _ (if (Value.ref t==Value.none)=true then _ else _) _ _ s
 rw[if_neg (show ¬((Value.ref t==Value.none)=true) from aD)]
 show gh _ _ (field (.ref it) 1 >>= _) _ _ s
 refine fY (wpAny_field ho hd (x:=.int i 0) rfl ?_)
 show gh _ _ (seqItems? (.ref t) >>= _) _ _ s
 refine fY (wpAny_seqItems hol hdl ?_)
 simp only[cU,hx]
 refine fY (wpAny_rule (fY (wpAny_setField ho hd (by simp) ?_)))
 show gh _ _ (newExc (.type "StopIteration") [] >>= _) _ _ _
 refine fY ?_
 simp only[newExc,newTuple]
 refine fY (wpAny_newObj_type ?_ (by size_fits))
 refine fY (m:=firstArgMember _ _) (wpAny_of_eq (a:=Value.none) (by first|rfl|(simp only[firstArgMember];rfl)) ?_)
 refine wpAny_newObj_type ?_ (by size_fits)
 simp only[raiseNew]
 refine fY (wpAny_handled ?_)
 first|rw[show A.in1.handled=none from hh]|rw[hh]
 refine fY (gc (wpAny_throw ?_))
 exact hE _ _ (((Heap.SameBut.update ..).extBut.push _).push _) ⟨_,aB _ rfl,rfl⟩
end
theorem Draws.tuple {A:gu}(hh:A.handled=none)(it l:Addr)(hne:l≠it)(items:Array Value) :
  Draws prog w A it [it,l] items.size (λi v=>items[i]?=some v) (λi h=>h.IsTupleIter it l i/\h.IsTuple l items) where
 live:=λ_ _ st=>let ⟨o,ho,_⟩:=st.1;⟨o,ho⟩
 frame:=λ_ _ _ st hk=>⟨st.1.at λo e=>hk it (by simp) o e,let ⟨o,ho,r⟩:=st.2;⟨o,hk l (by simp) o ho,r⟩⟩
 item:=λi s Q E hi st hQ=>by
  refine K5 st.1 st.2 (x:=items[i]) (by simp[hi]) λh' hit' hs'=>?_
  exact hQ _ h' s.toks (by simp[hi]) ⟨hit',st.2.extBut hs'.extBut hne⟩ hs'
 done:=λs Q E st hE=>T8 hh st.1 st.2 (by simp) hE
theorem D7 (l:Addr)(items:Array Value)(n:Nat)(dct:Option Addr)(sl:Array (Option Value)) :
  Meets (Builtin.«enumerate.__new__» ⟨[.type "enumerate",.ref l],[]⟩) (λ_ R s=>s.heap.get? l=some { cls:=.type "tuple",dict:=dct,data:=.seq items n,slots:=sl } /\
   R (.ok (.ret (.ref (s.heap.push { cls:=.type "tuple_iterator",data:=.fields #[.ref l,.int 0 0] }).objs.size)))
    {s with heap:=(s.heap.push { cls:=.type "tuple_iterator",data:=.fields #[.ref l,.int 0 0] }).push { cls:=.type "enumerate",data:=.fields #[.none,.bool false,.ref s.heap.objs.size,rawInt 0,.none,.none] } }) :=
 .of_wp λprog w A R s h=>by
  obtain⟨hp,g,d,tk,os⟩:=s;obtain⟨hl,h⟩:=h
  have hsub:=sub_enumerate
  have hL:Heap.IsTuple (Shared.heap ⟨hp,g,d,tk,os⟩) l items:=⟨_,hl,rfl,n,rfl⟩
  wp_walk using wpAny_loadPart' hl
  refine wpAny_stack_any λst=>gc ?_
  split
  ·rename_i c _ _ _ _ _
   cases (c==Value.type "enumerate")
   ·wp_walk using wpAny_loadPart' hl,wpAny_pyIter_tuple hL
    exact⟨_,rfl,h⟩
   ·wp_walk using wpAny_loadPart' hl,wpAny_pyIter_tuple hL
    exact⟨_,rfl,h⟩
  ·wp_walk using wpAny_loadPart' hl,wpAny_pyIter_tuple hL
   exact⟨_,rfl,h⟩
section
variable {prog:gf}{w:gq}{A:gu}{E:Value->fZ->Prop}{s:fZ}
theorem D2 {Q:Value->fZ->Prop}(hL:s.heap.IsTuple l items)
  (h:∀h',IsEnum h' (s.heap.objs.size+1) s.heap.objs.size 0 .none->h'.IsTupleIter s.heap.objs.size l 0->h'.objs.size=s.heap.objs.size+2 ->
   (∀b o,s.heap.get? b=some o->h'.get? b=some o)->Q (.ref (s.heap.objs.size+1)) { s with heap:=h' }) :
  gh (gn prog w) A (call (.type "enumerate") [.ref l]) Q E s:=by
 obtain⟨⟨c,dct,dt,sl⟩,hl,hc,n,hd⟩:=hL
 replace hc:c=.type "tuple":=hc
 replace hd:dt=.seq items n:=hd
 subst hc hd
 refine callType_new F.called_enumerate (by decide) (F.typeCall_enumerate_1 _) (F.newCall_enumerate_1 _) (λobj=>F.args_object_init_2 obj _) F.entry_enumerate_new
  (D7 l items n dct sl) ⟨hl,?_⟩
 have hz:(s.heap.push { cls:=.type "tuple_iterator",data:=.fields #[.ref l,.int 0 0] }).objs.size=s.heap.objs.size+1:=dv ..
 show _/\_
 rw[hz]
 have he:IsEnum ((s.heap.push { cls:=.type "tuple_iterator",data:=.fields #[.ref l,.int 0 0] }).push
   {cls:=.type "enumerate",data:=.fields #[.none,.bool false,.ref s.heap.objs.size,rawInt 0,.none,.none] }) (s.heap.objs.size+1) s.heap.objs.size 0 .none:=by
  have:=aB (s.heap.push { cls:=.type "tuple_iterator",data:=.fields #[.ref l,.int 0 0] })
   (o:={ cls:=.type "enumerate",data:=.fields #[.none,.bool false,.ref s.heap.objs.size,rawInt 0,.none,.none] }) rfl
  rw[hz]at this;exact this
 refine⟨⟨_,he,rfl⟩,h _ he ⟨_,ao _ (aB _ rfl),rfl,rfl⟩ (by rw[dv,hz]) λb o x=>ao _ (ao _ x)⟩
end
end PySem
namespace L2
open PySem PySem.Spec PyProof.Rows
section
variable {X:Cx}
theorem Inv.pair {σ:St}{s:fZ}{h':Heap}{xs:List V}{its:List Value}(I:Inv X pins σ H s)(fe:A5 X pins H e)(fi:A5 X pins H it)
  (k:∀b o,b≠e->b≠it->s.heap.get? b=some o->h'.get? b=some o) (hT:zx5 h' s.heap.objs.size its.toArray) (hv:p7 xs its) (hz:xs.length<=ge) :
  Inv X pins σ (upd H s.heap.objs.size (.tup xs)) { s with heap:=h',toks:=t' }:=by
 have fT:A5 X pins H s.heap.objs.size:=I.fpOk (ag _) (I.hok.fresh (ag _))
 have nT:∀b o,H b=some o->b≠s.heap.objs.size:=λb o q z=>by rw[z,fT.1]at q;cases q
 have ne:∀b o,H b=some o->b≠e:=λb o q z=>by rw[z,fe.1]at q;cases q
 have ni:∀b o,H b=some o->b≠it:=λb o q z=>by rw[z,fi.1]at q;cases q
 have ok:∀b∈[e,it,s.heap.objs.size],A5 X pins H b:=λb hb=>by
  simp only[aw,aZ,or_false]at hb
  rcases hb with rfl|rfl|rfl
  ·exact fe
  ·exact fi
  ·exact fT
 have out:∀b,b∉[e,it,s.heap.objs.size]->b≠e/\b≠it/\b≠s.heap.objs.size:=λb hb=>by
  simp only[aw,aZ,or_false,not_or]at hb
  exact hb
 refine I.step (g':=s.gens) (d':=s.drawn) (ch:=[e,it,s.heap.objs.size]) (λb hb=>⟨(ok b hb).2.2.2.1,(ok b hb).2.1,(ok b hb).2.2.2.2.1,(ok b hb).2.2.2.2.2⟩)
  (λb o _ _ hc q _=>k b o (out b hc).1 (out b hc).2.1 q) (λb o _ _ hc q _=>⟨o.slots,k b o (out b hc).1 (out b hc).2.1 q⟩) (λb o hc q n=>by rw[z6 (out b hc).2.2];exact n)
  (λb o hc q=>⟨o,k b o (out b hc).1 (out b hc).2.1 q⟩) (λb ys q=>by rw[z6 (nT b _ q)];exact q) (λb o u q=>by rw[z6 (nT b _ q)];exact q) (λb ps q=>⟨#[],by rw[z6 (nT b _ q),q];simp⟩)
  (λm hm=>?_) (λb u q=>?_) I.bare
 ·obtain⟨o,es,ep,ho,r⟩:=hm
  exact⟨o,es,ep,k _ o (Ne.symm fe.2.1) (Ne.symm fi.2.1) ho,r⟩
 ·by_cases hb:b=s.heap.objs.size
  ·subst hb
   rw[z4]at q
   cases q
   exact⟨hz,its,hv,hT⟩
  ·rw[z6 hb]at q
   refine(I.hok b u q).stay (λc v hc z=>k c v ?_ ?_ z) (λc z=>by rw[z6 (nT c _ z)];exact z) λc ys z=>by rw[z6 (nT c _ z)];exact z
   ·rcases hc with z|z
    ·rw[z];exact ne b u q
    ·exact ne c _ z
   ·rcases hc with z|z
    ·rw[z];exact ni b u q
    ·exact ni c _ z
def Ite (Sq:Hp->List V->Prop):It :=
 ⟨λi H=>∃xs x,Sq H xs/\xs[i]?=some x,λi H x H'=>∃T v,H T=none/\x=.ref T/\H'=upd H T (.tup [.int (i:Nat),v])/\∀xs,Sq H xs->xs[i]?=some v,λi H=>∃xs,Sq H xs/\xs.length<=i⟩
theorem yo0 {P:gf}{w:gq}{K:W.Frag}{elts:List Expr}{x1:Nat}{tp:Pos}(a e it:Addr)(hei:e≠it):yj8 P w K (.Tuple elts x1 tp) (Ite λH xs=>SqT K H a xs) [e,it] e (λi h=>(∃old,IsEnum h e it i old)/\h.IsTupleIter it a i) where
 mem:=by simp
 obj:=λi h st b hb=>by
  obtain⟨⟨old,he⟩,o,ho,c,d⟩:=st
  rcases aw.mp hb with z|z
  ·subst z
   exact⟨_,he,λv q=>by have q':Data.fields _=Data.cell v:=q;cases q'⟩
  ·have z':b=it:=by simpa using z
   subst z'
   exact⟨o,ho,λv q=>by rw[d]at q;cases q⟩
 keep:=λi h h' st k=>⟨let ⟨old,he⟩:=st.1;⟨old,k e (by simp) _ he⟩,st.2.at λo q=>k it (by simp) o q⟩
 item:=by
  intro X hP hw hK hc i pins s σ H E I hf st hg
  subst hP hw hK
  obtain⟨xs,x,hq,hx⟩:=hg
  obtain⟨its,rv,p,hz⟩:=I.tuple hq
  obtain⟨u,hu,ru⟩:=rv.get hx
  obtain⟨⟨old,he⟩,hit⟩:=st
  have fe:=hf e (by simp)
  have fi:=hf it (by simp)
  have hlt:i<its.toArray.size:=by
   have:=(al.mp hu).1
   simpa using this
  obtain⟨oa,hoa,hca,na,hda⟩:=id p
  have hai:a≠it:=λz=>by
   obtain⟨o,ho,c,d⟩:=id hit
   rw[z,ho]at hoa
   cases hoa
   rw[c]at hca
   exact absurd hca (by decide)
  have hae:e∉[it,a]:=by
   intro z
   simp only[aw,aZ,or_false]at z
   rcases z with z|z
   ·exact hei z
   ·rw[←z,he]at hoa
    cases hoa
    exact absurd (show Value.type "enumerate"=Value.type "tuple" from hca) (by decide)
  refine wpAny_pyNext_enum_itemD (Draws.tuple (A:=X.A.in1) (I.ok.hd hc) it a hai its.toArray) he ⟨hit,p⟩ hlt hei hae λy h' tk hP ho hst hT hsz kk=>?_
  obtain rfl:y=u:=by
   have:its.toArray[i]?=some u:=by simpa using hu
   rw[this]at hP
   exact(Option.some.inj hP).symm
  have I1:Inv X pins σ (upd H s.heap.objs.size (.tup [.int (i:Nat),x])) { s with heap:=h',toks:=tk+1 }:=I.pair (its:=[.int i tk,y]) fe fi kk ⟨_,hT,rfl,_,rfl,rfl⟩ (.cons ⟨tk,rfl⟩ (.cons ru .nil)) (by show 2<=ge;decide)
  have neT:∀b∈[e,it],b≠s.heap.objs.size:=λb hb z=>by
   rcases aw.mp hb with q|q
   ·rw[←q,z]at he
    exact absurd (az he) (aY _)
   ·have q':b=it:=by simpa using q
    obtain⟨o,hi2,_⟩:=hit
    rw[←q',z]at hi2
    exact absurd (az hi2) (aY _)
  have fr:∀b∈[e,it],(upd H s.heap.objs.size (.tup [.int (i:Nat),x])) b=none:=λb hb=>by rw[z6 (neT b hb)];exact(hf b hb).1
  refine⟨_,rfl,wpAny_letOwnedTupleGo_enum (s:={ s with heap:=h',toks:=tk+1 }) ho λh'' he'' hs''=>?_⟩
  have I2:Inv X pins σ (upd H s.heap.objs.size (.tup [.int (i:Nat),x])) { s with heap:=h'',toks:=tk+1 }:=I1.turned (t':=tk+1) (λb o hb q=>(hs''.2 b hb).trans q) (fr e (by simp)) fe.2.1 fe.2.2.2.1 fe.2.2.2.2.1 fe.2.2.2.2.2
  refine⟨.ref s.heap.objs.size,_,I2,rfl,⟨s.heap.objs.size,x,I.hok.fresh (ag _),rfl,rfl,λys hy=>by rw[I.tuple_inj hy hq];exact hx⟩,⟨⟨y,by simpa using he''⟩,hst.1.at λo q=>(hs''.2 it (Ne.symm hei)).trans q⟩,fr⟩
 done:=by
  intro X hP hw hK hc i pins s σ H E I hf st hg
  subst hP hw hK
  obtain⟨xs,hq,hx⟩:=hg
  obtain⟨its,rv,p,hz⟩:=I.tuple hq
  obtain⟨⟨old,he⟩,hit⟩:=st
  have fi:=hf it (by simp)
  have hT:s.TypeIs (.ref e) "enumerate":=⟨_,he,rfl⟩
  unfold pyNext
  refine fY (wpAny_attempt (wpAny_callSpecial?_slot (name:=Str.ofString "__next__") hT F.slot_enumerate_next
   (wpAny_call_entry F.slot_enumerate_next hT F.entry_enumerate_next ?_ (F.args_enumerate_next_1 _))))
  show gh _ _ (field (.ref e) 2 >>= _) _ _ _
  refine fY (wpAny_field he rfl (x:=.ref it) rfl ?_)
  have hl:=rv.length
  refine fY (T8 (A:=_) (I.ok.hd hc) hit p (by simp;lia) λh' x he' hx'=>?_)
  obtain⟨o,ho,hcl⟩:=hx'
  refine fY (wpAny_isInstance (T:="StopIteration") (b:=true) ⟨o,ho,hcl⟩ isSubtype_stop ?_)
  exact gc ⟨rfl,I.turned (t':=s.toks) (λb o hb q=>he' b o hb q) fi.1 fi.2.1 fi.2.2.2.1 fi.2.2.2.2.1 fi.2.2.2.2.2⟩
 self:=λ_ _ _ _ _ st h=>let ⟨_,he⟩:=st.1;wpAny_pyIter_enum he h
theorem yn9 {P:gf}{w:gq}{K:W.Frag}{elts:List Expr}{x1:Nat}{tp:Pos}(a e it:Addr)(hei:e≠it):yj8 P w K (.Tuple elts x1 tp) (Ite λH xs=>SqL K H a xs) [e,it] e (λi h=>(∃old,IsEnum h e it i old)/\h.IsListIter it a i) where
 mem:=by simp
 obj:=λi h st b hb=>by
  obtain⟨⟨old,he⟩,o,ho,c,d⟩:=st
  rcases aw.mp hb with z|z
  ·subst z
   exact⟨_,he,λv q=>by have q':Data.fields _=Data.cell v:=q;cases q'⟩
  ·have z':b=it:=by simpa using z
   subst z'
   exact⟨o,ho,λv q=>by rw[d]at q;cases q⟩
 keep:=λi h h' st k=>⟨let ⟨old,he⟩:=st.1;⟨old,k e (by simp) _ he⟩,st.2.at λo q=>k it (by simp) o q⟩
 item:=by
  intro X hP hw hK hc i pins s σ H E I hf st hg
  subst hP hw hK
  obtain⟨xs,x,hq,hx⟩:=hg
  obtain⟨its,rv,p,hz⟩:=I.list hq
  obtain⟨u,hu,ru⟩:=rv.get hx
  obtain⟨⟨old,he⟩,hit⟩:=st
  have fe:=hf e (by simp)
  have fi:=hf it (by simp)
  have hlt:i<its.toArray.size:=by
   have:=(al.mp hu).1
   simpa using this
  obtain⟨oa,hoa,hca,na,hda⟩:=id p.isList
  have hai:a≠it:=λz=>by
   obtain⟨o,ho,c,d⟩:=id hit
   rw[z,ho]at hoa
   cases hoa
   rw[c]at hca
   exact absurd hca (by decide)
  have hae:e∉[it,a]:=by
   intro z
   simp only[aw,aZ,or_false]at z
   rcases z with z|z
   ·exact hei z
   ·rw[←z,he]at hoa
    cases hoa
    exact absurd (show Value.type "enumerate"=Value.type "list" from hca) (by decide)
  refine wpAny_pyNext_enum_itemD (Draws.list (A:=X.A.in1) (I.ok.hd hc) it a hai its.toArray) he ⟨hit,p.isList⟩ hlt hei hae λy h' tk hP ho hst hT hsz kk=>?_
  obtain rfl:y=u:=by
   have:its.toArray[i]?=some u:=by simpa using hu
   rw[this]at hP
   exact(Option.some.inj hP).symm
  have I1:Inv X pins σ (upd H s.heap.objs.size (.tup [.int (i:Nat),x])) { s with heap:=h',toks:=tk+1 }:=I.pair (its:=[.int i tk,y]) fe fi kk ⟨_,hT,rfl,_,rfl,rfl⟩ (.cons ⟨tk,rfl⟩ (.cons ru .nil)) (by show 2<=ge;decide)
  have neT:∀b∈[e,it],b≠s.heap.objs.size:=λb hb z=>by
   rcases aw.mp hb with q|q
   ·rw[←q,z]at he
    exact absurd (az he) (aY _)
   ·have q':b=it:=by simpa using q
    obtain⟨o,hi2,_⟩:=hit
    rw[←q',z]at hi2
    exact absurd (az hi2) (aY _)
  have fr:∀b∈[e,it],(upd H s.heap.objs.size (.tup [.int (i:Nat),x])) b=none:=λb hb=>by rw[z6 (neT b hb)];exact(hf b hb).1
  refine⟨_,rfl,wpAny_letOwnedTupleGo_enum (s:={ s with heap:=h',toks:=tk+1 }) ho λh'' he'' hs''=>?_⟩
  have I2:Inv X pins σ (upd H s.heap.objs.size (.tup [.int (i:Nat),x])) { s with heap:=h'',toks:=tk+1 }:=I1.turned (t':=tk+1) (λb o hb q=>(hs''.2 b hb).trans q) (fr e (by simp)) fe.2.1 fe.2.2.2.1 fe.2.2.2.2.1 fe.2.2.2.2.2
  refine⟨.ref s.heap.objs.size,_,I2,rfl,⟨s.heap.objs.size,x,I.hok.fresh (ag _),rfl,rfl,λys hy=>by rw[I.list_inj hy hq];exact hx⟩,⟨⟨y,by simpa using he''⟩,hst.1.at λo q=>(hs''.2 it (Ne.symm hei)).trans q⟩,fr⟩
 done:=by
  intro X hP hw hK hc i pins s σ H E I hf st hg
  subst hP hw hK
  obtain⟨xs,hq,hx⟩:=hg
  obtain⟨its,rv,p,hz⟩:=I.list hq
  obtain⟨⟨old,he⟩,hit⟩:=st
  have fi:=hf it (by simp)
  have hT:s.TypeIs (.ref e) "enumerate":=⟨_,he,rfl⟩
  unfold pyNext
  refine fY (wpAny_attempt (wpAny_callSpecial?_slot (name:=Str.ofString "__next__") hT F.slot_enumerate_next
   (wpAny_call_entry F.slot_enumerate_next hT F.entry_enumerate_next ?_ (F.args_enumerate_next_1 _))))
  show gh _ _ (field (.ref e) 2 >>= _) _ _ _
  refine fY (wpAny_field he rfl (x:=.ref it) rfl ?_)
  have hl:=rv.length
  refine fY (wpAny_nextOf_list_end (A:=_) (I.ok.hd hc) hit p.isList (by simp;lia) λh' x he' hx'=>?_)
  obtain⟨o,ho,hcl⟩:=hx'
  refine fY (wpAny_isInstance (T:="StopIteration") (b:=true) ⟨o,ho,hcl⟩ isSubtype_stop ?_)
  exact gc ⟨rfl,I.turned (t':=s.toks) (λb o hb q=>he' b o hb q) fi.1 fi.2.1 fi.2.2.2.1 fi.2.2.2.2.1 fi.2.2.2.2.2⟩
 self:=λ_ _ _ _ _ st h=>let ⟨_,he⟩:=st.1;wpAny_pyIter_enum he h
def xp5 (K:W.Frag)(ta:TA):TI:=λσ H R=>ta σ H λvs H1=>∃a,vs=[.ref a]/\(∃xs,SqT K H1 a xs)/\R (Ite λH xs=>SqT K H a xs) H1
def xp4 (K:W.Frag)(ta:TA):TI:=λσ H R=>ta σ H λvs H1=>∃a,vs=[.ref a]/\(∃xs,SqL K H1 a xs)/\R (Ite λH xs=>SqL K H a xs) H1
theorem yg2 (hg:Gl X "enumerate")(hm:X.mg "enumerate"=none)(ha:PA X [a] ta)(hs:gl [a] X.env=[(false,eval a X.env)]:=by rfl):PI X (.Tuple elts x1 tp) (.Call (.Name "enumerate" p) [a] [] pos) (xp5 X.K ta):=by
 intro pins s σ H R I h
 refine Call_ (zh3 I hg hm boot_enumerate (PyProof.Rows.callWith_type1 (thn (ha pos pins s σ H _ I h) λus s1 ⟨vs,H1,I1,r1,q1⟩=>?_) hs rfl))
 obtain⟨b,e,⟨xs,hq⟩,q⟩:=q1
 subst e
 cases r1 with
 | cons r rr =>
  cases rr
  cases r
  obtain⟨its,rv,pl,hz⟩:=I1.tuple hq
  refine D2 pl λh' he hit hsz kk=>?_
  have I2:Inv X pins σ H1 { s1 with heap:=h' }:=I1.kept (t':=s1.toks) kk
  refine wpAny_pyIter_enum he ⟨s1.heap.objs.size+1,[s1.heap.objs.size+1,s1.heap.objs.size],_,_,H1,rfl,I2,yo0 b _ _ (cY (cZ _)),⟨⟨.none,by simpa using he⟩,hit⟩,λc hc=>?_,q⟩
  have hle:s1.heap.objs.size<=c:=by
   simp only[aw,aZ,or_false]at hc
   rcases hc with rfl|rfl
   ·exact bU _
   ·exact ag _
  exact I1.fpOk hle (I1.hok.fresh hle)
theorem ze3 (hg:Gl X "enumerate")(hm:X.mg "enumerate"=none)(ha:PA X [a] ta)(hs:gl [a] X.env=[(false,eval a X.env)]:=by rfl):PI X (.Tuple elts x1 tp) (.Call (.Name "enumerate" p) [a] [] pos) (xp4 X.K ta):=by
 intro pins s σ H R I h
 refine Call_ (zh3 I hg hm boot_enumerate (PyProof.Rows.callWith_type1 (thn (ha pos pins s σ H _ I h) λus s1 ⟨vs,H1,I1,r1,q1⟩=>?_) hs rfl))
 obtain⟨b,e,⟨xs,hq⟩,q⟩:=q1
 subst e
 cases r1 with
 | cons r rr =>
  cases rr
  cases r
  obtain⟨its,rv,pl,hz⟩:=I1.list hq
  refine call_enumerate_list pl.isList λh' he hit hsz kk=>?_
  have I2:Inv X pins σ H1 { s1 with heap:=h' }:=I1.kept (t':=s1.toks) kk
  refine wpAny_pyIter_enum he ⟨s1.heap.objs.size+1,[s1.heap.objs.size+1,s1.heap.objs.size],_,_,H1,rfl,I2,yn9 b _ _ (cY (cZ _)),⟨⟨.none,by simpa using he⟩,hit⟩,λc hc=>?_,q⟩
  have hle:s1.heap.objs.size<=c:=by
   simp only[aw,aZ,or_false]at hc
   rcases hc with rfl|rfl
   ·exact bU _
   ·exact ag _
  exact I1.fpOk hle (I1.hok.fresh hle)
theorem L7 {Sq:Hp->List V->Prop}{xs:List V}{g:TG}{tb:TS}{D:zf9}(Pv:Nat->St->Hp->Prop)(h0:Pv 0 σ H)(hl:∀i σ H,i<=xs.length->Pv i σ H->Sq H xs)
  (hs:∀i x σ H T,xs[i]?=some x->Pv i σ H->H T=none->g (.ref T) σ (upd H T (.tup [.int (i:Nat),x])) λσ2 H2=>tb { D with nx:=Pv (i+1),ct:=Pv (i+1),bk:=D.nx } σ2 H2) (hd:∀σ H,Pv xs.length σ H->D.nx σ H) :
  ∃W:Nat->Nat->St->Hp->Prop,(∃m,W 0 m σ H)/\∀i m σ H,W i m σ H ->
   ((Ite Sq).stop i H/\D.nx σ H)∨((Ite Sq).go i H/\∃N:St->Hp->Prop,(∀σ' H',N σ' H'->∃m',m'<m/\W (i+1) m' σ' H')/\∀x H',(Ite Sq).yld i H x H'->g x σ H' λσ2 H2=>tb { D with nx:=N,ct:=N,bk:=D.nx } σ2 H2):=by
 refine⟨λi m σ H=>m=xs.length-i/\i<=xs.length/\Pv i σ H,⟨xs.length,by simp,aP _,h0⟩,?_⟩
 rintro i m σ H ⟨rfl,hi,p⟩
 have q:=hl i σ H hi p
 by_cases hlt:i<xs.length
 ·refine .inr ⟨⟨xs,xs[i],q,by simp[hlt]⟩,Pv (i+1),λσ' H' p'=>⟨xs.length-(i+1),by lia,rfl,hlt,p'⟩,λx H' y=>?_⟩
  obtain⟨T,v,hT,rfl,rfl,hv⟩:=y
  exact hs i v σ H T (hv xs q) p hT
 ·have e:i=xs.length:=by lia
  subst e
  exact .inl ⟨⟨xs,q,ag _⟩,hd σ H p⟩
end
section
variable {X:Cx}
end
section
variable {X:Cx}
end
section
variable {X:Cx}
theorem zz6:OpR X (binaryOp .Add) (λx y H Q=>∃(l b:Addr) (xs zs:List V),x=.ref l/\y=.ref b/\SqL X.K H l xs/\SqL X.K H b zs/\xs.length+zs.length<=ge/\∀p,H p=none->Q (.ref p) (upd H p (.lst (xs++zs)))):=by
 intro pins s σ H x y v u Q I rx ry h
 obtain⟨l,b,xs,zs,rfl,rfl,hH,hB,hz,q⟩:=h
 cases rx
 cases ry
 obtain⟨its,r,p1,_⟩:=I.list hH
 obtain⟨its2,r2,p2,_⟩:=I.list hB
 obtain⟨⟨cls,dd,data,sl⟩,n,ho,hc,_,hd⟩:=p1
 obtain⟨⟨cls2,dd2,data2,sl2⟩,n2,ho2,hc2,_,hd2⟩:=p2
 simp only at hc hd hc2 hd2
 subst hc hd hc2 hd2
 have l1:=r.length
 have l2:=r2.length
 have e:its.toArray++its2.toArray=(its++its2).toArray:=by simp
 refine concat_meets ⟨_,ho,rfl⟩ ⟨_,ho2,rfl⟩ noFill_list_add seq_list_add PySem.F.slot_list_add PySem.F.entry_list_add (PySem.F.args_list_add_2 _ _) (list_addW l b its.toArray its2.toArray n n2 dd dd2 sl sl2 (by simp only[aA];lia)) ⟨ho,ho2,?_⟩
 rw[e]
 exact⟨.ref _,_,I.lnew (t':=s.toks) (r.append r2) (by rw[ah];lia),rfl,q _ I.fresh⟩
end
section
variable {X:Cx}
end
end L2
namespace L2
open PySem PySem.Spec PyProof.Rows PyProof.Rows.LSm
mutual
inductive RdD (K:W.Frag) (H:Hp):V->PyData->Prop
 | non:RdD K H .non .none
 | bl (b:Bool):RdD K H (.bl b) (.bool b)
 | int (i:Int):RdD K H (.int i) (.int i)
 | str (x:Str):RdD K H (.str x) (.str x)
 | lst {a:Addr} {xs:List V} {ds:List PyData}:SqL K H a xs->D1 K H xs ds->RdD K H (.ref a) (.list ds)
 | tup {a:Addr} {xs:List V} {ds:List PyData}:SqT K H a xs->D1 K H xs ds->RdD K H (.ref a) (.tuple ds)
inductive D1 (K:W.Frag) (H:Hp):List V->List PyData->Prop
 | nil:D1 K H [] []
 | cons {x:V} {d:PyData} {xs:List V} {ds:List PyData}:RdD K H x d->D1 K H xs ds->D1 K H (x::xs) (d::ds)
end
theorem D1.ints {K:W.Frag}:∀(ns:List Int),D1 K H (ns.map V.int) (ns.map PyData.int)
 | []=>.nil
 | n::r=>.cons (.int n) (D1.ints r)
section
variable {X:Cx}{pins:List (Addr×Obj)}{σ:St}{H:Hp}{s:fZ}
mutual
theorem RdD.reads (I:Inv X pins σ H s):∀{x:V} {d:PyData},RdD X.K H x d->∀u,p9 x u->∃as,Reads s.heap u d as
 | _,_,.non,u,r=>by cases (show u=Value.none from r);exact⟨_,.none⟩
 | _,_,.bl b,u,r=>by cases (show u=Value.bool b from r);exact⟨_,.bool b⟩
 | _,_,.int i,u,r=>by obtain⟨t,rfl⟩:=(show ∃t,u=Value.int i t from r);exact⟨_,.int i t⟩
 | _,_,.str x,u,r=>by obtain⟨t,rfl⟩:=(show ∃t,u=Value.str x t from r);exact⟨_,.str x t⟩
 | _,_,.lst h hs,u,r=>by
  cases (show u=Value.ref _ from r)
  obtain⟨its,rv,p,_⟩:=I.list h
  obtain⟨o,ho,hc,n,hd⟩:=p.isList
  obtain⟨as,ha⟩:=D1.reads I hs its rv
  exact⟨_,.list ho hc hd (by simpa using ha)⟩
 | _,_,.tup h hs,u,r=>by
  cases (show u=Value.ref _ from r)
  obtain⟨its,rv,p,_⟩:=I.tuple h
  obtain⟨o,ho,hc,n,hd⟩:=p
  obtain⟨as,ha⟩:=D1.reads I hs its rv
  exact⟨_,.tuple ho hc hd (by simpa using ha)⟩
theorem D1.reads (I:Inv X pins σ H s):∀{xs:List V} {ds:List PyData},D1 X.K H xs ds->∀us,p7 xs us->∃as,ReadsAll s.heap us ds as
 | _,_,.nil,us,r=>by cases r;exact⟨_,.nil⟩
 | _,_,.cons h hs,us,r=>by
  cases r with
  | cons r1 r2 =>
   obtain⟨as,ha⟩:=RdD.reads I h _ r1
   obtain⟨bs,hb⟩:=D1.reads I hs _ r2
   exact⟨_,.cons ha hb⟩
end
end
section
variable {X:Cx}
theorem ym0 (hu:X.A.units+64<cLine):OpR X (compareOp .Eq) (λx y H Q=>∃d e,RdD X.K H x d/\RdD X.K H y e/\PySem.SeqAt.shaped d=true/\PySem.SeqAt.shaped e=true/\Q (.bl (PyData.eqv d e)) H):=by
 intro pins s σ H x y v u Q I rx ry h
 obtain⟨d,e,hd,he,s1,s2,q⟩:=h
 obtain⟨as,ra⟩:=hd.reads I v rx
 obtain⟨bs,rb⟩:=he.reads I u ry
 exact eq_dataH ra rb s1 s2 hu ⟨.bl _,H,I,rfl,q⟩
theorem ym1 (hu:X.A.units+64<cLine):OpR X (compareOp .NotEq) (λx y H Q=>∃d e,RdD X.K H x d/\RdD X.K H y e/\PySem.SeqAt.shaped d=true/\PySem.SeqAt.shaped e=true/\Q (.bl (!PyData.eqv d e)) H):=by
 intro pins s σ H x y v u Q I rx ry h
 obtain⟨d,e,hd,he,s1,s2,q⟩:=h
 obtain⟨as,ra⟩:=hd.reads I v rx
 obtain⟨bs,rb⟩:=he.reads I u ry
 exact ne_dataH ra rb s1 s2 hu ⟨.bl _,H,I,rfl,q⟩
theorem zj4:∀{bs:List Bool} {us:List Value},p7 (bs.map V.bl) us->BoolsAre us bs
 | [],_,r=>by cases r;exact .nil
 | b::bs,_,r=>by
  cases r with
  | cons a c =>
   cases (show _=Value.bool b from a)
   exact .cons b (zj4 c)
theorem B6 (hc:X.calm=true):T9 X (.builtin "all") (λxs H Q=>∃(p:Addr) (bs:List Bool),xs=[.ref p]/\SqL X.K H p (bs.map V.bl)/\Q (.bl (bs.all id)) H):=by
 intro pins s σ H xs us Q I r h
 obtain⟨p,bs,rfl,hq,q⟩:=h
 obtain⟨u,rfl,rx⟩:=N6 r
 cases rx
 obtain⟨its,r1,p1,hz⟩:=I.list hq
 obtain⟨m,F⟩:=I.fr
 have hb:=zj4 r1
 have hl:=p1.isList
 have hlt:p<s.heap.objs.size:=by obtain⟨_,e,_⟩:=hl;exact az e
 refine call_all_walk (wpAny_pyIter_list hl ?_)
 refine⟨s.heap.objs.size,[s.heap.objs.size,p],[s.heap.objs.size],its.toArray.size,_,_,λi=>(bs[i]?).getD true,rfl,Walks.list (A:=X.A.in1) (I.ok.hd hc) _ p (aU hlt) its.toArray,
  ⟨⟨_,aB _ rfl,rfl,rfl⟩,hl.push _⟩,λi v s' Q' E' hP hQ=>?_,λh' tk hk=>?_⟩
 ·obtain⟨b,e,rfl⟩:=hb.get i v (by simpa using hP)
  simp only[e,dC]at hQ
  exact wpAny_truthy_bool hQ
 ·have e:((List.range its.toArray.size).all λi=>(bs[i]?).getD true)=bs.all id:=by
   rw[aA,hb.length];exact range_all bs
  rw[e]
  exact⟨.bl _,H,I.kept (kept_iter hk),rfl,q⟩
end
end L2
namespace L2
open PySem PySem.Spec PyProof.Rows
section
variable {X:Cx}
end
section
variable {X:Cx}{tg:Expr}
end
section
variable {X:Cx}
end
def CX1 (P:gf)(w:gq):CXT:=λouter H s E e s'=>∃(ea C:Addr) (a0:Value) (B:Heap) (H':Hp),e=.ref ea/\s'.os=s.os/\AllBare s'.gens/\HOk P w H' B/\Heap.FlyingW B outer ea (.ref C) a0 s'.heap /\
 (∀b o,s.heap.get? b=some o->H b=none->b∉frs outer->B.get? b=some o) /\
 (∀b o,s.heap.get? b=some o->H b=none->b∈frs outer->∃sl,s'.heap.get? b=some { o with slots:=sl }) /\
 (∀b o,s.heap.get? b=some o->H b=none->H' b=none) /\
 (∀b o,s.heap.get? b=some o->b∈frs outer∨∃o',B.get? b=some o') /\
 (∀b xs,H b=some (.tup xs)->H' b=some (.tup xs))/\(∀b o u,H b=some (.frz o u)->H' b=some (.frz o u)) /\
 (∀b ps,H b=some (.tbl ps)->∃more,H' b=some (.tbl (ps++more)))/\E (.ref C) none H'
theorem yz5 (x:HOk P w H h)(hf:∀b∈fs,H b=none):HOk P w H (W.hideAll h fs):=λa o e =>
 (x a o e).stay (λb u hb q=>W.hideAll_get _ q λhm=>by
  have hn:=hf b hm
  rcases hb with rfl|hb
  ·rw[e]at hn;cases hn
  ·rw[hb]at hn;cases hn) (λ_ q=>q) λ_ _ q=>q
section
variable {P:gf}{w:gq}{K:W.Frag}{mg:Str->Option Value}{base:Heap}{N:List Str}{qual:Str}{scope:Scope}{f:Addr}{cd:Value}{A:gu}{outer:List Env}{s s1:fZ}{H H1:Hp}{E:XK}{pins:List (Addr×Obj)}{σ:St}
theorem yl0 (I:Inv (X8 (CX1 P w) P w K mg base N qual scope f cd A outer s H E) pins σ H1 s1)(hx:Heap.MadeExcOf s1.heap h' e (.ref C) args)(hE:E (.ref C) none H1) :
  (X8 (CX1 P w) P w K mg base N qual scope f cd A outer s H E).xe (.ref e) { s1 with heap:=h' }:=by
 have hst:=I.stack
 have hfree:=I.stkFree
 refine wpAny_leaves_madeW (base:=W.hideAll s1.heap (frs (envOfC qual scope s.heap.objs.size f cd::outer))) (h:=s1.heap) I.ok.frames rfl (λb o q=>W.of_hideAll _ q) (W.funFrames_hide hst λenv he a ha=>bE.mpr ⟨env,he,ha⟩) hx λh'' t x1 x2 x3 x4=>?_
 have notL:∀b o,s.heap.get? b=some o->b∉frs outer->b∉frs (envOfC qual scope s.heap.objs.size f cd::outer):=λb o hb hn hm=>by
  obtain⟨env,he,ha⟩:=bE.mp hm
  rcases aw.mp he with rfl|he
  ·have e1:s.heap.objs.size=b:=Option.some.inj ha
   exact absurd (az hb) (by rw[e1];exact aY _)
  ·exact hn (bE.mpr ⟨env,he,ha⟩)
 refine⟨e,C,.ref t,_,H1,rfl,I.os,I.bare,yz5 I.hok hfree,x1,λb o hb hn hf=>?_,λb o hb hn hf=>?_,λb o hb hn=>?_,λb o hb=>?_,I.base.tups,I.base.frzs,I.base.tbls,hE⟩
 ·exact W.hideAll_get _ (I.base.keep b o hb hn hf (by intro z;cases z)) (notL b o hb hf)
 ·obtain⟨sl,q⟩:=I.base.slot b o hb hn hf (by intro z;cases z)
  obtain⟨_,o2,ho2,hd⟩:=I.funs.mem hf
  have e2:o2={ o with slots:=sl }:=Option.some.inj (ho2.symm.trans q)
  subst e2
  obtain⟨sl',q'⟩:=x4 b _ (hx.keeps _ _ q) hd
  exact⟨sl',q'⟩
 ·exact I.base.free b o hb hn (by intro z;cases z)
 ·by_cases hf:b∈frs outer
  ·exact .inl hf
  ·obtain⟨o',q⟩:=I.base.there b o hb (by intro z;cases z)
   exact .inr ⟨o',W.hideAll_get _ q (notL b o hb hf)⟩
theorem xb8 (I:Inv (X8 (CX1 P w) P w K mg base N qual scope f cd A outer s H E) pins σ H1 s1)(hx:CX1 P w (X8 (CX1 P w) P w K mg base N qual scope f cd A outer s H E).stack H1 s1 E1 e s2)(hE:∀C a H',E1 C a H'->E C a H') :
  (X8 (CX1 P w) P w K mg base N qual scope f cd A outer s H E).xe e s2:=by
 obtain⟨ea,C,a0,B,H',rfl,hos,hbare,hok,hfl,k1,k2,k3,k4,k5,k6,k7,hE1⟩:=hx
 refine wpAny_leaves_onW I.ok.frames rfl hfl λh'' x1 x2=>?_
 have inB:∀b o,s.heap.get? b=some o->H b=none->b∉frs outer->B.get? b=some o:=λb o hb hn hf=>by
  have q:=I.base.keep b o hb hn hf (by intro z;cases z)
  refine k1 b o q (I.base.free b o hb hn (by intro z;cases z)) λhm=>?_
  obtain⟨env,he,ha⟩:=bE.mp hm
  rcases aw.mp he with rfl|he
  ·have e1:s.heap.objs.size=b:=Option.some.inj ha
   exact absurd (az hb) (by rw[e1];exact aY _)
  ·exact hf (bE.mpr ⟨env,he,ha⟩)
 have sub:∀b,b∈frs outer->b∈frs (envOfC qual scope s.heap.objs.size f cd::outer):=λb hb=>by
  obtain⟨env,he,ha⟩:=bE.mp hb
  exact bE.mpr ⟨env,av _ he,ha⟩
 refine⟨ea,C,a0,B,H',rfl,hos.trans I.os,hbare,hok,x1,inB,λb o hb hn hf=>?_,λb o hb hn=>?_,λb o hb=>?_,λb xs q=>k5 b xs (I.base.tups b xs q),λb o u q=>k6 b o u (I.base.frzs b o u q),λb ps q=>?_,hE _ _ _ hE1⟩
 ·obtain⟨sl,q⟩:=I.base.slot b o hb hn hf (by intro z;cases z)
  have hn1:=I.base.free b o hb hn (by intro z;cases z)
  obtain⟨sl2,q2⟩:=k2 b _ q hn1 (sub b hf)
  obtain⟨_,o2,ho2,hd⟩:=I.funs.mem hf
  have e2:o2={ o with slots:=sl }:=Option.some.inj (ho2.symm.trans q)
  subst e2
  obtain⟨sl',q'⟩:=x2 b _ q2 hd
  exact⟨sl',q'⟩
 ·obtain⟨o',q⟩:=I.base.there b o hb (by intro z;cases z)
  exact k3 b o' q (I.base.free b o hb hn (by intro z;cases z))
 ·by_cases hf:b∈frs outer
  ·exact .inl hf
  ·obtain⟨o',q⟩:=I.base.there b o hb (by intro z;cases z)
   rcases k4 b o' q with hm|hm
   ·obtain⟨env,he,ha⟩:=bE.mp hm
    rcases aw.mp he with rfl|he
    ·have e1:s.heap.objs.size=b:=Option.some.inj ha
     exact absurd (az hb) (by rw[e1];exact aY _)
    ·exact absurd (bE.mpr ⟨env,he,ha⟩) hf
   ·exact .inr hm
 ·obtain⟨m1,q1⟩:=I.base.tbls b ps q
  obtain⟨m2,q2⟩:=k7 b _ q1
  exact⟨m1++m2,by rw[q2,fA]⟩
end
section
variable {prog:gf}{w:gq}{A:gu}{s:fZ}
end
section
variable {X:Cx}{own:Nat}{fr:List Nat}{N':List Str}{tg iter elt ce:Expr}{scope:Scope}{pos:Pos}{wi:TI}{g:CT TG}{te:CT TE}{tt:CT TT}
end
section
variable {X:Cx}
end
abbrev bmV:List Value:=[.type "ValueError",.type "Exception",.type "BaseException",.type "object"]
structure zk6 (K:W.Frag) (C:Addr) (tl:List Value) (newId:String):Prop where
 obj:∃nm qn N bs hdct sn sub ab col dd k0 k1 k2 k3 k5 oN,K.lookup C=some (excClassObj nm qn C N bs tl hdct sn sub ab col dd k0 k1 k2 k3 k5 newId)/\K.lookup N=some oN/\W.nsOkIn K N=true/\W.nsIn K N "__init__"=some none
 tail:W.tailIn K bmV tl=true
theorem zk6.mk' {K:W.Frag}
  (l:K.lookup C=some (excClassObj nm qn C N bs tl hdct sn sub ab col dd k0 k1 k2 k3 k5 newId)) (n:K.lookup N=some oN) (o:W.nsOkIn K N=true) (i:W.nsIn K N "__init__"=some none) (t:W.tailIn K bmV tl=true):zk6 K C tl newId :=
 ⟨⟨nm,qn,N,bs,hdct,sn,sub,ab,col,dd,k0,k1,k2,k3,k5,oN,l,n,o,i⟩,t⟩
theorem xw5 {K:W.Frag}(x:zk6 K C tl newId):∃nm qn N bs hdct sn sub ab col dd k0 k1 k2 k3 k5 oN,
  K.lookup C=some (excClassObj nm qn C N bs tl hdct sn sub ab col dd k0 k1 k2 k3 k5 newId)/\K.lookup N=some oN/\∀h,K.In h->(∃mN,h.Ns N mN/\mN "__init__"=none)/\OwnTail h bmV tl:=by
 obtain⟨⟨nm,qn,N,bs,hdct,sn,sub,ab,col,dd,k0,k1,k2,k3,k5,oN,l,n,o,i⟩,t⟩:=x
 exact⟨nm,qn,N,bs,hdct,sn,sub,ab,col,dd,k0,k1,k2,k3,k5,oN,l,n,λh X=>⟨⟨_,.of_isNs (W.isNs_of_in X o),W.nsMap_none_of_in X o i⟩,W.tail_of_in X t⟩⟩
theorem xj9 {h h':Heap}{m:Str->Option Value}(e:h.get? N=some o)(e':h'.get? N=some o)(n:h.Ns N m):h'.Ns N m:=by
 obtain⟨o1,es,ep,ho,r⟩:=n
 rw[e]at ho
 cases ho
 exact⟨o,es,ep,e',r⟩
theorem OwnTail.base_in {tl:List Value}(T:OwnTail h bmV tl):tl.contains (.type "BaseException")=true:=T.hasType (by decide)
def zx2 (ea C:Addr):HO:=.ext λh=>∃o,h.get? ea=some o/\o.cls=.ref C
section
variable {P:gf}{w:gq}{K:W.Frag}{mg:Str->Option Value}{base:Heap}{N:List Str}{qual:Str}{scope:Scope}{f:Addr}{cd:Value}{A:gu}{outer:List Env}{s0:fZ}{H0:Hp}{E:XK}
theorem zq9 {e:Expr}{es:List Expr}{t:TA}{np cpos pos:Pos}(hm:mg x=some (.ref C))(hx:zk6 K C tl newId)(Fn:ExcBaseFacts Bn newId inN bmN)(hBn:bmV.contains (.type Bn)=true)
  (hg:Gl (X8 (CX1 P w) P w K mg base N qual scope f cd A outer s0 H0 E) x) (ha:PA (X8 (CX1 P w) P w K mg base N qual scope f cd A outer s0 H0 E) (e::es) t)
  (hd:(x==("__debug__":Str))=false:=by decide) (he:gl (e::es) (envOfC qual scope s0.heap.objs.size f cd)=(false,eval e (envOfC qual scope s0.heap.objs.size f cd))::gl es (envOfC qual scope s0.heap.objs.size f cd):=by rfl)
  (hpl:(backTo cpos (gl es (envOfC qual scope s0.heap.objs.size f cd))).any (·.1)=false:=by rfl) :
  PS (X8 (CX1 P w) P w K mg base N qual scope f cd A outer s0 H0 E) (.Raise (some (.Call (.Name x np) (e::es) [] cpos)) none pos) (λD σ H1=>t σ H1 λvs H2=>vs.length<=1000/\E (.ref C) none H2):=by
 intro pins s σ H D I h
 obtain⟨nm,qn,Na,bs,hdct,sn,sub,ab,col,dd,k0,k1,k2,k3,k5,oN,lC,lN,all⟩:=xw5 hx
 obtain⟨⟨mN,hN,hni⟩,T⟩:=all _ I.kIn
 refine wpAny_Raise_call_subU (C:=C) (nm:=nm) (q:=qn) (N:=Na) (bs:=bs) (bm:=tl) (hdct:=hdct) (sn:=sn) (sub:=sub) (ab:=ab) (col:=col) (dd:=dd) (k0:=k0) (k1:=k1) (k2:=k2) (k3:=k3) (k5:=k5)
  Fn hBn PySem.F.excBase_ValueError (mN:=mN) (OwnTail.base_in T) (I.ok.hd rfl) ?_ hni (K9 I hg hm ⟨rfl,?_⟩ hd)
 ·show(backTo cpos (gl (e::es) (envOfC qual scope s0.heap.objs.size f cd))).any (·.1)=false
  rw[he]
  show(false || (backTo cpos (gl es (envOfC qual scope s0.heap.objs.size f cd))).any (·.1))=false
  rw[hpl]
  rfl
 have hA:=ha cpos pins s σ H _ I h
 show gh _ _ (evalArgs (.ref C) true (backTo cpos (gl (e::es) (envOfC qual scope s0.heap.objs.size f cd))) []) _ _ s
 have hA':gh (gn P w) (X8 (CX1 P w) P w K mg base N qual scope f cd A outer s0 H0 E).A (spliced (backTo cpos (gl (e::es) (envOfC qual scope s0.heap.objs.size f cd)))) _ _ s:=hA
 rw[he]at hA' ⊢
 refine Calls.evalArgs_plain (thn hA' λus s2 ⟨vs,H2,I2,r,q1,q2⟩=>?_)
 refine⟨rfl,?_,I2.kIn _ _ lC,xj9 (I.kIn _ _ lN) (I2.kIn _ _ lN) hN,(all _ I2.kIn).2,λh' ex hx=>yl0 I2 hx q2⟩
 rw[←r.length]
 exact aO q1 (by decide)
theorem Fun.okX {st:Stmt}{N ps:List Str}{sp:Sp}(F:Fun K x qual st f fd)(S:x9 N ps (z9 st))(len:∀vs H Q E,sp vs H Q E->vs.length=ps.length)
  (hbody:∀(cdv:Value) (A:gu) (outer:List Env) (s:fZ) (H:Hp) (vs:List V) (Q:VK) (E:XK),Z8 k (A.deeper (envOfC qual (z9 st) s.heap.objs.size f cdv))->sp vs H Q E ->
   ∃t,PSs (X8 (CX1 P w) P w K mg base N qual (z9 st) f cdv A outer s H E) (Z4 st) t/\t { nx:=λ_ H'=>Q .non H',rt:=Q } (start N vs) H):u8 P w K mg base (CX1 P w) (k+1) f fd ps sp:=by
 obtain⟨oc,od,kV,doc,pm,an,cdv,ct,osl,rfl,lk,hcd⟩:=F.ex
 refine yz1 lk hcd S len λA outer s H vs Q E hr hsp=>?_
 obtain⟨t,h,q⟩:=hbody cdv A outer s H vs Q E hr hsp
 exact⟨t,h,q⟩
end
theorem l7.there {h:Heap}(x:l7 P w H h a o):∃ob,h.get? a=some ob:=by
 cases o with
 | lst xs=>obtain⟨_,_,_,_,e⟩:=x;exact⟨_,e⟩
 | tup xs=>obtain⟨_,_,_,o,e,_⟩:=x;exact⟨_,e⟩
 | dK kvs=>obtain⟨_,_,_,_,o,_,_,e,_⟩:=x;exact⟨_,e⟩
 | dT kvs=>obtain⟨_,_,_,_,o,_,_,e,_⟩:=x;exact⟨_,e⟩
 | set S n=>obtain⟨o,_,_,_,e,_⟩:=x;exact⟨_,e⟩
 | ins C dx fs=>obtain⟨_,_,_,e,_⟩:=x;exact⟨_,e⟩
 | own y=>obtain⟨_,e⟩:=x;exact⟨_,e⟩
 | xd fs=>obtain⟨_,⟨_,_,_,e,_⟩,_⟩:=x;exact⟨_,e⟩
 | rng lo hi=>obtain⟨_,_,_,e⟩:=x;exact⟨_,e⟩
 | frz ob u=>obtain⟨e,_⟩:=x;exact⟨_,e⟩
 | tbl ps=>exact⟨_,(show h.get? a=some _ from x)⟩
 | met f y=>exact⟨_,(show h.get? a=some _ from x)⟩
 | ext φ=>obtain⟨_,⟨_,e⟩,_⟩:=x;exact⟨_,e⟩
theorem HOk.track (x:HOk P w H h)(hn:H a=none)(new:l7 P w (upd H a o) h a o):HOk P w (upd H a o) h:=λb u e=>by
 by_cases hb:b=a
 ·subst hb;rw[z4]at e;cases e;exact new
 ·rw[z6 hb]at e
  exact(x b u e).stay (λc v _ q=>q) (λc q=>by rw[z6 (y0 q hn)];exact q) λc xs q=>by rw[z6 (y0 q hn)];exact q
def Cgt (X:Cx)(pins:List (Addr×Obj))(σ:St)(H:Hp)(ea C:Addr)(s:fZ):Prop :=
 ∃(B:Heap) (a0:Value),Heap.FlyingW B X.stack ea (.ref C) a0 s.heap/\H ea=some (zx2 ea C)/\∀(h:Heap) (tk:Nat),Heap.FlyingW B X.stack ea (.ref C) a0 h->s.heap.UpToSlots h->Inv X pins σ H { s with heap:=h,toks:=tk }
theorem Cgt.inv (x:Cgt X pins σ H ea C s):Inv X pins σ H s:=by
 obtain⟨B,a0,f,e,all⟩:=x
 exact all s.heap s.toks f (Heap.UpToSlots.refl _)
theorem yx5 {X:Cx}{σ:St}{e:Value}{Q:Flow->fZ->Prop}{E':Value->fZ->Prop}{hs:List ExceptHandler}(I:Inv X pins σ H s)(hst:X.stack=X.env::X.outer)(hfr:X.env.frame=some X.env.locals)
  (hx:CX1 X.prog X.w X.stack H s E e s')
  (h:∀ea C H' s2,e=.ref ea->Cgt X pins σ (upd H' ea (zx2 ea C)) ea C s2->H' ea=none->E (.ref C) none H'->gh (gn X.prog X.w) X.A (handleBy (.ref ea) X.env hs) Q E' s2) :
  gh (gn X.prog X.w) X.A (noteFrame e X.env) (λ_ s2=>gh (gn X.prog X.w) X.A (setFlight e none) (λ_ s3=>gh (gn X.prog X.w) X.A (handleBy e X.env hs) Q E' s3) E' s2) E' s':=by
 obtain⟨ea,C,a0,B,H',rfl,hos,hbare,hok,hfl,k1,k2,k3,k4,k5,k6,k7,hE⟩:=hx
 have hen:H' ea=none:=by
  cases q:H' ea with
  | none=>rfl
  | some o =>
   obtain⟨ob,z⟩:=l7.there (hok ea o q)
   rw[hfl.2.1]at z
   cases z
 have hfl0:=hfl
 rw[hst]at hfl
 refine wpAny_looks_onW (hst ▸ I.ok.frames) hfr hfl λh1 held u1=>?_
 refine wpAny_landsW held λh2 fl2 u2=>?_
 have u12:s'.heap.UpToSlots h2:=u1.trans u2
 rw[←hst]at fl2
 refine h ea C H' _ rfl ⟨B,a0,fl2,z4,λhh tk flh uh=>?_⟩ hen hE
 have u3:s'.heap.UpToSlots hh:=u12.trans uh
 have nea:∀b o,s.heap.get? b=some o->b≠ea:=λb o hb z=>by
  subst z
  rcases k4 b o hb with hm|⟨o',q⟩
  ·obtain⟨_,o2,ho2,hd⟩:=hfl0.2.2.1.mem hm
   obtain⟨oe,vs,he,_,hde,_⟩:=hfl0.first
   rw[he]at ho2
   cases ho2
   exact hd vs hde
  ·rw[hfl0.2.1]at q
   cases q
 obtain⟨oe,vs,he,hc,hde,_⟩:=flh.first
 have k2':∀b o,s.heap.get? b=some o->H b=none->b∈frs X.stack->∃sl,hh.get? b=some { o with slots:=sl }:=λb o q n hf=>by
  obtain⟨sl,q1⟩:=k2 b o q n hf
  obtain⟨_,o2,ho2,hd⟩:=hfl0.2.2.1.mem hf
  have e2:o2={ o with slots:=sl }:=Option.some.inj (ho2.symm.trans q1)
  subst e2
  obtain⟨sl',q'⟩:=u3 b _ q1 hd
  exact⟨sl',q'⟩
 have Hok:HOk X.prog X.w (upd H' ea (zx2 ea C)) hh:=HOk.track (hok.kept λb u q=>flh.1 _ _ q) hen ⟨⟨oe,he,hc⟩,⟨oe,he⟩,λh1 h2 ⟨o,ho,r⟩ k=>⟨o,k o ho,r⟩⟩
 refine I.call' (s':={ s' with heap:=hh,toks:=tk }) (ch:=[]) hos ⟨λb o q n hf _=>flh.1 _ _ (k1 b o q n hf),λb o q n hf _=>k2' b o q n hf,λb o q n _=>by rw[z6 (nea b o q)];exact k3 b o q n,λb o q _=>?_,λb xs q=>by rw[z6 (y0 (k5 b xs q) hen)];exact k5 b xs q,λb o u q=>by rw[z6 (y0 (k6 b o u q) hen)];exact k6 b o u q,λb ps q=>by
   obtain⟨more,z⟩:=k7 b ps q
   exact⟨more,by rw[z6 (y0 z hen)];exact z⟩⟩ Hok hbare (λb z=>absurd z (by simp))
 rcases k4 b o q with hm|⟨o',q'⟩
 ·obtain⟨_,o2,ho2,_⟩:=I.stack.mem hm
  obtain⟨sl,q2⟩:=k2' b o2 ho2 (I.stkFree b hm) hm
  exact⟨_,q2⟩
 ·exact⟨o',flh.1 _ _ q'⟩
section
variable {M:Model}{A:gu}{E:Value->fZ->Prop}{s:fZ}
theorem yk5 {α β:Type}{cs:List α}{b:β}{f:α->β->Sem (ForInStep β)}{Q:β->fZ->Prop}(hf:∀c∈cs,∀Q':ForInStep β->fZ->Prop,Q' (.yield b) s->gh M A (f c b) Q' E s)(h:Q b s):gh M A (forIn cs b f) Q E s:=by
 induction cs with
 | nil=>exact gc h
 | cons c r ih =>
  rw[dQ]
  exact fY (hf c ax _ (ih λd hd=>hf d (av _ hd)))
def XAt (h:Heap)(D:Addr)(tl:List Value):Prop:=∃nm qn N bs hdct sn sub ab col dd k0 k1 k2 k3 k5 newId,h.get? D=some (excClassObj nm qn D N bs tl hdct sn sub ab col dd k0 k1 k2 k3 k5 newId)
theorem zk6.at {K:W.Frag}{tl:List Value}(x:zk6 K C tl newId)(X:K.In h):XAt h C tl/\tl.contains (.type "BaseException")=true:=by
 obtain⟨nm,qn,N,bs,hdct,sn,sub,ab,col,dd,k0,k1,k2,k3,k5,oN,l,n,all⟩:=xw5 x
 exact⟨⟨nm,qn,N,bs,hdct,sn,sub,ab,col,dd,k0,k1,k2,k3,k5,newId,X _ _ l⟩,OwnTail.base_in (all _ X).2⟩
theorem xg8 {Q:Bool->fZ->Prop}(x:XAt s.heap D tl)(q:Q ((Value.ref D::tl).contains v) s):gh M A (isSubtype (.ref D) v) Q E s:=by
 obtain⟨nm,qn,N,bs,hdct,sn,sub,ab,col,dd,k0,k1,k2,k3,k5,newId,l⟩:=x
 obtain⟨h,g,d,t,os⟩:=s
 exact wpAny_isSubtype_exc l q
theorem yz9 {tl:List Value}{Q:Bool->fZ->Prop}(x:XAt s.heap D tl)(b:tl.contains (.type "BaseException")=true)(q:Q true s):gh M A (isExcClass (.ref D)) Q E s:=by
 obtain⟨nm,qn,N,bs,hdct,sn,sub,ab,col,dd,k0,k1,k2,k3,k5,newId,l⟩:=id x
 unfold isExcClass isType loadHead
 refine fY (fY (wpAny_loadPart l (gc ?_)))
 dsimp only
 rw[if_pos rfl]
 refine xg8 x ?_
 rw[List.contains_cons,b,fS]
 exact q
theorem yw6 {oe:Obj}{Q:Value->fZ->Prop}(he:s.heap.get? e=some oe)(hc:oe.cls=.ref C)(q:Q (.ref C) s):gh M A (typeOf (.ref e)) Q E s:=by
 obtain⟨h,g,d,t,os⟩:=s
 unfold typeOf
 refine fY (wpAny_loadPart he (gc ?_))
 rw[hc]
 exact q
theorem yf3 {oe:Obj}{tl tlD:List Value}{Q:Bool->fZ->Prop}(he:s.heap.get? e=some oe)(hc:oe.cls=.ref C)(hC:XAt s.heap C tl)(hD:XAt s.heap D tlD)(hb:tlD.contains (.type "BaseException")=true)
  (hm:(Value.ref C::tl).contains (.ref D)=true) (q:Q true s):gh M A (excMatches (.ref e) (.ref D)) Q E s:=by
 obtain⟨nm,qn,N,bs,hdct,sn,sub,ab,col,dd,k0,k1,k2,k3,k5,newId,l⟩:=id hD
 unfold excMatches
 refine fY (wpAny_isInstance (T:="type") (b:=false) (show s.TypeIs (.ref D) "type" from⟨_,l,rfl⟩) (by rw[isSubtype_type];kernel_rfl) ?_)
 dsimp only
 rw[if_neg aD]
 try (refine fY (gc ?_))
 refine fY (yk5 (λc hcm Q' hq=>?_) ?_)
 ·obtain rfl:=ar.mp hcm
  refine fY (yz9 hD hb ?_)
  rw[if_neg (by decide)]
  exact gc hq
 refine fY (yw6 he hc ?_)
 rw[dQ]
 refine fY (fY (fY (xg8 hC ?_)))
 rw[hm,if_pos rfl]
 exact gc (gc (gc q))
end
abbrev xg9 (X:Cx) (ea:Addr):Cx:={ X with A:=X.A.mark (some (.ref ea)),calm:=false,xe:=λ_ _=>False }
theorem Inv.sx {σ:St}(I:Inv X pins σ H s)(ea:Addr):Inv (xg9 X ea) pins σ H s :=
 ⟨⟨I.ok.mod,I.ok.kind,I.ok.glob,I.ok.blt,I.ok.above,I.ok.inj,I.ok.has,I.ok.cab,(λz=>by cases z),I.ok.frames,I.ok.stk,I.ok.exf,I.ok.bs,I.ok.bsz,I.ok.noex,I.ok.exfs,I.ok.funs,I.ok.frf⟩,I.os,I.bare,I.base,I.loc,I.cell,I.free,I.freeC,I.pin,I.hok,I.len⟩
theorem Inv.unsx {X:Cx}{σ:St}(ok:X.Ok)(I:Inv (xg9 X ea) pins σ H s):Inv X pins σ H s :=
 ⟨ok,I.os,I.bare,I.base,I.loc,I.cell,I.free,I.freeC,I.pin,I.hok,I.len⟩
def PH (X:Cx)(hs:List ExceptHandler)(t:Addr->Addr->TS):Prop:=∀(pins:List (Addr×Obj)) (σ:St) (H:Hp) (ea C:Addr) (s:fZ) (D:zf9),Cgt X pins σ H ea C s->t ea C D σ H ->
 gh (gn X.prog X.w) X.A (handleBy (.ref ea) X.env hs) (SP X pins D) X.xe s
section
variable {X:Cx}
end
theorem yw7 {X:Cx}{σ:St}{E:Value->fZ->Prop}{Q:Unit->fZ->Prop}(I:Inv X pins σ H s)(hN:X.N.Nodup)(hi:X.N[i]?=some x)(hk:X.env.scope.names.lookup x=some .local)
  (h:∀s',Inv X pins (σ.set i none) H s'->Q () s'):gh M A (do bindName X.env x .none;unbindBehindTheSuite X.env x pos) Q E s:=by
 obtain⟨m,hn,hl⟩:=id I.loc
 have hcls:(X.env.scope.kind == .class || (X.env.scope.kind == .module&&X.env.locals != X.env.globals))=false:=by rw[I.ok.kind];rfl
 obtain⟨oL,_,_,hoL,_⟩:=id hn
 have hiσ:i<σ.length:=by rw[I.len];exact(al.mp hi).1
 refine wpAny_nameGoes_keeps hk hn hcls λh' v hn' sb=>h _ ?_
 have old:∀b o,X.s₀.heap.get? b=some o->h'.get? b=s.heap.get? b:=λb o e=>sb.2 b (aU (aR (az e) I.ok.above))
 refine⟨I.ok,I.os,I.bare,⟨λb o e n hb hx=>(old b o e).trans (I.base.keep b o e n hb hx),λb o e n hb hx=>?_,I.base.free,λb o e hx=>?_,I.base.tups,I.base.frzs,I.base.tbls⟩,⟨_,hn',λj y v' e1 e2 e3=>?_⟩,λy c e=>?_,I.free,I.freeC,λp hp=>?_,λb ob e=>?_,by rw[bV];exact I.len⟩
 ·obtain⟨sl,q⟩:=I.base.slot b o e n hb hx
  exact⟨sl,(old b o e).trans q⟩
 ·obtain⟨o',q⟩:=I.base.there b o e hx
  exact⟨o',(old b o e).trans q⟩
 ·have hj:j≠i:=λz=>by
   subst z
   rw[cw hiσ]at e2
   cases e2
  rw[bY (Ne.symm hj)]at e2
  obtain⟨u',r',q⟩:=hl j y v' e1 e2 e3
  refine⟨u',r',?_⟩
  rcases q with⟨k,e⟩|⟨k,c,e,z⟩
  ·have ne:y≠x:=λe=>hj (zp7 hN e1 (e ▸ hi))
   exact .inl ⟨k,by show(if y=x then v else m y)=some u';rw[if_neg ne];exact e⟩
  ·exact .inr ⟨k,c,e,z.sameBut sb (I.cne y c e)⟩
 ·obtain⟨w',z⟩:=I.cell y c e
  exact⟨w',z.sameBut sb (I.cne y c e)⟩
 ·obtain⟨e,n,ne,nf,d⟩:=I.pin p hp
  exact⟨(sb.2 p.1 ne).trans e,n,ne,nf,d⟩
 ·refine(I.hok b ob e).stay (λc w' hc q=>(sb.2 c ?_).trans q) (λ_ q=>q) λ_ _ q=>q
  rintro rfl
  have fr:=I.free
  rcases hc with rfl|hc
  ·rw[fr]at e;cases e
  ·rw[fr]at hc;cases hc
section
variable {X:Cx}
abbrev ye0 (i:Nat) (D:zf9):zf9:={ nx:=λσ H=>D.nx (σ.set i none) H,rt:=D.rt,bk:=λσ H=>D.bk (σ.set i none) H,ct:=λσ H=>D.ct (σ.set i none) H }
theorem xv0 {P8:List ExceptHandler}{ts:Addr->TS}{C0 D0:Addr}{tl0 tlD:List Value}{n0 nD:String}(h0:zk6 X.K C0 tl0 n0)(hD:zk6 X.K D0 tlD nD)(hc:(Value.ref C0::tl0).contains (.ref D0)=true)
  (hg:Gl X y) (hm:X.mg y=some (.ref D0)) (hN:X.N.Nodup) (hi:X.N[i]?=some n) (hk:X.env.scope.names.lookup n=some .local) (hs:∀ea,PSs (xg9 X ea) (b0::suite) (ts ea)) (hdb:(y==("__debug__":Str))=false:=by decide) :
  PH X (.ExceptHandler (some (.Name y np)) (some n) (b0::suite) pos::P8) (λea C D σ H=>C=C0/\ts ea (ye0 i D) (σ.set i (some (.ref ea))) H):=by
 rintro pins σ H ea C s D G ⟨rfl,h⟩
 have I:=G.inv
 have Is:=I.sx ea
 obtain⟨B,a0,fl,hH,all⟩:=id G
 obtain⟨oe,vs,he,hcl,_,_⟩:=fl.first
 refine wpAny_handleBy_cons (codeAny_handlers_test (K9 Is hg hm ?_ hdb)) (by intro q;cases q)
 refine yf3 he hcl (h0.at I.kIn).1 (hD.at I.kIn).1 (hD.at I.kIn).2 hc ?_
 refine codeAny_handlers_suite_as ?_
 refine lands_againW fl λh2 fl2 u2=>?_
 have I2:Inv X pins σ H { s with heap:=h2,toks:=s.toks }:=all h2 s.toks fl2 u2
 refine zi9 (X:=xg9 X ea) (v:=.ref ea) (I2.sx ea) hN hi (.inl hk) rfl (λs3 I3 _=>?_) (.inr hk)
 refine gw (hs ea pins s3 _ H (ye0 i D) I3 h) (λf s4 h4=>?_) λ_ _ z=>z.elim
 have fin:∀{σ':St} {H':Hp} {R:St->Hp->Prop} {Q:Unit->fZ->Prop} {E:Value->fZ->Prop},Inv (xg9 X ea) pins σ' H' s4->R (σ'.set i none) H'->(∀s5,(∃σ5 H5,Inv X pins σ5 H5 s5/\R σ5 H5)->Q () s5)->gh (gn X.prog X.w) X.A (do bindName X.env n .none;unbindBehindTheSuite X.env n pos) Q E s4 :=
  λI4 r q=>yw7 (I4.unsx I.ok) hN hi hk λs5 I5=>q s5 ⟨_,_,I5,r⟩
 cases f with
 | next =>
  obtain⟨σ',H',I4,q4⟩:=h4
  exact fin (R:=D.nx) I4 q4 λs5 z=>z
 | brk =>
  obtain⟨σ',H',I4,q4⟩:=h4
  exact fin (R:=D.bk) I4 q4 λs5 z=>z
 | cont =>
  obtain⟨σ',H',I4,q4⟩:=h4
  exact fin (R:=D.ct) I4 q4 λs5 z=>z
 | ret u =>
  obtain⟨v,σ',H',I4,r4,q4⟩:=h4
  refine fin (R:=λ_ H=>D.rt v H) I4 q4 λs5 ⟨σ5,H5,I5,q5⟩=>⟨v,σ5,H5,I5,r4,q5⟩
def M4 (P:gf)(w:gq)(K:W.Frag)(mg:Str->Option Value)(base:Heap)(k:Nat)(x:Str)(ps:List Str)(sp:Sp):Prop :=
 ∃f fd,u8 P w K mg base (CX1 P w) k f fd ps sp/\W.keepIn K (.ref f)=true/\mg x=some (.ref f)/\W3 K fd ps []
theorem xl1 {p cpos epos pos:Pos}{th:Addr->Addr->TS}(kn:M4 X.prog X.w X.K X.mg X.base k x ps sp)(hr:Z8 j X.A)(hg:Gl X x)(ha:PA X.nox (e::es) t)(hh:PH X (h0::hs) th)
  (hst:X.stack=X.env::X.outer) (hfr:X.env.frame=some X.env.locals) (hj:k<=j:=by decide) (hdb:(x==("__debug__":Str))=false:=by decide)
  (he:gl (e::es) X.env=(false,eval e X.env)::gl es X.env:=by rfl) (hpl:(backTo cpos (gl es X.env)).any (·.1)=false:=by rfl) (hsw:swapsWith (.Call (.Name x p) (e::es) [] cpos) none epos.line X.env=pure false:=by rfl) :
  PS X (.Try [.Expr (.Call (.Name x p) (e::es) [] cpos) epos] (h0::hs) [] [] pos) (λD σ H=>∃E:XK,(t σ H λvs H1=>sp vs H1 (λ_ H2=>D.nx σ H2) E)/\∀(ea C:Addr) (H':Hp),E (.ref C) none H'->H' ea=none->th ea C D σ (upd H' ea (zx2 ea C))):=by
 rintro pins s σ H D I ⟨E,h1,h2⟩
 obtain⟨f,fd,G,hk,hm,hb⟩:=kn
 refine wpAny_Try_except (wpAny_execs_cons (wpAny_Expr_any (wpAny_Call_Name_kw (K9 I hg hm ?_ hdb)) I.quiet hsw))
 refine W.callWith_K (h₀:=X.base) I.ok.mod.kin hk (gw (ha cpos pins s σ H _ (I.wish _) h1) (λus s1 ⟨vs,H1,I1,r,q⟩=>⟨I1.kIn,?_⟩) λ_ _ z=>z.elim) he hpl
 have I1':Inv X pins σ H1 s1:=I1.unwish
 have hl:(us++[]).length=ps.length:=by rw[bF,←r.length];exact G.len _ _ _ _ q
 have bb:=hb s1 us I1'.kIn hl
 rw[bF]at bb
 refine wpAny_call (codeAny_mono (G.run X.A X.stack s1 H1 ⟨us,[]⟩ us vs _ E (hr.mono hj) I1'.env0 bb r q) λrr s' hq=>?_)
 cases rr with
 | error ex =>
  exact yx5 I1' hst hfr hq λea C H' s2 _ cg hn hE=>hh pins σ _ ea C s2 D cg (h2 ea C H' hE hn)
 | ok fl =>
  cases fl with
  | ret u =>
   obtain⟨v,H',I2,_,q2⟩:=I1'.after hq
   exact wpAny_execs_nil (wpAny_execs_nil ⟨σ,H',I2,q2⟩)
  | next=>exact False.elim hq
  | brk=>exact False.elim hq
  | cont=>exact False.elim hq
end
structure yj5 (K:W.Frag) (mg:Str->Option Value) (TE:Addr):Prop where
 m:mg "TurnError"=some (.ref TE)
 c:zk6 K TE bmV "ValueError.__new__"
 v:mg "ValueError"=none
structure zc1 (K:W.Frag) (mg:Str->Option Value) (TE:Addr) (x:Str) (C:Addr):Prop where
 m:mg x=some (.ref C)
 c:zk6 K C (.ref TE::bmV) "ValueError.__new__"
 i:W.isIn K (.ref C) TE=true
def kvD (x:Key×V):PyData×PyData:=(match x.1 with | .inl i=>.int i | .inr t=>.str t,match x.2 with | .int i=>.int i|_=>.none)
mutual
inductive Dt (H:Hp):V->PyData->Prop
 | non:Dt H .non .none
 | bl (b:Bool):Dt H (.bl b) (.bool b)
 | int (i:Int):Dt H (.int i) (.int i)
 | str (x:Str):Dt H (.str x) (.str x)
 | lst {a:Addr} {xs:List V} {ds:List PyData}:H a=some (.lst xs)->Dts H xs ds->Dt H (.ref a) (.list ds)
 | tup {a:Addr} {xs:List V} {ds:List PyData}:H a=some (.tup xs)->Dts H xs ds->Dt H (.ref a) (.tuple ds)
 | dct {a:Addr} {kvs:List (Key×V)}:H a=some (.dK kvs)->Dt H (.ref a) (.dict (kvs.map kvD))
inductive Dts (H:Hp):List V->List PyData->Prop
 | nil:Dts H [] []
 | cons {x:V} {d:PyData} {xs:List V} {ds:List PyData}:Dt H x d->Dts H xs ds->Dts H (x::xs) (d::ds)
end
mutual
theorem Dt.same (s:y6 H H'):∀{x:V} {d:PyData},Dt H x d->Dt H' x d
 | _,_,.non=>.non
 | _,_,.bl b=>.bl b
 | _,_,.int i=>.int i
 | _,_,.str x=>.str x
 | _,_,.lst h r=>.lst (s _ _ h) (Dts.same s r)
 | _,_,.tup h r=>.tup (s _ _ h) (Dts.same s r)
 | _,_,.dct h=>.dct (s _ _ h)
theorem Dts.same (s:y6 H H'):∀{xs:List V} {ds:List PyData},Dts H xs ds->Dts H' xs ds
 | _,_,.nil=>.nil
 | _,_,.cons h r=>.cons (Dt.same s h) (Dts.same s r)
end
theorem Dts.length :∀{xs:List V} {ds:List PyData},Dts H xs ds->xs.length=ds.length
 | _,_,.nil=>rfl
 | _,_,.cons _ r=>by rw[aC,aC,Dts.length r]
theorem Dts.get :∀{xs:List V} {ds:List PyData} {i:Nat} {x:V},Dts H xs ds->xs[i]?=some x->∃d,ds[i]?=some d/\Dt H x d
 | _,_,_,_,.nil,e=>by simp at e
 | _,_,0,_,.cons h _,e=>by simp at e;subst e;exact⟨_,rfl,h⟩
 | _,_,i+1,x,.cons _ r,e=>by
  obtain⟨d,h1,h2⟩:=Dts.get (i:=i) (x:=x) r (by simpa using e)
  exact⟨d,by simpa using h1,h2⟩
def tyD:PyData->String
 | .none=>"NoneType"
 | .bool _=>"bool"
 | .int _=>"int"
 | .str _=>"str"
 | .list _=>"list"
 | .tuple _=>"tuple"
 | .dict _=>"dict"
theorem Dt.ty {K:W.Frag}(h:Dt H x d):K6 K H x (.type (tyD d)):=by
 cases h with
 | non=>exact .non
 | bl b=>exact .bl b
 | int i=>exact .int i
 | str x=>exact .str x
 | lst h _=>exact .lst h
 | tup h _=>exact .tup h
 | dct h=>exact .dK h
section
variable {X:Cx}{e:Expr}{es:List Expr}{pos:Pos}{C:St->Hp->Prop}{d:PyData}{ds:List PyData}
structure DS (X:Cx) (st:Stmt) (t:TS):Prop where
 h:PS X st t
structure DSs (X:Cx) (st:List Stmt) (t:TS):Prop where
 h:PSs X st t
theorem v0 {st:Stmt}{P8:List Stmt}(h1:DS X st t)(h2:DSs X P8 u):DSs X (st::P8) (xt0 t u):=⟨@y4 _ _ _ _ _ h1.h h2.h⟩
theorem new_at (u:HO):upd H p u p=some u:=by show(if p=p then _ else _)=_;rw[if_pos rfl]
end
section
variable {prog:gf}{w:gq}{A:gu}{E:Value->fZ->Prop}{s:fZ}
def gat (h:Heap)(vs:List Value):Heap:=(h.push (gF "list" #[] 0)).update h.objs.size (Obj.mapSeq (·++vs.toArray))
theorem yd3 {vs:List Value}{R:List Value->fZ->Prop}(ht:IsTup s.heap a vs.toArray)(hz:vs.length<=ge)(q:R vs { s with heap:=gat s.heap vs }):gh (gn prog w) A (collect (.ref a)) R E s:=by
 obtain⟨o,ho,hc,n,hd⟩:=ht
 have ho1:(s.heap.push (gF "list" #[] 0)).get? a=some o:=ao _ ho
 have hn1:(s.heap.push (gF "list" #[] 0)).get? s.heap.objs.size=some (gF "list" #[] 0):=aB _ rfl
 unfold collect
 refine fY (wpAny_runValue (codeAny_builtin entry_proto_collect' (fY (m:=newList []) (wpAny_newList (gc ⟨Code.quiet_builtin _ (by decide +kernel),codeAny_builtin entry_list_iadd' ?_⟩)))))
 show gh _ _ (Builtin.List.listExtendWith (.ref s.heap.objs.size) (.ref a) (.ref s.heap.objs.size)) _ _ { s with heap:=s.heap.push (gF "list" #[] 0) }
 (unfold Builtin.List.listExtendWith;refine fY (wpAny_typeOf (T:="tuple") ⟨o,ho1,hc⟩ ?_))
 have hty:(Value.type "tuple" == Value.type "tuple")=true:=rfl
 rw[if_pos (show _=true by rw[hty,fS])]
 refine fY (listItems_at ho1 hd (fY (listItems_at (xs:=#[]) (n:=0) hn1 rfl ?_)))
 rw[if_neg (show ¬_=true by simp)]
 refine fY (listUpdate_at (xs:=#[]) (n:=0) hn1 rfl (gc ?_) (aP _) (by simp only[Array.size_append,aA,dF];show 0+vs.length<=_;lia))
 show gh (gn prog w) A (load s.heap.objs.size >>= _) R E { s with heap:=gat s.heap vs }
 refine fY (wpAny_load (get?_update_seq hn1 _) ?_)
 have e:((#[]:Array Value)++vs.toArray).toList=vs:=by simp
 exact gc (e.symm ▸ q)
theorem zo4 (h:Heap)(vs:List Value):(gat h vs).objs.size=h.objs.size+1:=by unfold gat;rw[Heap.size_update,size_push']
theorem zm0 {h:Heap}(e:h.get? b=some o):(gat h vs).get? b=some o:=by
 have hlt:=az e
 unfold gat
 rw[Heap.get?_update_ne _ _ _ _ (aU hlt),Heap.get?_push_ne _ _ _ (aU hlt)]
 exact e
theorem yn3 {vs:List Value}{R:Value->fZ->Prop}(ht:IsTup s.heap a vs.toArray)(hI:IntsAre vs ns)(h64:vs.length<64)
  (q:∀(out:Array Value) (ms:List Int),IntsAre out.toList ms->ms.Perm ns->ms.Pairwise (·<=·)->R (.ref (gat s.heap vs).objs.size) { s with heap:=sortedHeap ((gat s.heap vs).push (gF "list" vs.toArray 0)) (gat s.heap vs).objs.size vs out }) :
  gh (gn prog w) A (call (.builtin "sorted") [.ref a]) R E s:=by
 have hn:((gat s.heap vs).push (gF "list" vs.toArray 0)).get? (gat s.heap vs).objs.size=some (gF "list" vs.toArray 0):=aB _ rfl
 refine Calls.call_function_entry kind_sorted plain_sorted entry_sorted (args_sorted1 (.ref a)) ?_
 unfold Builtin.«sorted»
 refine fY (m:=checkCount "sorted" 1 1 _) (gc (fY (yd3 ht (by rw[sizeLine_eq];lia) (fY (wpAny_newList ?_)))))
 show gh _ _ _ _ _ { s with heap:=(gat s.heap vs).push (gF "list" vs.toArray 0) }
 refine fY (gv (wpAny_call_entry slot_list_sort ⟨_,hn,rfl⟩ entry_list_sort (list_sort_tree hn hI h64 λout ms a1 a2 a3=>⟨_,rfl,gc ⟨_,rfl,q out ms a1 a2 a3⟩⟩) (args_list_sort _)))
end
section
variable {X:Cx}
theorem zx9:T9 X (.builtin "sorted") (λxs H Q=>∃(p:Addr) (ns:List Int),xs=[.ref p]/\SqT X.K H p (ns.map V.int)/\ns.length<64/\∀(l:Addr) (ms:List Int),H l=none->ms.Perm ns->ms.Pairwise (·<=·)->Q (.ref l) (upd H l (.lst (ms.map V.int)))):=by
 intro pins s σ H xs us Q I r h
 obtain⟨p,ns,rfl,hq,h64,q⟩:=h
 obtain⟨u,rfl,rx⟩:=N6 r
 cases rx
 obtain⟨its,r1,p1,hz⟩:=I.tuple hq
 have l1:=r1.length
 rw[aa]at l1 hz
 refine yn3 p1 (O2 r1) (by lia) λout ms a1 a2 a3=>?_
 have hl:=a2.length_eq
 have hsz:=zo4 s.heap its
 obtain⟨e,he⟩:=sortedHeap_at (vs:=its) (out:=out) (n:=0) (show((gat s.heap its).push (gF "list" its.toArray 0)).get? (gat s.heap its).objs.size=some (gF "list" its.toArray 0) from aB _ rfl)
 have hold:∀b o,s.heap.get? b=some o->(sortedHeap ((gat s.heap its).push (gF "list" its.toArray 0)) (gat s.heap its).objs.size its out).get? b=some o:=λb o z=>by
  have hlt:=az z
  have h1:b<(gat s.heap its).objs.size:=hsz.symm ▸ dB hlt
  rw[sortedHeap_old (aU h1) (by rw[size_push'];exact dB h1),Heap.get?_push_ne _ _ _ (aU h1)]
  exact zm0 z
 refine⟨.ref (gat s.heap its).objs.size,_,I.laid (t':=s.toks) hold (by lia) (show l7 X.prog X.w _ _ _ (.lst (ms.map V.int)) from⟨by rw[aa];lia,out.toList,e,zj3 a1,by simpa using he⟩),rfl,q _ ms (I.hok.fresh (by lia)) a2 a3⟩
end
section
variable {X:Cx}{pins:List (Addr×Obj)}{σ:St}{H:Hp}{s:fZ}
mutual
theorem Dt.reads (I:Inv X pins σ H s):∀{x:V} {d:PyData},Dt H x d->d.canLay0=true->∀u,p9 x u->∃as,Reads s.heap u d as
 | _,_,.non,_,u,r=>by cases (show u=Value.none from r);exact⟨_,.none⟩
 | _,_,.bl b,_,u,r=>by cases (show u=Value.bool b from r);exact⟨_,.bool b⟩
 | _,_,.int i,_,u,r=>by obtain⟨t,rfl⟩:=(show ∃t,u=Value.int i t from r);exact⟨_,.int i t⟩
 | _,_,.str x,_,u,r=>by obtain⟨t,rfl⟩:=(show ∃t,u=Value.str x t from r);exact⟨_,.str x t⟩
 | _,_,.lst h hs,c,u,r=>by
  cases (show u=Value.ref _ from r)
  obtain⟨its,rv,p,_⟩:=I.list (SqL.of h)
  obtain⟨o,ho,hc,n,hd⟩:=p.isList
  rw[PyData.canLay0]at c
  obtain⟨as,ha⟩:=Dts.reads I hs c its rv
  exact⟨_,.list ho hc hd (by simpa using ha)⟩
 | _,_,.tup h hs,c,u,r=>by
  cases (show u=Value.ref _ from r)
  obtain⟨its,rv,p,_⟩:=I.tuple (SqT.of h)
  obtain⟨o,ho,hc,n,hd⟩:=p
  rw[PyData.canLay0]at c
  obtain⟨as,ha⟩:=Dts.reads I hs c its rv
  exact⟨_,.tuple ho hc hd (by simpa using ha)⟩
 | _,_,.dct h,c,u,r=>by
  rw[PyData.canLay0]at c
  cases c
theorem Dts.reads (I:Inv X pins σ H s):∀{xs:List V} {ds:List PyData},Dts H xs ds->PyData.canLayAll0 ds=true->∀us,p7 xs us->∃as,ReadsAll s.heap us ds as
 | _,_,.nil,_,us,r=>by cases r;exact⟨_,.nil⟩
 | _,_,.cons h hs,c,us,r=>by
  cases r with
  | cons r1 r2 =>
   rw[PyData.canLayAll0,cf]at c
   obtain⟨as,ha⟩:=Dt.reads I h c.1 _ r1
   obtain⟨bs,hb⟩:=Dts.reads I hs c.2 _ r2
   exact⟨_,.cons ha hb⟩
end
def nw (H H':Hp):Hp:=λb=>match H b with
 | none=>H' b
 | some _=>none
section
variable {e:Expr}{es:List Expr}{pos:Pos}{C:St->Hp->Prop}{d:PyData}{ds:List PyData}
end
end
section
end
section
variable {P:gf}{w:gq}{K:W.Frag}{mg:Str->Option Value}{base:Heap}{N:List Str}{qual:Str}{scope:Scope}{f:Addr}{cd:Value}{A:gu}{outer:List Env}{s s1:fZ}{H H1:Hp}{E:XK}{pins:List (Addr×Obj)}{σ:St}
theorem yq3:E9 (CX1 P w) (X8 (CX1 P w) P w K mg base N qual scope f cd A outer s H E) E:=λ_ _ _ _ _ _ I hx=>xb8 I hx λ_ _ _ z=>z
end
section
variable {P:gf}{w:gq}{K:W.Frag}{mg:Str->Option Value}{base:Heap}{N:List Str}{qual:Str}{scope:Scope}{f:Addr}{cd:Value}{A:gu}{outer:List Env}{s:fZ}{H:Hp}{E:XK}
theorem xd5 {p pos:Pos}{ps:List Str}{sp:Sp}{k j:Nat}(kn:M4 P w K mg base k x ps sp)(hr:Z8 j (A.deeper (envOfC qual scope s.heap.objs.size f cd)))(hg:Gl (X8 (CX1 P w) P w K mg base N qual scope f cd A outer s H E) x)
  (ha:PA (X8 (CX1 P w) P w K mg base N qual scope f cd A outer s H E) (e::es) t) (hj:k<=j:=by decide) (hdb:(x==("__debug__":Str))=false:=by decide)
  (he:gl (e::es) (envOfC qual scope s.heap.objs.size f cd)=(false,eval e (envOfC qual scope s.heap.objs.size f cd))::gl es (envOfC qual scope s.heap.objs.size f cd):=by rfl) (hpl:(backTo pos (gl es (envOfC qual scope s.heap.objs.size f cd))).any (·.1)=false:=by rfl) :
  PE (X8 (CX1 P w) P w K mg base N qual scope f cd A outer s H E) (.Call (.Name x p) (e::es) [] pos) (zw9 sp [] E t):=by
 obtain⟨g,gd,G,hk,hm,hb⟩:=kn
 exact zm3 (X:=X8 (CX1 P w) P w K mg base N qual scope f cd A outer s H E) G (hr.mono hj) hg hm hk hb .nil yq3 ha hdb he hpl
end
section
variable {M:Model}{A:gu}{E:Value->fZ->Prop}{s:fZ}{env:Env}
end
section
variable {X:Cx}{E:XK}{own:Nat}{fr:List Nat}{N':List Str}{tg iter elt:Expr}{scope:Scope}{pos:Pos}{wi:TI}{g:CT TG}{te:CT TE}
end
section
variable {X:Cx}
end
section
end
section
variable {X:Cx}
end
section
variable {X:Cx}{tg:Expr}
end
open PySem.W PySem.Builtin PySem.Builtin.ObjectAttr PySem.Builtin.Getset_descriptor
section
variable {X:Cx}
end
structure zk5 (K:W.Frag) (C:Addr):Prop where
 ga:W.findIn K (.ref C) "__getattribute__"=some (some (.builtin "BaseException.__getattribute__"))
 no:W.findIn K (.ref C) "__getattr__"=some none
 cl:W.findIn K (.ref C) "__class__"=some (some (.builtin "object.__class__"))
 be:W.mroIn K C (.type "BaseException")=some true
 ob:W.mroIn K C (.type "object")=some true
 gt:W.specialIn K (.builtin "object.__class__") "__get__"=some (some (.builtin "getset_descriptor.__get__"))
 tk:W.takesIn K (.builtin "object.__class__")=some true
section
variable {prog:gf}{w:gq}{A:gu}{E:Value->fZ->Prop}{s:fZ}{K:W.Frag}{x C:Addr}{o:Obj}
theorem zf8 {h:Heap}(hx:h.get? x=some o)(hc:o.cls=.ref C):W.Looks M h (typeOf (.ref x)) (.ref C):=hc ▸ (W.Looks.ld hx).andThen .now
theorem xn5 (X:K.In h)(a:zk5 K C):W.Looks M h (Builtin.ObjectAttr.find (.ref x) (.ref C) "__class__") (.bind (.builtin "getset_descriptor.__get__") (.builtin "object.__class__")):=by
 have L3:=looks_takesIn (M:=M) X a.tk
 have g:W.Looks M h (Builtin.ObjectAttr.getOf (some (.builtin "object.__class__"))) (some (.builtin "getset_descriptor.__get__")):=looks_specialIn X a.gt
 refine(looks_findIn (M:=M) X a.cl).andThen (g.andThen ?_)
 exact(show W.Looks M h (Builtin.ObjectAttr.dataDescriptor? (some (.builtin "object.__class__")) (some (.builtin "getset_descriptor.__get__"))) (some (.builtin "getset_descriptor.__get__",.builtin "object.__class__")) from L3.andThen .now).andThen (Looks.tag .now)
theorem xt2 {R:Result->fZ->Prop}(X:K.In s.heap)(a:zk5 K C)(hx:s.heap.get? x=some o)(hc:o.cls=.ref C)(h:R (.ok (.ret (.ref C))) s) :
  codeAny (gn prog w) A (.call (.builtin "getset_descriptor.__get__") ⟨[.builtin "object.__class__",.ref x,tp],[]⟩) R s:=by
 obtain⟨hh,g,dr,t,os⟩:=s
 have La:=zf8 (M:=gn prog w) hx hc
 have Lb:=looks_mroIn (M:=gn prog w) X a.ob
 refine codeAny_call_builtin KF.slot_gs.plain KF.entry_gs (KF.slot_gs.check _ _ _ _ _ _ _ _ KF.type_class (KF.args_gs _ _ _) (by
  unfold Builtin.«getset_descriptor.__get__» descrGet;rw[dga_obj]
  refine fY (gc ?_);unfold descrGetter descrCheckInstance descrNameAndClass isInstance;simp only[KF.owner_class]
  repeat lk
  refine⟨Code.quiet_builtin _ (by decide +kernel),codeAny_builtin KF.entry_class (by unfold Builtin.«object.__class__» shownTypeOf;(repeat lk);exact h)⟩))
theorem xh8 {Q:Fin->fZ->Prop}(X:K.In s.heap)(a:zk5 K C)(hx:s.heap.get? x=some o)(hc:o.cls=.ref C)(h:Q (.done (.ret (.ref C))) s) :
  gh (gn prog w) A (Builtin.«object.__getattribute__» ⟨[.ref x,.str "__class__" tk],[]⟩) Q E s:=by
 have La:=zf8 (M:=gn prog w) hx hc
 have Lb:=xn5 (M:=gn prog w) (x:=x) X a
 unfold Builtin.«object.__getattribute__»
 refine fY (gc ?_)
 dsimp only
 refine fY (gc ?_)
 obtain⟨hh,g,dr,t,os⟩:=s
 refine fY (La.at (fY (Lb.at ?_)))
 dsimp only
 unfold Builtin.ObjectAttr.bindTo
 dsimp only
 refine fY (gv (wpAny_call (xt2 X a hx hc ?_)))
 exact gc h
theorem xh7 {Q:Unit->fZ->Prop}(X:K.In s.heap)(a:zk5 K C)(hx:s.heap.get? x=some o)(hc:o.cls=.ref C)(h:Q () s):gh (gn prog w) A (checkBuiltinCall "BaseException.__getattribute__" ⟨[.ref x,nameV],[]⟩) Q E s:=by
 have hk:builtinKind "BaseException.__getattribute__"=some .slot:=by decide +kernel
 have hs:splitId "BaseException.__getattribute__"=some ("BaseException","__getattribute__"):=by decide +kernel
 have La:=zf8 (M:=gn prog w) hx hc
 have Lb:=looks_mroIn (M:=gn prog w) X a.be
 have ha:=F.args_bexc_ga (.ref x) nameV
 obtain⟨hh,g,dr,t,os⟩:=s
 simp only[checkBuiltinCall,hk,hs]
 unfold isInstance
 refine fY (fY (La.at (Lb.at ?_)))
 rw[if_neg (by decide)]
 unfold argsOk at ha
 exact wpAny_of_eq ha h
theorem xn4 {Q:Option Value->fZ->Prop}(X:K.In s.heap)(a:zk5 K C)(hx:s.heap.get? x=some o)(hc:o.cls=.ref C)(h:Q (some (.ref C)) { s with toks:=s.toks+1 }):gh (gn prog w) A (getAttr? (.ref x) "__class__") Q E s:=by
 have La:=zf8 (M:=gn prog w) hx hc
 have L1:=looks_findIn (M:=gn prog w) X a.ga
 have L2:=looks_findIn (M:=gn prog w) X a.no
 obtain⟨hh,g,dr,t,os⟩:=s
 unfold getAttr? getAttrBy? getAttrBy
 refine fY (wpAny_mkText (fY (wpAny_attempt (gv (fY (La.at (fY (L1.at ?_))))))))
 dsimp only
 rw[show(onTheHeap (Value.ref C)&&Value.builtin "BaseException.__getattribute__" == Value.builtin "object.__getattribute__")=false by rw[show(Value.builtin "BaseException.__getattribute__" == Value.builtin "object.__getattribute__")=false by decide +kernel];rfl,if_neg aD]
 unfold getAttrByItsOwn hookBefore
 rw[show onTheHeap (Value.ref C)=true from rfl,if_pos rfl]
 refine fY (L2.at ?_)
 refine fY (wpAny_attempt (gv ?_))
 unfold callGetattribute boundAndCalled
 rw[if_neg (by decide)]
 rw[F.excAttr_ValueError.ga.bind (.ref x)]
 refine fY (gc ?_)
 refine wpAny_call (codeAny_call_builtin F.excAttr_ValueError.ga.plain F.entry_bexc_ga (xh7 X a hx hc (xh8 X a hx hc ?_)))
 exact handed_on rfl (gc h)
theorem xa9 (a:zk5 K C):KitX K (.ref x) (.ref C) (λh=>∃o,h.get? x=some o/\o.cls=.ref C) where
 ty:=λ_ _ _ ⟨_,h1,h2⟩=>zf8 h1 h2
 it:=λ_ _ X _=>by
  obtain⟨cd,hcd,_⟩:=Option.bind_eq_some_iff.mp a.ob
  unfold clsIn at hcd
  split at hcd
  ·rename_i ho
   intro A' Q' E' s' k q
   unfold isType loadHead;exact fY (wpAny_loadPart (k _ _ (X _ _ ho)) (gc q))
  ·cases hcd
 ne:=λh tp dd its n sl X htp=>by
  obtain⟨cd,hcd,_⟩:=Option.bind_eq_some_iff.mp a.ob
  refine cQ.mpr λq=>?_
  have e:C=tp:=Value.ref.inj (beq_iff_eq.mp q)
  subst e
  unfold clsIn at hcd
  split at hcd
  ·rename_i ho
   cases (X _ _ ho).symm.trans htp
  ·cases hcd
 ca:=λX ⟨_,h1,h2⟩ k=>xn4 X a h1 h2 k
end
section
variable {X:Cx}
end
end L2
namespace Tb.ST
open PySem PySem.SetTable
def adv (mask:Nat)(p:Probe):Probe:=if p.more > 0 then { p with j:=p.j+1,more:=p.more-1 } else
 {p with j:=(leap mask p.i p.perturb).1,more:=runEnd mask (leap mask p.i p.perturb).1-(leap mask p.i p.perturb).1,i:=(leap mask p.i p.perturb).1,perturb:=(leap mask p.i p.perturb).2 }
def start (mask:Nat)(h:Int):Probe:={ j:=bits h % (mask+1),more:=runEnd mask (bits h % (mask+1))-bits h % (mask+1),i:=bits h % (mask+1),perturb:=bits h,dummy:=none }
def go (mask:Nat):Nat->Probe->Probe
 | 0,p=>p
 | q+1,p=>go mask q (adv mask p)
def pj (mask:Nat)(h:Int)(q:Nat):Nat:=(go mask q (start mask h)).j
def lc (M x:Nat):Nat:=(x*5+1) % M
def lcs (M:Nat):Nat->Nat->Nat
 | 0,x=>x
 | k+1,x=>lcs M k (lc M x)
def xo0 (M:Nat):Nat->Nat->List Nat
 | 0,_=>[]
 | k+1,x=>lc M x::xo0 M k (lc M x)
def ye4 (M:Nat):Bool:=((List.range M).all λe=>(xo0 M M 0).contains e)&&lcs M M 0==0
end Tb.ST
namespace Tb.ST
open PySem PySem.SetTable
theorem zc9 {α:Type}{l:List α}{x:α}(hp:p<=l.length):(l.take p++x::l.drop p)[i]?=if i<p then l[i]? else if i=p then some x else l[i-1]?:=by
 have ht:(l.take p).length=p:=by rw[bo];lia
 by_cases h1:i<p
 ·rw[if_pos h1,aN (by lia),cq h1]
 ·rw[if_neg h1,aX (by lia),ht]
  by_cases h2:i=p
  ·rw[if_pos h2,h2,cX];rfl
  ·rw[if_neg h2,show i-p=(i-p-1)+1 by lia,List.getElem?_cons_succ,cM,show p+(i-p-1)=i-1 by lia]
end Tb.ST
namespace Tb.ST
open PySem PySem.SetTable
def Fr (owner:Array (Option Nat))(j:Nat):Prop:=(owner.getD j (some 0)).isNone=true
end Tb.ST
namespace L2
open PySem PySem.Spec PyProof.Rows
section
variable {prog:gf}{w:gq}{K:Type}[DecidableEq K]{knd:KeyKind prog w K}{A:gu}{E:Value->fZ->Prop}{s:fZ}
end
section
variable {X:Cx}
theorem zx1:∀{as:List Addr} {us:List Value},p7 (as.map V.ref) us->us=as.map Value.ref
 | [],_,r=>by rw[cK]at r;cases r;rfl
 | a::as,_,r=>by
  rw[aQ]at r
  cases r with
  | cons h t =>
   cases h
   rw[zx1 t]
   rfl
end
section
variable {prog:gf}{w:gq}{A:gu}{E:Value->fZ->Prop}{s:fZ}
variable {I Z:Addr}{fp wr:List Addr}{G:Array GenState->Array GenState->Prop}{n:Nat}{P:Nat->Value->Prop}{St:Nat->fZ->Prop}{R:Result->fZ->Prop}
end
section
variable {X:Cx}
end
section
variable {prog:gf}{w:gq}{A:gu}{E:Value->fZ->Prop}{s:fZ}
theorem u0 {α β:Type}{F:α->β->Prop}:∀{as:List α} {bs:List β},Paired F as bs->∀(i:Nat) (a:α) (b:β),as[i]?=some a->bs[i]?=some b->F a b
 | _,_,.nil,i,a,b,h,_=>by cases i <;> cases h
 | _,_,.cons f _,0,a,b,h,h'=>by
  cases h
  cases h'
  exact f
 | _,_,.cons _ r,i+1,a,b,h,h'=>u0 r i a b (by simpa using h) (by simpa using h')
end
section
variable {X:Cx}
end
def Y5 (P:gf)(w:gq)(K:W.Frag)(mg:Str->Option Value)(base:Heap)(k:Nat)(C:Addr)(m:Str)(ps:List Str)(sp:Sp):Prop :=
 ∃f fd,u8 P w K mg base CX0 k f fd ps sp/\yx0 K C m f/\W3 K fd ps []
def yc3 (P:gf)(w:gq)(K:W.Frag)(mg:Str->Option Value)(base:Heap)(k:Nat)(C:Addr)(m:Str)(ps:List Str)(sp:Sp):Prop :=
 ∃f fd,u8 P w K mg base (CX1 P w) k f fd ps sp/\yx0 K C m f/\W3 K fd ps []
section
variable {X:Cx}{C:Addr}{k j:Nat}{m:Str}{ps:List Str}{sp:Sp}{o e:Expr}{es:List Expr}{ta:TE}{t:TA}{apos pos cpos:Pos}{pl:Sem Bool}
theorem Y7 (c:Cls X.K C)(kn:Y5 X.prog X.w X.K X.mg X.base k C m ps sp)(hr:Z8 j X.A)(ho:PE X o ta)(ha:PA X (e::es) t)(hj:k<=j:=by decide)
  (hst:gl (e::es) X.env=(false,eval e X.env)::gl es X.env:=by rfl) (hpl:(backTo pos (gl es X.env)).any (·.1)=false:=by rfl)
  (ht:eval (.Call (.Attribute o m apos) (e::es) [] pos) X.env=(do
   let v ←eval o X.env
   standAt apos.atName
   let (f,first) ←holding [v] (getMethod v m pl)
   callWith pos f first (backTo pos (gl (e::es) X.env)) (backToKw pos (gA [] X.env))):=by rfl):PE X (.Call (.Attribute o m apos) (e::es) [] pos) (yi8 C m sp [] E0 ta t):=by
 obtain⟨f,fd,G,hm,hb⟩:=kn
 exact yq5 ho c hm G (hr.mono hj) hb .nil zw3 ha hst hpl ht
end
section
variable {P:gf}{w:gq}{K:W.Frag}{mg:Str->Option Value}{base:Heap}{N:List Str}{qual:Str}{scope:Scope}{f:Addr}{cd:Value}{A:gu}{outer:List Env}{s:fZ}{H:Hp}{E:XK}
theorem yg1 {C:Addr}{o e:Expr}{es:List Expr}{ta:TE}{t:TA}{apos pos:Pos}{pl:Sem Bool}(c:Cls K C)(kn:yc3 P w K mg base k C m ps sp)(hr:Z8 j (A.deeper (envOfC qual scope s.heap.objs.size f cd)))(ho:PE (X8 (CX1 P w) P w K mg base N qual scope f cd A outer s H E) o ta)
  (ha:PA (X8 (CX1 P w) P w K mg base N qual scope f cd A outer s H E) (e::es) t) (hj:k<=j:=by decide)
  (hst:gl (e::es) (envOfC qual scope s.heap.objs.size f cd)=(false,eval e (envOfC qual scope s.heap.objs.size f cd))::gl es (envOfC qual scope s.heap.objs.size f cd):=by rfl) (hpl:(backTo pos (gl es (envOfC qual scope s.heap.objs.size f cd))).any (·.1)=false:=by rfl)
  (ht:eval (.Call (.Attribute o m apos) (e::es) [] pos) (envOfC qual scope s.heap.objs.size f cd)=(do
   let v ←eval o (envOfC qual scope s.heap.objs.size f cd)
   standAt apos.atName
   let (f',first) ←holding [v] (getMethod v m pl)
   callWith pos f' first (backTo pos (gl (e::es) (envOfC qual scope s.heap.objs.size f cd))) (backToKw pos (gA [] (envOfC qual scope s.heap.objs.size f cd)))):=by rfl) :
  PE (X8 (CX1 P w) P w K mg base N qual scope f cd A outer s H E) (.Call (.Attribute o m apos) (e::es) [] pos) (yi8 C m sp [] E ta t):=by
 obtain⟨g,gd,G,hm,hb⟩:=kn
 exact yq5 (X:=X8 (CX1 P w) P w K mg base N qual scope f cd A outer s H E) ho c hm G (hr.mono hj) hb .nil yq3 ha hst hpl ht
end
section
variable {prog:gf}{w:gq}{A:gu}{E:Value->fZ->Prop}{s:fZ}
end
section
variable {X:Cx}
end
section
variable {X:Cx}
end
section
variable {X:Cx}
end
section
variable {prog:gf}{w:gq}{A:gu}{E:Value->fZ->Prop}{s:fZ}
def two (x y:Int)(i:Nat):Int:=if i=0 then x else y
end
section
variable {X:Cx}
end
section
variable {X:Cx}{pos:Pos}
end
section
variable {P:gf}{w:gq}{K:W.Frag}{mg:Str->Option Value}{base:Heap}{f:Addr}{fd:gB}{ps:List Str}{k:Nat}
theorem u8.calm (F:u8 P w K mg base (CX1 P w) k f fd ps sp):u8 P w K mg base CX0 k f fd ps (λvs H Q _=>sp vs H Q E0) :=
 ⟨λvs H Q _ h=>F.len vs H Q E0 h,λA outer s H args us vs Q E hr he hb hv hs=>codeAny_mono (F.run A outer s H args us vs Q E0 hr he hb hv hs) λr s' h=>by
  cases r with
  | ok fl=>cases fl <;> exact h
  | error e =>
   obtain⟨ea,C,a0,B,H',_,_,_,_,_,_,_,_,_,_,_,_,hE⟩:=h
   exact hE.elim⟩
end
theorem xu7 (h:zp1 k u=true):p9 (kV k) u:=by
 rcases g9 h with⟨i,t,rfl,rfl⟩|⟨x,t,rfl,rfl⟩
 ·exact⟨t,rfl⟩
 ·exact⟨t,rfl⟩
section
variable {X:Cx}{pins:List (Addr×Obj)}{σ:St}{H:Hp}{s:fZ}
theorem Inv.freeze (I:Inv X pins σ H s)(e:H a=some (.dK kvs))(ho:s.heap.get? a=some ob):Inv X pins σ (upd H a (.frz ob (.dK kvs))) s:=by
 have mu:Mut (H a):=by rw[e];exact True.intro
 refine Inv.write (t':=s.toks) (o:=.frz ob (.dK kvs)) I mu (.inl rfl) (λ_ _ _ q=>q) ⟨ob,ho⟩ ⟨ho,?_⟩
 refine(I.hok a _ e).stay (λ_ _ _ q=>q) (λb q=>?_) λb xs q=>?_
 ·rw[z6 (i9 q e (by intro z;cases z))];exact q
 ·rw[z6 (i9 q e (by intro z;cases z))];exact q
theorem Inv.thaw (I:Inv X pins σ H s)(e:H a=some (.frz ob (.dK kvs)))(hnf:∀o u,X.H₀ a≠some (.frz o u)):Inv X pins σ (upd H a (.dK kvs)) s:=by
 have ne:∀b o,H b=some o->o≠.frz ob (.dK kvs)->b≠a:=λb o q d=>i9 q e d
 have nen:∀b,H b=none->b≠a:=λb q z=>by subst z;rw[q]at e;cases e
 refine⟨I.ok,I.os,I.bare,⟨I.base.keep,I.base.slot,λb o q n hx=>?_,I.base.there,λb xs q=>?_,λb o u q=>?_,λb ps q=>?_⟩,I.loc,I.cell,?_,λx c q=>?_,λp hp=>?_,λb u q=>?_,I.len⟩
 ·have r:=I.base.free b o q n hx
  rw[z6 (nen b r)];exact r
 ·have r:=I.base.tups b xs q
  rw[z6 (ne b _ r (by intro z;cases z))];exact r
 ·have r:=I.base.frzs b o u q
  have hb:b≠a:=λz=>by subst z;exact hnf o u q
  rw[z6 hb];exact r
 ·obtain⟨m,r⟩:=I.base.tbls b ps q
  exact⟨m,by rw[z6 (ne b _ r (by intro z;cases z))];exact r⟩
 ·rw[z6 (nen _ I.free)];exact I.free
 ·rw[z6 (nen _ (I.freeC x c q))];exact I.freeC x c q
 ·obtain⟨h1,h2,h3,h4,h5⟩:=I.pin p hp
  exact⟨h1,by rw[z6 (nen _ h2)];exact h2,h3,h4,h5⟩
 ·by_cases hb:b=a
  ·subst hb
   rw[z4]at q
   cases q
   obtain⟨_,r⟩:=I.hok b _ e
   refine r.stay (λ_ _ _ q=>q) (λc q=>?_) λc xs q=>?_
   ·rw[z6 (ne c _ q (by intro z;cases z))];exact q
   ·rw[z6 (ne c _ q (by intro z;cases z))];exact q
  ·rw[z6 hb]at q
   refine(I.hok b u q).stay (λ_ _ _ q=>q) (λc q=>?_) λc xs q=>?_
   ·rw[z6 (ne c _ q (by intro z;cases z))];exact q
   ·rw[z6 (ne c _ q (by intro z;cases z))];exact q
theorem Inv.nofrz (I:Inv X pins σ H s)(e:H a=some (.dK kvs)):∀o u,X.H₀ a≠some (.frz o u):=λo u q=>by
 have r:=I.base.frzs a o u q
 rw[e]at r
 cases r
end
def ItK (ob:Obj)(d:Addr)(kvs:List (Key×V)):It :=
 ⟨λi H=>H d=some (.frz ob (.dK kvs))/\i<kvs.length,λi H x H'=>H'=H/\∃k v,kvs[i]?=some (k,v)/\x=kV k,λi H=>H d=some (.frz ob (.dK kvs))/\kvs.length<=i⟩
theorem yp1 {h:Heap}{ob:Obj}(ok:HOk P w H h)(hep:∃es,ob.data=.dict es ep)(e:H d=some (.frz ob (.dK kvs))) :
  ∃vs,KV kvs vs/\h.DictAt (c9 P w) d vs ep:=by
 obtain⟨ho,_,_,vs,rel,o,es,ep',ho',hx,hd,r⟩:=ok d _ e
 rw[ho]at ho'
 cases ho'
 obtain⟨es',he⟩:=hep
 rw[he]at hd
 cases hd
 exact⟨vs,rel,ob,_,ho,hx,he,r⟩
theorem xn8 {κ:Type}:∀{kvs:List (κ×V)} {vs:List (κ×Value)},KV kvs vs->∀{i:Nat} {k:κ} {v:V},kvs[i]?=some (k,v)->∃u,vs[i]?=some (k,u)/\p9 v u
 | _,_,.nil,i,k,v,h=>by cases i <;> cases h
 | _,_,.cons (b:=q) f _,0,k,v,h=>by
  obtain⟨k',u⟩:=q
  cases h
  obtain⟨e,r⟩:=f
  cases e
  exact⟨u,rfl,r⟩
 | _,_,.cons _ r,i+1,k,v,h=>by
  obtain⟨u,hu,f⟩:=xn8 r (i:=i) (by simpa using h)
  exact⟨u,by simpa using hu,f⟩
theorem yw4 {P:gf}{w:gq}{K:W.Frag}{tg:Expr}(ob:Obj)(d it:Addr)(kvs:List (Key×V))(ep:Nat)(hep:∃es,ob.data=.dict es ep):yj8 P w K tg (ItK ob d kvs) [it] it (λi h=>h.IsKeyIter it d i kvs.length ep) where
 mem:=by simp
 obj:=λi h st b hb=>by
  have e:b=it:=by simpa using hb
  subst e
  obtain⟨o,e,c,d⟩:=st
  exact⟨o,e,λv z=>by rw[d]at z;cases z⟩
 keep:=λi h h' st k=>by
  obtain⟨o,e,r⟩:=st
  exact⟨o,k it (by simp) o e,r⟩
 item:=by
  intro X hP hw hK hc i pins s σ H E I hf st hg
  subst hP hw hK
  obtain⟨e,hi⟩:=hg
  obtain⟨vs,rel,da⟩:=yp1 I.hok hep e
  have hx:kvs[i]?=some (kvs[i].1,kvs[i].2):=ae hi
  obtain⟨u,hu,_⟩:=xn8 rel hx
  obtain⟨f0,f1,f2,f3,f4,f5⟩:=hf it (by simp)
  have st2:s.heap.IsKeyIter it d i vs.length ep:=by rw[←rel.length];exact st
  refine wpAny_pyNext_dict_item st2 da hu λkey h' hk st' sb=>?_
  rw[←rel.length]at st'
  have I1:Inv X pins σ H { s with heap:=h' }:=I.turned (t':=s.toks) (λb o hb e=>(sb.2 b hb).trans e) f0 f1 f3 f4 f5
  obtain⟨o,e2,c,dd⟩:=id st'
  exact⟨key,rfl,yp5 (s:={ s with heap:=h' }) e2 c dd (by decide) ⟨kV kvs[i].1,H,I1,xu7 hk,⟨rfl,_,_,hx,rfl⟩,st',λb hb=>(hf b hb).1⟩⟩
 done:=by
  intro X hP hw hK hc i pins s σ H E I hf st hg
  subst hP hw hK
  obtain⟨e,hi⟩:=hg
  obtain⟨vs,rel,da⟩:=yp1 I.hok hep e
  obtain⟨f0,f1,f2,f3,f4,f5⟩:=hf it (by simp)
  have st2:s.heap.IsKeyIter it d i vs.length ep:=by rw[←rel.length];exact st
  exact wpAny_pyNext_dict_end (I.ok.hd hc) st2 da (aW (by rw[←rel.length];exact hi)) λh' eb=>⟨rfl,I.turned (t':=s.toks) (λb o hb e=>eb b o hb e) f0 f1 f3 f4 f5⟩
 self:=λ_ _ _ _ _ st h=>wpAny_pyIter_keyiter st h
section
variable {X:Cx}{tg:Expr}
def xu3 (td:TE):TI:=λσ H R=>td σ H λx H1=>∃d kvs,x=.ref d/\H1 d=some (.dK kvs)/\∀ob,R (ItK ob d kvs) (upd H1 d (.frz ob (.dK kvs)))
theorem yq7 (hl:PE X l td):PI X tg l (xu3 td):=by
 intro pins s σ H R I h
 refine thn (hl pins s σ H _ I h) λv s1 ⟨x,H1,I1,r1,q1⟩=>?_
 obtain⟨d,kvs,e,hd,q⟩:=q1
 subst e
 cases r1
 obtain⟨hz,hs,vs,rel,dd⟩:=yy2 I1.hok hd
 obtain⟨ep,da⟩:=dd.dictAt
 obtain⟨ob,es,ho,hx,hdat,r⟩:=id da
 have I2:=I1.freeze hd ho
 refine wpAny_pyIter_dict hs da ?_
 rw[←rel.length]
 refine⟨s1.heap.objs.size,[s1.heap.objs.size],_,_,_,rfl,I2.kept (t':=s1.toks) λb o e=>ao _ e,yw4 ob d _ kvs ep ⟨es,hdat⟩,⟨_,aB _ rfl,rfl,rfl⟩,λb hb=>?_,q ob⟩
 have e:b=s1.heap.objs.size:=by simpa using hb
 subst e
 exact I2.fpOk (ag _) (I2.hok.fresh (ag _))
def xw3 (t:TE):TE:=λσ H Q=>∃d kvs,H d=some (.dK kvs)/\t σ H λv H'=>(∃ob,H' d=some (.frz ob (.dK kvs)))/\Q v (upd H' d (.dK kvs))
theorem yq6 (h:PE X e t):PE X e (xw3 t):=by
 intro pins s σ H Q I hw
 obtain⟨d,kvs,hd,q⟩:=hw
 have nf:=I.nofrz hd
 refine thn (h pins s σ H _ I q) λv s1 ⟨x,H1,I1,r1,⟨ob,hf⟩,q1⟩=>?_
 exact⟨x,_,I1.thaw hf nf,r1,q1⟩
theorem ys9 {kvs:List (Key×V)}{fr:List Nat}{te:CT TE}{Q:Addr->Hp->Prop}(hS:H1 d=some (.frz ob (.dK kvs)))(ys:List V)(hn:ys.length=kvs.length)(hz:kvs.length<=ge)
  (turn:∀(i:Nat) H k v,kvs[i]?=some (k,v)->y6 H1 H->∀C₀ s₀ H₀ fp,te C₀ s₀ H₀ fp (some (kV k)::fr.map λj=>(σ[j]?).getD none) H λy H4=>y6 H H4/\ys[i]?=some y)
  (fin:∀D H,H1 D=none->y6 H1 H->H D=some (.lst ys)->Q D H) :
  ∀D,H1 D=none->∃W:Nat->Nat->St->Hp->Prop,(∃m,W 0 m (P3 1 fr σ) (upd H1 D (.lst [])))/\∀i m σ' H',W i m σ' H' ->
  ((ItK ob d kvs).stop i H'/\Q D H')∨((ItK ob d kvs).go i H'/\∀x H2,(ItK ob d kvs).yld i H' x H2->∀C₀ s₀ H₀ fp,Q8 0 x σ' H2 λσ3 H3=>∃N:VK,te C₀ s₀ H₀ fp σ3 H3 N/\∀y H4,N y H4 ->
   ∃ys m',H4 D=some (.lst ys)/\ys.length<ge/\m'<m/\W (i+1) m' σ3 (upd H4 D (.lst (ys++[y])))) :=
 zg6 ys hn hz (λH s=>⟨s _ _ hS,ag _⟩) (λi H hi s=>⟨s _ _ hS,hi⟩) (λi H x H2 hi s y=>⟨y.1,by obtain⟨k,v,hk,rfl⟩:=y.2;exact turn i H k v hk s⟩) fin
end
def zt3 (P:gf)(w:gq)(K:W.Frag)(mg:Str->Option Value)(base:Heap)(k:Nat)(C:Addr)(x:Str)(ps:List Str)(sp:Sp):Prop :=
 ∃f fd,u8 P w K mg base CX0 k f fd ps sp/\Mk K C f/\mg x=some (.ref C)/\W3 K fd ps []
section
variable {X:Cx}{C:Addr}{k j:Nat}{x:Str}{ps:List Str}{sp:Sp}{e:Expr}{es:List Expr}{t:TA}{p pos:Pos}
theorem O6 (kn:zt3 X.prog X.w X.K X.mg X.base k C x ps sp)(hr:Z8 j X.A)(hg:Gl X x)(ha:PA X (e::es) t)(hj:k+1<=j:=by decide)(hdb:(x==("__debug__":Str))=false:=by decide)
  (he:gl (e::es) X.env=(false,eval e X.env)::gl es X.env:=by rfl) (hpl:(backTo pos (gl es X.env)).any (·.1)=false:=by rfl):PE X (.Call (.Name x p) (e::es) [] pos) (xh0 C sp [] E0 t):=by
 obtain⟨f,fd,G,hM,hm,hb⟩:=kn
 exact yq4 hM G (hr.mono hj) hg hm hb .nil zw3 ha hdb he hpl
end
section
variable {prog:gf}{w:gq}{A:gu}{E:Value->fZ->Prop}{s:fZ}
end
section
variable {X:Cx}
end
def xm8 (tk tv:TE):TE:=λσ H Q=>∀p,H p=none->tk σ (upd H p (.dT [])) λx H1=>tv σ H1 λy H2=>H2 p=some (.dT [])/\∃(ks:List Key) (b:Addr),x=.ref b/\H2 b=some (.tup (ks.map kV))/\Q (.ref p) (upd H2 p (.dT [(ks,y)]))
theorem yv5 {X:Cx}(hu:X.A.units+1<cLine)(hk:PE X k tk)(hv:PE X v tv):PE X (.Dict [some k] [v] pos) (xm8 tk tv):=by
 intro pins s σ H Q I q
 have hn:=I.hok.fresh (ag s.heap.objs.size)
 have I1:=I.laid (a:=s.heap.objs.size) (o:=.dT []) (h':=s.heap.push { cls:=.type "dict",data:=.dict #[] }) (t':=s.toks) (λ_ _ q=>ao _ q) (ag _) (ye1 s.heap I.big)
 have hl:(pairTrees [some k] [v] X.env pos).length=1:=pairTrees_length [some k] [v] X.env pos rfl rfl
 rw[arm_eval_Dict,zip_pairTrees [some k] [v] X.env pos rfl rfl,dictDisplay_pairs _ (λe=>by rw[e]at hl;cases hl) (by rw[hl];decide)]
 refine fY (wpAny_standAt (fY ?_))
 unfold subDict
 refine fY (wpAny_alloc (fY (gv ?_)))
 rw[if_pos (by rw[hl];decide)]
 refine fY (pairTrees_cons_walk (thn (hk pins _ σ _ _ I1 (q _ hn)) λu s1 ⟨x,H1,I2,rx,q1⟩=>thn (hv pins s1 σ H1 _ I2 q1) λr s2 ⟨y,H2,I3,ry,e,ks,b,ex,eb,q3⟩=>pairTrees_nil_walk (gv ?_)))
 subst ex
 cases (show u=Value.ref b from rx)
 obtain⟨z,hd,xs,rel,dd⟩:=yy4 I3.hok e
 cases rel
 rw[dQ]
 refine fY (fY ?_)
 show gh (gn X.prog X.w) X.A (dictSet s.heap.objs.size (.ref b) r >>= λ_=>pure (ForInStep.yield PUnit.unit)) _ _ _
 refine fY (wpAny_dictSet_heap (hsz:=aP _) (knd:=tupleKind (c9 X.prog X.w)) (Nat.lt_of_succ_lt hu) (zp2 I3.hok eb) dd λh' dd' hs=>gc ?_)
 show gh (gn X.prog X.w) X.A (forIn ([]:List (Value×Value)) PUnit.unit _) _ _ _
 rw[List.forIn_nil]
 refine gc (gc (gc (gc ⟨.ref s.heap.objs.size,_,?_,rfl,q3⟩)))
 obtain⟨o,es,ep,hq,h2,h3,h4,_,h5⟩:=dd'
 refine zl8 I3 (by rw[e];exact True.intro) hs ⟨o,hq⟩ ⟨(by show 1<=ge;decide),hd,_,Paired.cons ⟨rfl,?_,ry⟩ .nil,o,es,ep,hq,h2,h3,h4,h5⟩
 rw[z6 (i9 eb e (λz=>nomatch z))]
 exact eb
section
variable {X:Cx}{C:Addr}{k j:Nat}{x:Str}{ps:List Str}{sp:Sp}{e:Expr}{es:List Expr}{t:TA}{p cpos pos:Pos}
end
end L2
namespace L2
open PySem PySem.Spec PyProof.Rows PySem.Builtin
section
variable {X:Cx}
def xd9 (K:W.Frag):R2:=λx y H Q=>∃a b xs ys,x=.ref a/\y=.ref b/\SqT K H a xs/\SqT K H b ys/\xs.length+ys.length<=ge /\
 (xs=[]->Q (.ref b) H)/\(xs≠[]->ys=[]->Q (.ref a) H)/\(xs≠[]->ys≠[]->∀p,H p=none->Q (.ref p) (upd H p (.tup (xs++ys))))
theorem xd3:OpR X (binaryOp .Add) (xd9 X.K):=by
 intro pins s σ H x y v u Q I rx ry h
 obtain⟨a,b,xs,ys,rfl,rfl,ha,hb,hz,q0,q1,q2⟩:=h
 by_cases hx:xs=[]
 ·cases rx
  cases ry
  obtain⟨its,r1,p1,_⟩:=I.tuple ha
  obtain⟨its2,r2,p2,_⟩:=I.tuple hb
  obtain⟨⟨cls,dd,data,sl⟩,ho,hc,n,hd⟩:=id p1
  obtain⟨⟨cls2,dd2,data2,sl2⟩,ho2,hc2,n2,hd2⟩:=id p2
  simp only at hc hd hc2 hd2
  subst hc hd hc2 hd2
  have hv:its=[]:=r1.nil_iff.mpr hx
  exact concat_meets ⟨_,ho,rfl⟩ ⟨_,ho2,rfl⟩ noFill_tuple_add seq_tuple_add PySem.F.slot_tuple_add PySem.F.entry_tuple_add (PySem.F.args_tuple_add_2 _ _) (tuple_addW0 a b its.toArray its2.toArray n n2 dd dd2 sl sl2 (by simp[hv])) ⟨ho,ho2,⟨.ref b,H,I,rfl,q0 hx⟩⟩
 ·exact xk5 pins s σ H (.ref a) (.ref b) v u Q I rx ry ⟨a,b,xs,ys,rfl,rfl,ha,hb,hx,hz,q1 hx,q2 hx⟩
end
end L2
namespace L2
open PySem PyProof PyProof.Rows
theorem ym6 {β:Type}(n:Nat)(b:β)(f:Nat->β->Sem (ForInStep β)):forIn [:n] b f=forIn (List.range' 0 n 1) b f:=by
 rw[Std.Legacy.Range.forIn_eq_forIn_range']
 have hsz:([:n]:Std.Legacy.Range).size=n:=by simp[Std.Legacy.Range.size]
 show forIn (List.range' 0 ([:n]:Std.Legacy.Range).size 1) b f=_
 rw[hsz]
theorem zo7:∀{its:List Value} {ns:List Int},IntsAre its ns->∀{i:Nat},i<ns.length->∃z t,its[i]?=some (.int z t)/\ns[i]?=some z
 | _,_,.nil,i,h=>absurd h (cO _)
 | _,_,.cons n t r,0,_=>⟨n,t,rfl,rfl⟩
 | _,_,.cons n t r,i+1,h=>by
  obtain⟨z,t',h1,h2⟩:=zo7 r (i:=i) (by simpa using h)
  exact⟨z,t',by simpa using h1,by simpa using h2⟩
section
variable {prog:gf}{w:gq}{A:gu}{E:Value->fZ->Prop}{s:fZ}
theorem yk7 {its:List Value}{k:Nat}{P:Fin->fZ->Prop}(ht:IsTup s.heap t its.toArray)(hi:IntsAre its ns)(hk:ns[k]?=some x)(hb:∀i,i<k->ns[i]?≠some x)
  (h:P (.done (.ret (.int k s.toks))) { s with toks:=s.toks+1 }):gh (gn prog w) A (Builtin.«tuple.index» ⟨[.ref t,.int x u],[]⟩) P E s:=by
 show gh _ _ (Builtin.Tuple.tupleItemsOf (.ref t) >>= _) _ _ s
 refine fY (tupleItemsOf_ ht ?_)
 refine fY (gc ?_)
 refine fY (gc ?_)
 have hkl:k<ns.length:=(al.mp hk).1
 have hlen:its.length=ns.length:=by clear hk hb h ht hkl;induction hi with|nil=>rfl|cons n t r ih=>simp[ih]
 dsimp only
 rw[show min its.toArray.size its.toArray.size=ns.length by rw[Nat.min_self,aA,hlen],ym6]
 refine fY (wpAny_forIn_list _ (λP8 b s'=>b.1=none/\s'=s/\∃i,i<=k/\P8=List.range' i (ns.length-i) 1) _ ?_ ?_ _ _ ⟨rfl,rfl,0,aP _,by rw[dP]⟩)
 ·rintro y P8 b s' ⟨eb,rfl,i,hik,er⟩
  rw[show ns.length-i=(ns.length-(i+1))+1 by lia,dM]at er
  obtain⟨rfl,rfl⟩:=List.cons.inj er
  obtain⟨z,tz,h1,h2⟩:=zo7 hi (i:=y) (by lia)
  have h1':its.toArray[y]?=some (.int z tz):=by simpa using h1
  rw[h1']
  refine fY (wpAny_eqBool_int ?_)
  by_cases c:y=k
  ·subst c
   rw[hk]at h2
   obtain rfl:=Option.some.inj h2
   rw[if_pos (by simp)]
   unfold retInt
   exact fY (fY (wpAny_mkInt (gc (gc (gc h)))))
  ·have hne:z≠x:=λe=>hb y (by lia) (e ▸ h2)
   rw[if_neg (by simpa using hne)]
   exact gc ⟨rfl,rfl,y+1,by lia,rfl⟩
 ·rintro⟨b1,b2⟩ s' ⟨eb,rfl,i,hik,er⟩
  rw[show ns.length-i=(ns.length-(i+1))+1 by lia,dM]at er
  cases er
end
section
variable {X:Cx}
def xr9 (K:W.Frag):V->List V->Hp->VK->Prop:=λx vs H Q=>∃(a:Addr) (ns:List Int) (z:Int) (k:Nat),x=.ref a/\vs=[.int z]/\SqT K H a (ns.map V.int)/\ns[k]?=some z/\(∀i,i<k->ns[i]?≠some z)/\Q (.int k) H
theorem xc4:MtR X "tuple.index" (xr9 X.K):=by
 intro pins s σ H x xs v us Q I rx rv h
 obtain⟨a,ns,z,k,rfl,rfl,ha,hk,hb,q⟩:=h
 cases rx
 obtain⟨u,rfl,ru⟩:=N6 rv
 obtain⟨t,rfl⟩:=ru
 obtain⟨its,r1,p1,_⟩:=I.tuple ha
 have i1:IntsAre its ns:=by simpa using O2 r1
 exact wpAny_call_entry PySem.F.slot_tuple_index p1.typeIs PySem.F.entry_tuple_index (yk7 p1 i1 hk hb ⟨_,rfl,⟨.int k,H,I.tok _,⟨_,rfl⟩,q⟩⟩) (PySem.F.args_tuple_index_2 _ _)
def xy5 (r:V->List V->Hp->VK->Prop)(to:TE)(t:TA):TE:=λσ H Q=>to σ H λx H1=>(∃a xs,x=.ref a/\H1 a=some (.tup xs))/\t σ H1 λxs H2=>r x xs H2 Q
theorem xr6 {apos cpos:Pos}{id:String}{r:V->List V->Hp->VK->Prop}(slot:Slot "tuple" name id)(hty:typeOf (.builtin id)=pure (.type "method_descriptor"))(hm:MtR X id r)(ho:PE X o to)(ha:PA X (e::es) t)
  (hbase:attributeBase o name X.env (eval o X.env)=eval o X.env:=by rfl)
  (hfew:((backTo cpos (gl (e::es) X.env)).all (λx=>!x.1)&&(backToKw cpos (gA [] X.env)).all (λx=>x.1.isSome)
   && decide ((e::es).length+([]:List Keyword).length+(if ([]:List Keyword).isEmpty then 0 else 1)<30))=true:=by rfl)
  (hline:(apos.endLine==cpos.line)=true:=by rfl) (hs:gl (e::es) X.env=(false,eval e X.env)::gl es X.env:=by rfl) (hplain:(backTo cpos (gl es X.env)).any (·.1)=false:=by rfl) :
  PE X (.Call (.Attribute o name apos) (e::es) [] cpos) (xy5 r to t):=by
 intro pins s σ H Q I h
 refine wpAny_Call_method_late hbase hfew hline rfl (thn (ho pins s σ H _ I h) λv s1 ⟨x,H1,I1,r1,⟨a,xs,ex,ea⟩,q1⟩=>?_)
 subst ex
 cases (show v=Value.ref a from r1)
 obtain⟨_,its,_,o',h1,h2,n,h3,h4⟩:=(show l7 X.prog X.w H1 s1.heap a (.tup xs) from I1.hok a _ ea)
 refine⟨"tuple",id,PySem.F.plainAttrs_tuple,slot,hty,⟨o',h1,h2⟩,λb hb=>(by cases hb;exact⟨o',h1,h4⟩),?_⟩
 have hA:=ha cpos pins s1 σ H1 _ I1 q1
 rw[hs]at hA ⊢
 refine Calls.callWith_builtin (by show(false || (backTo cpos (gl es X.env)).any (·.1))=false;rw[hplain] <;> rfl) (Calls.evalArgs_plain ?_)
 exact thn hA λus s2 ⟨vs,H2,I2,r2,q2⟩=>hm pins s2 σ H2 (.ref a) vs _ us Q I2 rfl r2 q2
end
end L2
namespace HT
open PySem PyProof.Rows
section
open PySem.SeqAt
open PySem.AutoSeq1 (wpAny_loadPart')
open PySem.MeetsSeq PySem.MeetsSeq2 PySem.MeetsSeq3
end
section
variable {prog:gf}{w:gq}{A:gu}{E:Value->fZ->Prop}{s:fZ}
end
end HT
namespace L2
open PySem PySem.Spec PyProof.Rows
theorem yp8:∀xs:List Int,HT.lexLt xs xs=false
 | []=>rfl
 | x::xs=>by rw[HT.lexLt_cons,if_pos rfl,yp8 xs]
theorem xc0:∀{xs ys:List Int},HT.lexLt xs ys=true->HT.lexLt ys xs=false
 | [],[],h=>by cases h
 | [],y::ys,_=>rfl
 | x::xs,[],h=>by cases h
 | x::xs,y::ys,h=>by
  rw[HT.lexLt_cons]at h ⊢
  by_cases e:x=y
  ·rw[if_pos e]at h
   rw[if_pos e.symm]
   exact xc0 h
  ·rw[if_neg e]at h
   rw[if_neg (λz=>e z.symm)]
   have:=of_decide_eq_true h
   exact decide_eq_false (by lia)
theorem yl1:∀{xs ys zs:List Int},HT.lexLt ys xs=false->HT.lexLt zs ys=false->HT.lexLt zs xs=false
 | xs,ys,[],h1,h2=>by
  cases ys with
  | nil=>cases xs with
   | nil=>rfl
   | cons x xs=>rw[HT.lexLt_nil_cons]at h1;cases h1
  | cons y ys=>rw[HT.lexLt_nil_cons]at h2;cases h2
 | [],ys,z::zs,h1,h2=>rfl
 | x::xs,[],z::zs,h1,h2=>by rw[HT.lexLt_nil_cons]at h1;cases h1
 | x::xs,y::ys,z::zs,h1,h2=>by
  rw[HT.lexLt_cons]at h1 h2 ⊢
  by_cases e1:y=x
  ·rw[if_pos e1]at h1
   by_cases e2:z=y
   ·rw[if_pos e2]at h2
    rw[if_pos (e2.trans e1)]
    exact yl1 h1 h2
   ·rw[if_neg e2]at h2
    have:=of_decide_eq_false h2
    rw[if_neg (by lia)]
    exact decide_eq_false (by lia)
  ·rw[if_neg e1]at h1
   have h1:=of_decide_eq_false h1
   by_cases e2:z=y
   ·rw[if_neg (by lia)]
    exact decide_eq_false (by lia)
   ·rw[if_neg e2]at h2
    have:=of_decide_eq_false h2
    rw[if_neg (by lia)]
    exact decide_eq_false (by lia)
theorem yf2:∀{xs ys:List Int},HT.lexLt xs ys=false->HT.lexLt ys xs=false->xs=ys
 | [],[],_,_=>rfl
 | [],y::ys,h,_=>by rw[HT.lexLt_nil_cons]at h;cases h
 | x::xs,[],_,h=>by rw[HT.lexLt_nil_cons]at h;cases h
 | x::xs,y::ys,h1,h2=>by
  rw[HT.lexLt_cons]at h1 h2
  by_cases e:x=y
  ·rw[if_pos e]at h1
   rw[if_pos e.symm]at h2
   rw[e,yf2 h1 h2]
  ·rw[if_neg e]at h1
   rw[if_neg (λz=>e z.symm)]at h2
   have:=of_decide_eq_false h1
   have:=of_decide_eq_false h2
   lia
theorem yc5 {bt:Nat->Nat->Bool}{le:Nat->Nat->Prop}(r:∀i,le i i)(tr:∀i j k,le i j->le j k->le i k)(yes:∀i j,bt i j=true->le i j)(no:∀i j,bt i j=false->le j i):∀k,argBest bt k<=k/\∀i,i<=k->le (argBest bt k) i
 | 0=>⟨ag _,λi hi=>by rw[Nat.le_zero.mp hi];exact r 0⟩
 | k+1=>by
  obtain⟨h1,h2⟩:=yc5 r tr yes no k
  unfold argBest
  cases e:bt (k+1) (argBest bt k) with
  | true =>
   rw[if_pos rfl]
   refine⟨ag _,λi hi=>?_⟩
   rcases bW hi with z|z
   ·exact tr _ _ _ (yes _ _ e) (h2 i (by lia))
   ·rw[z];exact r _
  | false =>
   rw[if_neg aD]
   refine⟨by lia,λi hi=>?_⟩
   rcases bW hi with z|z
   ·exact h2 i (by lia)
   ·rw[z];exact no _ _ e
section
variable {X:Cx}
theorem ys7 (hc:X.calm=true):T9 X (.builtin "min") (λxs H Q=>∃(p:Addr) (ns:List Int),xs=[.ref p]/\SqL X.K H p (ns.map V.int)/\0<ns.length/\∀M:Int,M∈ns->(∀a∈ns,M<=a)->Q (.int M) H):=by
 intro pins s σ H xs us Q I r h
 obtain⟨p,ns,rfl,hq,hne,q⟩:=h
 obtain⟨u,rfl,rx⟩:=N6 r
 cases rx
 obtain⟨its,r1,p1,hz⟩:=I.list hq
 have hi:=O2 r1
 obtain⟨ys,ey⟩:=hi.allInts.items
 have eN:ns=ys.toList.map (·.1):=by rw[←hi.numsOf,←nums_intItems,←ey]
 have hsz:0<ys.size:=by
  rw[eN,aa,aK]at hne
  exact hne
 have p2:=p1.isList
 rw[ey]at p2
 refine min_intList (I.ok.hd hc) p2 hsz λv h' tk hv hk=>?_
 obtain⟨t,rfl⟩:=intItems_at hv
 obtain⟨b1,b2⟩:=yc5 (bt:=λi j=>decide (numAt ys i<numAt ys j)) (le:=λi j=>numAt ys i<=numAt ys j) (λi=>du _) (λi j k=>cv) (λi j e=>bM (of_decide_eq_true e)) (λi j e=>bS.mp (of_decide_eq_false e)) (ys.size-1)
 refine⟨.int _,H,I.kept hk,⟨_,rfl⟩,q _ ?_ λa ha=>?_⟩
 ·rw[eN,numAt_eq]
  exact getD_mem (by rw[aa,aK];lia)
 ·rw[eN]at ha
  obtain⟨j,hj,rfl⟩:=mem_getD ha
  rw[aa,aK]at hj
  rw[←numAt_eq]
  exact b2 j (by lia)
end
section
variable {prog:gf}{w:gq}{A:gu}{R:Result->fZ->Prop}{I S:Addr}{fp wr:List Addr}{n:Nat}{P:Nat->Value->Prop}{St:Nat->Heap->Prop}{J:Heap->Prop}{bt:Nat->Nat->Bool}
end
section
variable {X:Cx}
end
def yk2 (sc osc:Scope)(x:Str)(fr:List Str):Bool :=
 sc.kind == .function&&(sc.names.all λy=>y.2 != .cell || y.1==x)&&(sc.names.all λy=>y.2 != .local || sc.names.lookup y.1==some .local) &&
 (sc.names.all λy=>y.2 != .free || (osc.names.lookup y.1==some .cell || osc.names.lookup y.1==some .free))&&(fr.all λy=>sc.names.lookup y==some .free)&&sc.names.lookup x==some .cell&&(sc.names.all λy=>y.2 != .free || y.1 != x)
structure yj2 (sc osc:Scope) (x:Str) (fr:List Str):Prop where
 kind:sc.kind=.function
 cell:∀y∈sc.names,y.2=.cell->y.1=x
 loc:∀y∈sc.names,y.2=.local->sc.names.lookup y.1=some .local
 free:∀y∈sc.names,y.2=.free->osc.names.lookup y.1=some .cell∨osc.names.lookup y.1=some .free
 fr:∀y∈fr,sc.names.lookup y=some .free
 own:sc.names.lookup x=some .cell
 nofree:∀y∈sc.names,y.2=.free->y.1≠x
theorem ys8 (h:yk2 sc osc x fr=true):yj2 sc osc x fr:=by
 unfold yk2 at h
 simp only[cf]at h
 obtain⟨⟨⟨⟨⟨⟨h1,h2⟩,h3⟩,h4⟩,h5⟩,h6⟩,h7⟩:=h
 refine⟨by simpa using h1,λy hy e=>?_,λy hy e=>?_,λy hy e=>?_,λy hy=>?_,by simpa using h6,λy hy e=>?_⟩
 ·have:=bu.mp h2 y hy
  rw[e]at this
  simpa using this
 ·have:=bu.mp h3 y hy
  rw[e]at this
  simpa using this
 ·have:=bu.mp h4 y hy
  rw[e]at this
  simpa using this
 ·simpa using bu.mp h5 y hy
 ·have:=bu.mp h7 y hy
  rw[e]at this
  simpa using this
def U7 (X:Cx)(N':List Str)(x:Str)(scope:Scope)(C:Addr)(s₃:fZ)(H₃:Hp)(fp:List Addr):Cx where
 prog:=X.prog
 w:=X.w
 K:=X.K
 mg:=X.mg
 base:=X.base
 A:=X.A
 N:=N'
 s₀:=s₃
 H₀:=H₃
 env:=compEnvC scope ((x,C+1)::za1 X.env.cells scope.names) C X.env
 outer:=X.stack
 stack:=X.stack
 ex:=fp
 fn:=λy=>y==x
 calm:=X.calm
 pn:=[]
 xe:=λ_ _=>False
section
variable {M:Model}{A:gu}{E:Value->fZ->Prop}{s:fZ}
theorem xj8 {scope:Scope}{Q:Env->fZ->Prop}(hcf:∀n acc,cellsFrom n scope.names acc=(x,n)::acc)(hpf:∀h,pushCells h scope.names=h.push { cls:=.type "cell",data:=.cell none })
  (hQ:Q (newEnv scope s.heap.objs.size globals ((x,s.heap.objs.size+1)::cl) qual none .none (some env) builtinsNs) { s with heap:=(s.heap.push { cls:=.type "dict",data:=.dict #[] }).push { cls:=.type "cell",data:=.cell none } }):gh M A (newFunctionEnv scope globals cl [] qual none .none (some env)) Q E s:=by
 simp only[newFunctionEnv,Option.isSome_some,if_true]
 refine fY (wpAny_alloc (fY (wpAny_layCells _ (λname kind cells=>by cases hkc:kind==NameKind.cell <;> simp[hkc]) _ _ _ _ ?_)))
 rw[hcf,hpf,show({ s with heap:=s.heap.push { cls:=.type "dict",data:=.dict #[] } }:fZ).heap.objs.size=s.heap.objs.size+1 from dv ..]
 exact fY (by rw[List.forIn_nil];exact gc (gc hQ))
end
section
variable {X:Cx}{pins:List (Addr×Obj)}{σ:St}{H:Hp}{s:fZ}
theorem yt9 {N':List Str}{fr:List Nat}(I:Inv X pins σ H s)(hf:∀b∈fp,A5 X pins H b)(hob:∀b∈fp,∃o,s.heap.get? b=some o)
  (hok:yj2 scope X.env.scope x (N'.drop own)) (hx0:N'[0]?=some x) (own1:own=1) (hfr:fr.map (λj=>X.N[j]?)=(N'.drop own).map some) (hown:own<=N'.length)
  (hh₁:(s.heap.push { cls:=.type "dict",data:=.dict #[] }).push { cls:=.type "cell",data:=.cell none }=h₁) :
  Inv (U7 X N' x scope s.heap.objs.size s H fp) [] (P3 own fr σ) H { s with heap:=h₁,toks:=t }:=by
 have cellsSub:∀y c,(za1 X.env.cells scope.names).lookup y=some c->X.env.cells.lookup y=some c:=λy c e =>
  zg4 (λz hz hk=>I.ok.has z.1 (hok.free z hz hk)) (λz c e=>by cases e) y c e
 have up:∀b o,s.heap.get? b=some o->h₁.get? b=some o:=λb o e=>by rw[←hh₁];exact ao _ (ao _ e)
 have hlen:fr.length=(N'.drop own).length:=by
  have:=congrArg List.length hfr
  simpa using this
 have lk:∀y c,((x,s.heap.objs.size+1)::za1 X.env.cells scope.names).lookup y=some c->(y=x/\c=s.heap.objs.size+1)∨(y≠x/\(za1 X.env.cells scope.names).lookup y=some c):=λy c e=>by
  rw[bh]at e
  by_cases h:(y==x)=true
  ·rw[h]at e
   cases e
   exact .inl ⟨by simpa using h,rfl⟩
  ·have h0:(y==x)=false:=by simpa using h
   rw[h0]at e
   exact .inr ⟨by simpa using h0,e⟩
 have old:∀y c,(za1 X.env.cells scope.names).lookup y=some c->c<s.heap.objs.size:=λy c e=>by
  obtain⟨v,z⟩:=I.cell y c (cellsSub y c e)
  exact z.lt
 have ns₁:h₁.Ns s.heap.objs.size (λ_=>none):=by rw[←hh₁];exact(Heap.Ns.new s.heap (.type "dict")).keeps λb o e=>ao _ e
 have cell₁:h₁.IsCell (s.heap.objs.size+1) none:=by
  rw[←hh₁,show s.heap.objs.size+1=(s.heap.push { cls:=.type "dict",data:=.dict #[] }).objs.size from(dv ..).symm]
  exact⟨_,aB _ rfl,rfl⟩
 have okX:(U7 X N' x scope s.heap.objs.size s H fp).Ok :=
  {mod:=I.ok.mod
   kind:=hok.kind
   glob:=I.ok.glob
   blt:=I.ok.blt
   above:=ag _
   inj:=λy z c e1 e2=>by
    rcases lk y c e1 with⟨h1,h2⟩|⟨h1,h2⟩
    ·rcases lk z c e2 with⟨h3,h4⟩|⟨h3,h4⟩
     ·rw[h1,h3]
     ·exact absurd (h2 ▸ old z c h4) (dX.mpr (bU _))
    ·rcases lk z c e2 with⟨h3,h4⟩|⟨h3,h4⟩
     ·exact absurd (h4 ▸ old y c h2) (dX.mpr (bU _))
     ·exact I.ok.inj y z c (cellsSub y c h2) (cellsSub z c h4)
   has:=λy hk=>by
    show ∃c,((x,s.heap.objs.size+1)::za1 X.env.cells scope.names).lookup y=some c
    rw[bh]
    by_cases hyx:(y==x)=true
    ·rw[hyx]
     exact⟨_,rfl⟩
    have hy0:(y==x)=false:=by simpa using hyx
    rw[hy0]
    have hne:y≠x:=by simpa using hy0
    have hk':(relabel scope X.env).names.lookup y=some .cell∨(relabel scope X.env).names.lookup y=some .free:=hk
    have key:(y,NameKind.free)∈scope.names:=by
     have all:∀(l:List (Str×NameKind)),(∀z∈l,z.2=.cell->z.1=x)->((l.map λ(n,k)=>if (k==NameKind.free&&X.env.scope.kind == .function&&X.env.kindOf n==some .cell) then(n,NameKind.cell) else(n,k)).lookup y=some .cell ∨
       (l.map λ(n,k)=>if (k==NameKind.free&&X.env.scope.kind == .function&&X.env.kindOf n==some .cell) then(n,NameKind.cell) else(n,k)).lookup y=some .free)->(y,NameKind.free)∈l:=by
      intro l
      induction l with
      | nil=>intro _ h;rcases h with h|h <;> cases h
      | cons p r ih =>
       obtain⟨n,k⟩:=p
       intro hc h
       have hr:∀z∈r,z.2=.cell->z.1=x:=λz hz=>hc z (av _ hz)
       have hkc:k=.cell->n=x:=hc (n,k) ax
       rw[aQ]at h
       by_cases hx:(y==n)=true
       ·have hx':y=n:=by simpa using hx
        subst hx'
        by_cases hk:k=.free
        ·subst hk
         exact ax
        ·exfalso
         have hb:(k==NameKind.free)=false:=by simpa using hk
         simp[hb,bh]at h
         rcases h with h|h
         ·exact hne (hkc h)
         ·exact hk h
       ·have hx0:(y==n)=false:=by simpa using hx
        refine av _ (ih hr ?_)
        by_cases hc:(k==NameKind.free&&X.env.scope.kind == .function&&X.env.kindOf n==some .cell)=true
        ·simp only[hc,if_true,bh,hx0]at h
         exact h
        ·have hc':(k==NameKind.free&&X.env.scope.kind == .function&&X.env.kindOf n==some .cell)=false:=by simpa using hc
         simp only[hc',bN,if_false,bh,hx0]at h
         exact h
     exact all scope.names hok.cell hk'
    exact L4 (.inl key)
   cab:=λy c e1 e2=>by
    rcases lk y c e2 with⟨_,h2⟩|⟨h1,_⟩
    ·show s.heap.objs.size<=c
     lia
    ·exact absurd (by simpa using(show(y==x)=true from e1)) h1
   hd:=I.ok.hd
   frames:=I.ok.frames
   stk:=.inl rfl
   exf:=λb hb=>by
    obtain⟨o,ho⟩:=hob b hb
    have hlt:=az ho
    refine⟨λe=>absurd hlt (by rw[e];exact aY _),λy c e=>?_⟩
    rcases lk y c e with⟨_,h2⟩|⟨_,h2⟩
    ·rw[h2]
     exact λe=>absurd (e ▸ hlt) (dX.mpr (bU _))
    ·exact(hf b hb).2.2.2.2.1 y c (cellsSub y c h2)
   bs:=I.bs
   bsz:=aO I.ok.bsz I.sz
   noex:=λb o e hb=>by
    rcases (hf b hb).2.2.2.1 with z|z
    ·exact I.ok.noex b o e z
    ·exact absurd (az (I.ok.bs b o e).1) (dX.mpr z)
   exfs:=λb hb z=>by
    rcases aw.mp (I.stkSub b z) with e|e
    ·exact(hf b hb).2.1 e
    ·exact(hf b hb).2.2.1 e
   funs:=I.stack
   frf:=I.stkFree }
 refine⟨okX,rfl,I.bare,Un.kept up,⟨_,ns₁,λi y v e1 e2 e3=>?_⟩,λy c e=>?_,I.hok.fresh (ag _),λy c e=>?_,λp hp=>(by cases hp),I.hok.kept up,?_⟩
 ·have e2':(List.replicate own none++fr.map λj=>(σ[j]?).getD none)[i]?=some (some v):=e2
  by_cases hi:i<own
  ·rw[aN (by simpa using hi),cF]at e2'
   rw[if_pos hi]at e2'
   cases e2'
  ·rw[aX (by simpa using cH hi),ck,af]at e2'
   cases hj:fr[i-own]? with
   | none=>rw[hj]at e2';cases e2'
   | some j =>
    rw[hj]at e2'
    have e4:(σ[j]?).getD none=some v:=by simpa using e2'
    have e5:σ[j]?=some (some v):=by
     cases q:σ[j]? with
     | none=>rw[q]at e4;cases e4
     | some z=>rw[q]at e4;simpa using e4
    have e6:N'[own+(i-own)]?=some y:=by
     rw[show own+(i-own)=i by lia]
     exact e1
    have e7:(N'.drop own)[i-own]?=some y:=by rw[cM];exact e6
    have e8:X.N[j]?=some y:=by
     have q:=congrArg (λl=>l[i-own]?) hfr
     simp only[af,hj,e7,cJ]at q
     simpa using q
    have hx:=hok.fr y (aq e7)
    have hmem:=mem_of_lookup hx
    have hout:=hok.free _ hmem rfl
    have hyx:y≠x:=hok.nofree _ hmem rfl
    obtain⟨mX,_,hl⟩:=I.loc
    obtain⟨u,r,l⟩:=hl j y v e8 e5 (.inr hout)
    refine⟨u,r,?_⟩
    rcases l with⟨k,_⟩|⟨_,c,ec,z⟩
    ·have k':X.env.scope.names.lookup y=some .local:=k
     rcases hout with q|q <;> (have q':X.env.scope.names.lookup y=_:=q;rw[k']at q';cases q')
    ·obtain⟨c',ec'⟩:=L4 (cells:=X.env.cells) (cs:=[]) (.inl hmem)
     have q:=cellsSub y c' ec'
     rw[ec]at q
     cases q
     obtain⟨o,ho,hd⟩:=z
     refine .inr ⟨W6 hx,c,?_,o,up c o ho,hd⟩
     show((x,s.heap.objs.size+1)::za1 X.env.cells scope.names).lookup y=some c
     rw[bh,show(y==x)=false by simpa using hyx]
     exact ec'
 ·rcases lk y c e with⟨_,h2⟩|⟨_,h2⟩
  ·rw[h2]
   exact⟨_,cell₁⟩
  ·obtain⟨v,o,ho,hd⟩:=I.cell y c (cellsSub y c h2)
   exact⟨v,o,up c o ho,hd⟩
 ·rcases lk y c e with⟨_,h2⟩|⟨_,h2⟩
  ·rw[h2]
   exact I.hok.fresh (bU _)
  ·exact I.freeC y c (cellsSub y c h2)
 ·show(List.replicate own none++fr.map λj=>(σ[j]?).getD none).length=N'.length
  rw[ah,ck,aa,hlen,bP]
  lia
end
section
variable {X:Cx}{own:Nat}{fr:List Nat}{N':List Str}{tg iter elt:Expr}{scope:Scope}{pos:Pos}{wi:TI}{g:CT TG}{te:CT TE}
theorem yt1 {σ:St}{Q:Addr->Hp->Prop}{use:Option (Value->Sem Unit)}{Q':Value->fZ->Prop}{pos':Pos}(hc:X.calm=true)(hi:PI X tg iter wi)(hg:∀C s₃ H₃ fp,PG (U7 X N' xn scope C s₃ H₃ fp) tg (g C s₃ H₃ fp))(he:∀C s₃ H₃ fp,PE (U7 X N' xn scope C s₃ H₃ fp) elt (te C s₃ H₃ fp))
  (hok:yj2 scope X.env.scope xn (N'.drop own)) (hx0:N'[0]?=some xn) (own1:own=1) (hcf:∀n acc,cellsFrom n scope.names acc=(xn,n)::acc) (hpf:∀h,pushCells h scope.names=h.push { cls:=.type "cell",data:=.cell none }) (hfr:fr.map (λj=>X.N[j]?)=(N'.drop own).map some) (hown:own<=N'.length) (hs:∀x,foldedSetIterable iter X.env x=pure x)
  (I:Inv X pins σ H s) (h:yn7 own fr wi g te σ H Q)
  (fin:∀D C m H' s',Inv X pins σ H' s'->s'.heap.Ns C m->xn6 X pins H' C->Q D H'->compPost (gn X.prog X.w) X.A X.xe use Q' (.ref D) C (.ok .next) s') :
  gh (gn X.prog X.w) X.A (comprehension (.ListComp elt [⟨tg,iter,[],0⟩] scope pos) scope X.env pos' (newList []) false (eval iter X.env) use) Q' X.xe s:=by
 refine wpAny_comprehension_free rfl hs (D4 λy hy hk=>I.ok.has y.1 (hok.free y hy hk)) hok.kind hok.loc (thn (hi pins s σ H _ I h) λxv s1 h1=>thn h1 λitv s2 h2=>?_)
 obtain⟨it,fp,tn,J,H2,e,I2,T,st2,f2,body⟩:=h2
 subst e
 refine wpAny_newList (items:=[]) ?_
 have hD:H2 s2.heap.objs.size=none:=I2.hok.fresh (ag _)
 have I3:Inv X pins σ (upd H2 s2.heap.objs.size (.lst [])) { s2 with heap:=s2.heap.push { cls:=.type "list",data:=.seq ([]:List Value).toArray } }:=I2.lnew (its:=[]) (t':=s2.toks) .nil (by decide)
 obtain⟨W,⟨m0,w0⟩,turn⟩:=body _ hD
 generalize hDD:s2.heap.objs.size=D at hD I3 w0 turn ⊢
 have up3:∀b o,s2.heap.get? b=some o->(s2.heap.push { cls:=.type "list",data:=.seq ([]:List Value).toArray }).get? b=some o:=λb o e=>ao _ e
 have st3:tn 0 (s2.heap.push { cls:=.type "list",data:=.seq ([]:List Value).toArray }):=T.keep _ _ _ st2 λb _ o e=>up3 b o e
 have fpne:∀b∈fp,b≠D:=λb hb e=>by
  obtain⟨o,ho,_⟩:=T.obj _ _ st2 b hb
  rw[e,←hDD]at ho
  exact absurd (az ho) (aY _)
 have f3:∀b∈fp,A5 X pins (upd H2 D (.lst [])) b:=λb hb=>⟨by rw[z6 (fpne b hb)];exact(f2 b hb).1,(f2 b hb).2⟩
 generalize hs3:({ s2 with heap:=s2.heap.push { cls:=.type "list",data:=.seq ([]:List Value).toArray } }:fZ)=s3 at I3 ⊢
 have st3':tn 0 s3.heap:=by rw[←hs3];exact st3
 generalize upd H2 D (.lst [])=H3 at I3 f3 w0
 have hob:∀b∈fp,∃o,s3.heap.get? b=some o:=λb hb=>let ⟨o,ho,_⟩:=T.obj _ _ st3' b hb;⟨o,ho⟩
 refine xj8 hcf hpf ?_
 generalize hh₁:(s3.heap.push { cls:=.type "dict",data:=.dict #[] }).push { cls:=.type "cell",data:=.cell none }=h₁
 have up4:∀b o,s3.heap.get? b=some o->h₁.get? b=some o:=λb o e=>by rw[←hh₁];exact ao _ (ao _ e)
 have I4:=yt9 (N':=N') (own:=own) (fr:=fr) (scope:=scope) (t:=s3.toks) I3 f3 hob hok hx0 own1 hfr hown hh₁
 have st4:tn 0 h₁:=T.keep _ _ _ st3' λb _ o e=>up4 b o e
 have stat:∀{H':Hp} ,(∀b∈fp,H' b=none)->∀b∈fp,A5 (U7 X N' xn scope s3.heap.objs.size s3 H3 fp) [] H' b:=λhn b hb=>by
  refine⟨hn b hb,(I4.ok.exf b hb).1,I4.ok.exfs b hb,.inl hb,(I4.ok.exf b hb).2,λp hp=>by cases hp⟩
 have loop:codeAny (gn X.prog X.w) X.A (.compLoop (.ListComp elt [⟨tg,iter,[],0⟩] scope pos) 0 (.ref it) (.ref D) (U7 X N' xn scope s3.heap.objs.size s3 H3 fp).env)
   (compPost (gn X.prog X.w) X.A X.xe use Q' (.ref D) s3.heap.objs.size) { s3 with heap:=h₁,toks:=s3.toks }:=by
  refine Q6 (λn s'=>∃i σ' H',Inv (U7 X N' xn scope s3.heap.objs.size s3 H3 fp) [] σ' H' s'/\tn i s'.heap/\(∀b∈fp,H' b=none)/\W i n σ' H') ?_ m0 ⟨0,_,H3,I4,st4,λb hb=>(f3 b hb).1,w0⟩
  rintro n s5 ⟨i,σ5,H5,I5,st5,fr5,w5⟩
  rcases turn i n σ5 H5 w5 with⟨stop,q⟩|⟨go,step⟩
  ·refine thn (T.done (U7 X N' xn scope s3.heap.objs.size s3 H3 fp) rfl rfl rfl hc i [] s5 σ5 H5 _ I5 (stat fr5) st5 stop) λr s6 ⟨hr,I6⟩=>?_
   subst hr
   obtain⟨m6,hn6,_⟩:=I6.loc
   have I7:Inv X pins σ H5 s6:=I3.call' (ch:=fp) (by have:=I6.os;exact this) I6.base I6.hok I6.bare λb hb=>⟨(f3 b hb).2.2.2.1,(f3 b hb).2.1,(f3 b hb).2.2.2.2.1,(f3 b hb).2.2.2.2.2⟩
   refine fin D s3.heap.objs.size m6 H5 s6 I7 hn6 ⟨I6.free,cY I3.lt,I3.sz,λx c e z=>?_,λp hp z=>?_⟩ q
   ·obtain⟨v,z1⟩:=I3.cell x c e
    exact absurd z1.lt (by rw[z];exact aY _)
   ·exact absurd (az (I3.pin p hp).1) (by rw[z];exact aY _)
  ·refine thn (T.item (U7 X N' xn scope s3.heap.objs.size s3 H3 fp) rfl rfl rfl hc i [] s5 σ5 H5 _ I5 (stat fr5) st5 go) λr s6 ⟨u,hr,h6⟩=>?_
   subst hr
   refine thn h6 λ_ s7 ⟨x,H7,I7,r7,y7,st7,fr7⟩=>?_
   have I7':=I7.pinned (stat fr7) (T.obj _ _ st7)
   refine gw (hg _ _ _ _ _ s7 σ5 H7 x u _ I7' r7 (step x H7 y7 _ _ _ _)) (λ_ s8 ⟨σ8,H8,I8,N,q8,hN⟩=>?_) λ_ _ z=>z.elim
   refine gw (he _ _ _ _ _ s8 σ8 H8 N I8 q8) (λyv s9 ⟨y,H9,I9,r9,n9⟩=>?_) λ_ _ z=>z.elim
   obtain⟨ys,m',hD9,hlt,hm,w9⟩:=hN y H9 n9
   refine gw (X2 (X:=U7 X N' xn scope s3.heap.objs.size s3 H3 fp) _ s9 σ8 H9 (.ref D) [y] (.ref D) [yv] (λ_ H'=>H'=upd H9 D (.lst (ys++[y]))) I9 rfl (.cons r9 .nil) ⟨D,ys,y,rfl,rfl,hD9,hlt,rfl⟩) (λ_ s10 ⟨_,H10,I10,_,q10⟩=>?_) λ_ _ z=>z.elim
   subst q10
   have pin:=λb hb o e=>I10.pin (b,o) (aG _ (aG _ (J0 (h:=s7.heap) (fp:=fp) hb e)))
   refine⟨m',hm,i+1,σ8,_,I10.unpinned,T.keep _ _ _ st7 λb hb o e=>(pin b hb o e).1,λb hb=>?_,w9⟩
   obtain⟨o,e,d⟩:=T.obj _ _ st7 b hb
   exact(pin b hb o e).2.1
 exact codeAny_compStart_list loop (T.self X.A 0 _ _ _ st4 loop)
theorem yv4 (fr:List Nat)(N':List Str)(hc:X.calm=true)(hi:PI X (.Name x px) iter wi)(he:∀C s₃ H₃ fp,PE (U7 X N' x scope C s₃ H₃ fp) elt (te C s₃ H₃ fp))(hN:N'.Nodup:=by decide +kernel)(h0:N'[0]?=some x:=by rfl)
  (hcf:∀n acc,cellsFrom n scope.names acc=(x,n)::acc:=by intros;rfl) (hpf:∀h,pushCells h scope.names=h.push { cls:=.type "cell",data:=.cell none }:=by intros;rfl) (hl:(relabel scope X.env).names.lookup x=some .cell:=by rfl)
  (hok:yk2 scope X.env.scope x (N'.drop 1)=true:=by rfl) (hfr:fr.map (λj=>X.N[j]?)=(N'.drop 1).map some:=by rfl) (hown:1<=N'.length:=by decide) (hs:∀x,foldedSetIterable iter X.env x=pure x:=by intro _;rfl) :
  PE X (.ListComp elt [⟨.Name x px,iter,[],0⟩] scope pos) (yi6 1 fr wi (λ_ _ _ _=>Q8 0) te):=by
 intro pins s σ H Q I h
 rw[eval_ListComp]
 refine yt1 (use:=none) (xn:=x) hc hi (λC s₃ H₃ fp=>o5 (i:=0) hN h0 (.inr hl) (hf:=.inl (by show(x==x)=true;simp))) he (ys8 hok) h0 rfl hcf hpf hfr hown hs I h λD C m H' s' I' hn sp q=>?_
 refine⟨m,hn,λh' sb=>⟨.ref D,H',?_,rfl,q⟩⟩
 exact I'.turned (t':=s'.toks) (λb o hb e=>(sb.2 b hb).trans e) sp.1 sp.2.1 (.inr sp.2.2.1) sp.2.2.2.1 sp.2.2.2.2
end
section
variable {pr:gf}{wd:gq}{κ:Type}[DecidableEq κ]{kh:HeapKind pr wd κ}
theorem xh2 (d:Addr)(ne:(d==sysModules)=false):MeetsIn pr wd (Builtin.«dict.__len__» ⟨[.ref d],[]⟩) (λ_ R s=>∃xs,s.heap.DictOfH kh d xs/\R (.ok (.ret (.int xs.length s.toks))) { s with toks:=s.toks+1 }) :=
 .of_wp λA R s ⟨xs,hx,q⟩=>by
  obtain⟨ob,en,ep,h1,h2,h3,h4,h5⟩:=hx
  show gh _ _ (dictSize d >>= _) _ _ s
  unfold dictSize
  refine fY (fY (wpAny_dictEntries h1 h3 (gc ?_)))
  show gh _ _ (Builtin.Dict.pendingCount d >>= _) _ _ s
  refine fY (wpAny_pendingCount_other ne (wpAny_ret_mkInt ?_))
  have e:en.size=xs.length:=size_of_entries h4
  rw[fW,e];exact q
theorem xn0 {A:gu}{E:Value->fZ->Prop}{s:fZ}{d:Addr}{xs:List (κ×Addr×Value)}{Q:Value->fZ->Prop}(ne:(d==sysModules)=false)(hx:s.heap.DictOfH kh d xs)(fit:(xs.length:Int)<2 ^ 63)(q:Q (.int xs.length (s.toks+1)) { s with toks:=s.toks+1+1 }) :
  gh (gn pr wd) A (call (.builtin "len") [.ref d]) Q E s:=by
 refine Calls.call_function_entry kind_len plain_len entry_len (args_len1 _) ?_
 unfold Builtin.«len»
 refine fY (m:=oneArg "len" _) (gc ?_)
 refine fY (m:=callSpecial? (.ref d) (Str.ofString "__len__")) (wpAny_callSpecial?_slot (name:=Str.ofString "__len__") hx.typeIs F.slot_dict_len (call_meetsIn F.slot_dict_len hx.typeIs F.entry_dict_len (F.args_dict_len_1 _) (xh2 (kh:=kh) d ne) ⟨xs,hx,?_⟩))
 show gh _ _ _ _ _ { s with toks:=s.toks+1 }
 refine fY (gv (gc (fY (wpAny_letGo ?_))))
 show gh _ _ (if ((xs.length:Nat):Int)<0 then _ else _) _ _ _
 rw[if_neg (show ¬((xs.length:Nat):Int)<0 by lia)]
 show gh _ _ (if ((xs.length:Nat):Int) ≥ 2 ^ 63 then _ else _) _ _ _
 rw[if_neg (show ¬((xs.length:Nat):Int) ≥ 2 ^ 63 by lia)]
 exact fY (wpAny_mkInt (gc ⟨_,rfl,q⟩))
end
section
variable {X:Cx}
theorem xr0 {kvs:List (List Key×V)}{xs:List (List Key×Addr×Value)}(h:KT H kvs xs):kvs.length=xs.length:=Paired.length h
theorem yc8:T9 X (.builtin "len") (λxs H Q=>∃a kvs,xs=[V.ref a]/\H a=some (.dT kvs)/\Q (.int kvs.length) H):=by
 intro pins s σ H xs us Q I r h
 obtain⟨a,kvs,rfl,ha,q⟩:=h
 obtain⟨u,rfl,ru⟩:=N6 r
 cases ru
 obtain⟨z,ne,ys,rel,dd⟩:=yy4 I.hok ha
 have hl:=xr0 rel
 refine xn0 ne dd (by rw[←hl];rw[sizeLine_eq]at z;lia) ⟨.int kvs.length,H,I.tok _,⟨_,by rw[hl]⟩,q⟩
theorem za0:T9 X (.builtin "isinstance") (λxs H Q=>∃(ea C D:Addr) (b:Bool),xs=[.ref ea,.ref D]/\H ea=some (zx2 ea C)/\zk5 X.K C/\W.kitOne X.K (.ref C) (.ref D)=some b/\Q (.bl b) H):=by
 intro pins s σ H xs us Q I r h
 obtain⟨ea,C,D,b,rfl,hH,ask,e,q⟩:=h
 obtain⟨u,w',rfl,rx,rc⟩:=xh5 r
 cases rc
 cases rx
 obtain⟨⟨o,ho,hc⟩,_⟩:=I.hok ea _ hH
 exact W.kia_one (xa9 ask) I.kIn ⟨o,ho,hc⟩ e (λz=>nomatch z) λtk=>⟨.bl b,H,I.tok tk,rfl,q⟩
end
end L2
namespace Tb.SO
end Tb.SO
namespace L2
open PySem PySem.Spec PyProof.Rows
section
variable {prog:gf}{w:gq}{A:gu}{E:Value->fZ->Prop}{s:fZ}
end
section
variable {X:Cx}{pins:List (Addr×Obj)}{σ:St}{H H':Hp}{s:fZ}{h':Heap}
end
section
variable {X:Cx}
end
section
variable {X:Cx}{pins:List (Addr×Obj)}{σ:St}{H:Hp}{s:fZ}
end
section
variable {X:Cx}{tg:Expr}
end
section
variable {prog:gf}{w:gq}{A:gu}{E:Value->fZ->Prop}{s:fZ}
end
section
variable {X:Cx}{pins:List (Addr×Obj)}{σ:St}{H:Hp}{s:fZ}
end
section
variable {X:Cx}
end
namespace RepN
open PySem.Builtin
end RepN
section
variable {X:Cx}
end
end L2
namespace L2
open PySem PySem.Spec PyProof.Rows
section
variable {prog:gf}{w:gq}{A:gu}{E:Value->fZ->Prop}{s:fZ}
theorem xc6 {es:Array DictEntry}{od:Obj}{en:DictEntry}{Q:Option Value->fZ->Prop}(hI:s.heap.IsKeyIter it d i n ep)(gd:s.heap.get? d=some od)(dd:od.data=.dict es ep)(zn:es.size=n)(gi:es[i]?=some en)
  (q:∀h',h'.IsKeyIter it d (i+1) n ep->Heap.SameBut it s.heap h'->Q (some en.key) { s with heap:=h' }):gh (gn prog w) A (pyNext (.ref it)) Q E s:=by
 obtain⟨o,ho,hc,hd⟩:=id hI
 have own:Builtin.Dict_items.ownsTuple "dict_keyiterator"=false:=by decide
 unfold pyNext
 refine fY (wpAny_attempt (wpAny_callSpecial?_slot (name:=Str.ofString "__next__") hI.typeIs F.slot_dict_keyiterator_next (wpAny_call_entry F.slot_dict_keyiterator_next hI.typeIs F.entry_dict_keyiterator_next ?_ (F.args_dict_keyiterator_next_1 _))))
 refine fY (gc (fY (fY (fY (wpAny_typeNameOfWhole_keyiter hI.typeIs (gc (fY (wpAny_fieldsOf ho hd ?_))))))))
 simp only[own,bN,if_false]
 show gh _ _ (if (Value.ref d==Value.none)=true then _ else _) _ _ s
 rw[if_neg (λz:(Value.ref d==Value.none)=true=>by cases z)]
 refine fY (gc (fY (wpAny_dictEntries gd dd ?_)))
 rw[if_neg (by rw[zn];simp)]
 refine fY (gc (fY (wpAny_dictEpoch gd dd ?_)))
 rw[if_neg (by simp)]
 refine gc ?_
 simp only[show ¬((i:Int)<0) from bS.mpr (dY i),if_false,cU,gi]
 refine fY (fY (wpAny_typeNameOfWhole_keyiter hI.typeIs (gc (fY (wpAny_isOneOf_keyiter hI.typeIs ?_)))))
 show gh _ _ (setField (.ref it) 1 (rawInt ((i:Int)+1)) >>= _) _ _ s
 refine fY (wpAny_setField ho hd (by simp) ?_)
 have h2:(s.heap.update it (Obj.mapFields (·.setIfInBounds 1 (rawInt ((i:Int)+1))))).IsKeyIter it d (i+1) n ep :=
  ⟨_,Heap.get?_update_self _ ho (Obj.isFreed_of_fields (Obj.data_mapFields hd _)),(Obj.cls_mapFields ..).trans hc,by rw[Obj.data_mapFields hd];simp[rawInt]⟩
 refine fY (gv (fY (wpAny_isOneOf_keyiter (s:={ s with heap:=s.heap.update it (Obj.mapFields (·.setIfInBounds 1 (rawInt ((i:Int)+1)))) }) h2.typeIs ?_)))
 show gh _ _ (pure en.key) _ _ _
 exact gc (gc ⟨_,rfl,gc (q _ h2 (Heap.SameBut.update ..))⟩)
theorem xi5 {es:Array DictEntry}{od:Obj}{Q:Option Value->fZ->Prop}(hh:A.handled=none)(hI:s.heap.IsKeyIter it d i n ep)(gd:s.heap.get? d=some od)(dd:od.data=.dict es ep)(zn:es.size=n)(gi:es[i]?=none)
  (q:∀h',Heap.ExtBut it s.heap h'->Q none { s with heap:=h' }):gh (gn prog w) A (pyNext (.ref it)) Q E s:=by
 obtain⟨o,ho,hc,hd⟩:=id hI
 have own:Builtin.Dict_items.ownsTuple "dict_keyiterator"=false:=by decide
 unfold pyNext
 refine fY (wpAny_attempt (wpAny_callSpecial?_slot (name:=Str.ofString "__next__") hI.typeIs F.slot_dict_keyiterator_next (wpAny_call_entry F.slot_dict_keyiterator_next hI.typeIs F.entry_dict_keyiterator_next ?_ (F.args_dict_keyiterator_next_1 _))))
 refine fY (gc (fY (fY (fY (wpAny_typeNameOfWhole_keyiter hI.typeIs (gc (fY (wpAny_fieldsOf ho hd ?_))))))))
 simp only[own,bN,if_false]
 show gh _ _ (if (Value.ref d==Value.none)=true then _ else _) _ _ s
 rw[if_neg (λz:(Value.ref d==Value.none)=true=>by cases z)]
 refine fY (gc (fY (wpAny_dictEntries gd dd ?_)))
 rw[if_neg (by rw[zn];simp)]
 refine fY (gc (fY (wpAny_dictEpoch gd dd ?_)))
 rw[if_neg (by simp)]
 refine gc ?_
 simp only[show ¬((i:Int)<0) from bS.mpr (dY i),if_false,cU,gi]
 refine fY (fY (wpAny_typeNameOfWhole_keyiter hI.typeIs (gc ?_)))
 show gh _ _ (setField (.ref it) 0 .none >>= _) _ _ s
 refine fY (wpAny_setField ho hd (by simp) ?_)
 show gh _ _ (newExc (.type "StopIteration") [] >>= _) _ _ _
 refine fY ?_
 simp only[newExc,newTuple]
 refine fY (wpAny_newObj_type (fY (m:=firstArgMember _ _) (wpAny_of_eq (a:=Value.none) (by first|rfl|(simp only[firstArgMember];rfl)) (wpAny_newObj_type ?_ (by size_fits)))) (by size_fits))
 simp only[raiseNew]
 refine fY (wpAny_handled ?_)
 rw[show A.in1.handled=none from hh]
 refine fY (gc (wpAny_throw ?_))
 refine fY (wpAny_isInstance (b:=true) (T:="StopIteration") ⟨_,aB _ rfl,rfl⟩ isSubtype_stop ?_)
 exact gc (q _ (((Heap.SameBut.update ..).extBut.push _).push _))
theorem xa7 {es:Array DictEntry}{od:Obj}{Q:Value->fZ->Prop}(lo:(d==sysModules)=false)(gd:s.heap.get? d=some od)(cd:od.cls=.type "dict")(dd:od.data=.dict es ep)
  (q:Q (.ref s.heap.objs.size) { s with heap:=s.heap.push { cls:=.type "dict_keyiterator",data:=.fields #[.ref d,.int 0 0,.int es.size 0,.int ep 0] } }):gh (gn prog w) A (pyIter (.ref d)) Q E s:=by
 have tD:s.TypeIs (.ref d) "dict":=⟨_,gd,cd⟩
 refine wpAny_pyIter_slot tD F.slot_dict_iter (wpAny_call_entry F.slot_dict_iter tD F.entry_dict_iter ?_ (F.args_dict_iter_1 _))
 unfold Builtin.«dict.__iter__»
 refine fY ?_
 unfold Builtin.Dict.dictSlotNone
 refine fY (wpAny_notOrdered_dict tD ?_)
 show gh _ _ (pure (Value.ref d)) _ _ s
 refine gc ?_
 show gh _ _ (Builtin.Dict.showsAll d >>= _) _ _ s
 unfold Builtin.Dict.showsAll
 rw[if_neg (λz=>by rw[lo]at z;cases z)]
 refine fY (gc (fY (wpAny_dictEntries gd dd (fY (wpAny_dictEpoch gd dd ?_)))))
 refine fY (wpAny_newObj_type (gc ⟨_,rfl,"dict_keyiterator",_,⟨_,aB _ rfl,rfl⟩,F.slot_dict_keyiterator_next.lookup,?_⟩))
 simpa[rawInt] using q
theorem yw8 {A:gu}(hh:A.handled=none)(I d:Addr)(hne:d≠I){es:Array DictEntry}{od:Obj}(dd:od.data=.dict es ep) :
  Walks prog w A I [I,d] [I] es.size (λi v=>∃e,es[i]?=some e/\v=e.key) (λi h=>h.IsKeyIter I d i es.size ep/\h.get? d=some od) where
 sub:=λb hb=>by simp at hb;simp[hb]
 frame:=λ_ _ _ st hk=>⟨let ⟨o,ho,r⟩:=st.1;⟨o,hk I (by simp) o ho,r⟩,hk d (by simp) od st.2⟩
 item:=λi s Q E hi st hQ=>by
  have hx:es[i]?=some es[i]:=by simp[hi]
  refine xc6 st.1 st.2 dd rfl hx λh' hit sb=>?_
  exact hQ _ h' s.toks ⟨_,hx,rfl⟩ ⟨hit,sb.extBut d od hne st.2⟩ λb o hb e=>sb.extBut b o (λh=>hb (by simp[h])) e
 done:=λs Q E st hQ=>xi5 hh st.1 st.2 dd rfl (by simp) λh' he'=>hQ h' s.toks λb o hb e=>he' b o (λh=>hb (by simp[h])) e
 self:=λ_ _ _ _ st hQ=>wpAny_pyIter_keyiter st.1 hQ
theorem xg7 {es:Array DictEntry}{od:Obj}(lo:(d==sysModules)=false)(cd:od.cls=.type "dict")(dd:od.data=.dict es ep) :
  W.KdlSrc prog w "dict" d d es.size (λi v=>∃e,es[i]?=some e/\v=e.key) (λh=>h.get? d=some od) where
 type:=λ_ hm=>⟨_,hm,cd⟩
 there:=λ_ hm=>⟨az hm,az hm⟩
 keep:=λ_ _ hm hk=>hk d (.inl rfl) _ hm
 notList:=by decide
 notTuple:=by decide
 hint:=λ_ _ _ _ hm hq=>W.kdl_hint_dict ⟨_,hm,cd⟩ hq
 iter:=λ_ _ hh hm=>⟨_,_,(λ_ _ hq=>xa7 lo hm cd dd hq),yw8 hh _ d (aU (az hm)) dd,⟨⟨_,aB _ rfl,rfl,rfl⟩,ao _ hm⟩⟩
end
theorem xj2 {kvs:List (List Key×V)}{xs:List (List Key×Addr×Value)}(r:KT H kvs xs):Paired (λ(b:Addr) (k:List Key)=>H b=some (.tup (k.map kV))) (xs.map (·.2.1)) (kvs.map (·.1)):=by
 induction r with
 | nil=>exact .nil
 | cons h _ ih=>exact .cons h.2.1 ih
section
variable {X:Cx}
end
end L2
namespace SortG
open PySem PyProof.Rows
def zc8:Bool->Keyed->Array Keyed->Nat->Nat->Nat->StateT SortSt Sem (Option Nat):=sortPriv% PySem.Builtin.gallop
def xc3:Array Keyed->Array Keyed->StateT SortSt Sem (Array Keyed):=sortPriv% PySem.Builtin.mergeLo
def xc2:Array Keyed->Array Keyed->StateT SortSt Sem (Array Keyed):=sortPriv% PySem.Builtin.mergeHi
section
variable {M:Model}{A:gu}{E:Value->fZ->Prop}{s:fZ}{κ:SortKind}{G:Keyed->Prop}{R:Keyed->Int}
structure Cmp (M:Model) (A:gu) (E:Value->fZ->Prop) (s:fZ) (κ:SortKind) (G:Keyed->Prop) (R:Keyed->Int):Prop where
 lt:∀{x y:Keyed} {st:SortSt} {Q:Option Bool->SortSt->Prop},G x->G y->kindOf st=κ->Q (some (decide (R x<R y))) st->wpS M A E s (lt' x y) Q st
abbrev dk:Keyed:=(Value.none,Value.none)
theorem k8 {arr:Array Keyed}{Q:Keyed->SortSt->Prop}{st:SortSt}(hi:i<arr.size)(h:Q (arr.getD i dk) st):wpS M A E s (elem' arr i) Q st:=by
 rw[elem'_eq,show arr[i]?=some (arr.getD i dk) by simp[Array.getD,hi]]
 exact gD h
def Pre (B:Nat->Bool)(n k:Nat):Prop:=k<=n/\∀i,i<n->(B i=true↔i<k)
theorem Pre.no {f:Nat->Int}{g:Nat->Bool}(h:Pre (λi=>if (false:Bool)=true then g i else !decide (x<f i)) n k):k<=n/\∀i,i<n->(f i<=x↔i<k) :=
 ⟨h.1,λi hi=>by have:=h.2 i hi;simpa using this⟩
theorem Pre.yes {f:Nat->Int}{g:Nat->Bool}(h:Pre (λi=>if (true:Bool)=true then decide (f i<x) else g i) n k):k<=n/\∀i,i<n->(f i<x↔i<k) :=
 ⟨h.1,λi hi=>by have:=h.2 i hi;simpa using this⟩
theorem O0 (c:Cmp M A E s κ G R){arr:Array Keyed}{st:SortSt}{Q:Option Nat->SortSt->Prop}(hk:kindOf st=κ)(hG:∀i,i<n->G (arr.getD (base+i) dk))(hkey:G key)(hsz:base+n<=arr.size)(hh:hint<n)
  (up:∀i j,i<=j->j<n->R (arr.getD (base+i) dk)<=R (arr.getD (base+j) dk))
  (h:∀k,Pre (λi=>if left then decide (R (arr.getD (base+i) dk)<R key) else !decide (R key<R (arr.getD (base+i) dk))) n k->Q (some k) st):wpS M A E s (zc8 left key arr base n hint) Q st:=by
 obtain⟨B,eB⟩:∃B:Nat->Bool,B=λi=>if left then decide (R (arr.getD (base+i) dk)<R key) else !decide (R key<R (arr.getD (base+i) dk)):=⟨_,rfl⟩
 rw[←eB]at h
 have mono:∀i j,i<=j->j<n->B j=true->B i=true:=λi j hij hj hb=>by
  rw[eB]at hb ⊢
  have:=up i j hij hj
  cases left with
  | true =>
   simp only[if_true,decide_eq_true_eq]at hb ⊢
   lia
  | false =>
   simp only[bN,if_false,Bool.not_eq_true',decide_eq_false_iff_not]at hb ⊢
   lia
 have beyond:∀(i:Nat) (Q':Option Bool->SortSt->Prop),i<n->Q' (some (B i)) st->wpS M A E s (elem' arr (base+i) >>= λx=>if left=true then lt' x key else(lt' key x >>= λr=>pure (r.map (λx=>!x)))) Q' st:=λi Q' hi hq=>by
  refine gC (k8 (by lia) ?_)
  have gi:=hG i hi
  rw[eB]at hq
  cases left with
  | true=>exact c.lt gi hkey hk hq
  | false=>exact gC (c.lt hkey gi hk (gD hq))
 have last:∀(lo hi:Nat),lo<=hi->hi<=n->(∀i,i<lo->B i=true)->(∀i,hi<=i->i<n->B i=false)->∀(f:Option (Option Nat)×Nat×Nat->StateT SortSt Sem (Option Nat)) (g:Nat->Option (Option Nat)×Nat×Nat->StateT SortSt Sem (ForInStep (Option (Option Nat)×Nat×Nat))),
   (∀l k,f (none,l,k)=pure (some k))->(∀x l k,l ≥ k->g x (none,l,k)=pure (.done (none,l,k)))->(∀x l k,l<k->k<=n->∀Q',Q' (.yield (if B (l+(k-l) / 2)=true then(none,l+(k-l) / 2+1,k) else(none,l,l+(k-l) / 2))) st->wpS M A E s (g x (none,l,k)) Q' st) ->
   wpS M A E s (forIn [:n] (none,lo,hi) g >>= f) Q st:=λlo hi h1 h2 h3 h4 f g hf hg1 hg2=>by
  refine gC (gE (I:=λj q st'=>∃l k,q=(none,l,k)/\st'=st/\l<=k/\k<=n/\k-l<=n-j/\(∀i,i<l->B i=true)/\(∀i,k<=i->i<n->B i=false)) ?_ ?_ ⟨lo,hi,rfl,rfl,h1,h2,by lia,h3,h4⟩)
  ·rintro j q st' _ hj ⟨l,k,rfl,rfl,b1,b2,b3,b4,b5⟩
   by_cases hlk:l ≥ k
   ·rw[hg1 _ _ _ hlk]
    refine gD ?_
    dsimp only
    rw[hf]
    exact gD (h k ⟨b2,λi hi=>⟨λhb=>Nat.lt_of_not_le λz=>(by rw[b5 i z hi]at hb;cases hb),λhk'=>b4 i (by lia)⟩⟩)
   ·refine hg2 _ _ _ (by lia) b2 _ ?_
    cases e:B (l+(k-l) / 2) with
    | true=>exact⟨_,_,rfl,rfl,by lia,b2,by lia,λi hi=>mono i (l+(k-l) / 2) (by lia) (by lia) e,b5⟩
    | false =>
     refine⟨_,_,rfl,rfl,by lia,by lia,by lia,b4,λi hi hin=>?_⟩
     cases e':B i with
     | false=>rfl
     | true=>rw[mono (l+(k-l) / 2) i hi hin e']at e;cases e
  ·rintro q st' ⟨l,k,rfl,rfl,b1,b2,b3,b4,b5⟩
   rw[hf]
   exact gD (h k ⟨b2,λi hi=>⟨λhb=>Nat.lt_of_not_le λz=>(by rw[b5 i z hi]at hb;cases hb),λhk'=>b4 i (by lia)⟩⟩)
 refine gC (beyond hint _ hh ?_)
 dsimp only
 cases eh:B hint with
 | true =>
  rw[if_pos rfl]
  refine gC (wpS_mono (Q:=λq st'=>∃l o,q=(none,l,o)/\st'=st/\l<o/\B (hint+l)=true/\hint+l<n/\(o ≥ n-hint∨B (hint+o)=false)) (gE (I:=λj q st'=>∃l o,q=(none,l,o)/\st'=st/\j+1<=o/\l<o/\B (hint+l)=true/\hint+l<n) ?_ ?_ ⟨0,1,rfl,rfl,by lia,by lia,by simpa using eh,by lia⟩) ?_)
  ·rintro j q st' _ hj ⟨l,o,rfl,rfl,b1,b2,b3,b4⟩
   dsimp only
   by_cases ho:o ≥ n-hint
   ·rw[if_pos ho]
    exact gD ⟨_,_,rfl,rfl,b2,b3,b4,.inl ho⟩
   ·rw[if_neg ho]
    refine gC (beyond _ _ (by lia) ?_)
    dsimp only
    cases eo:B (hint+o) with
    | true =>
     rw[if_neg (by simp)]
     exact gD ⟨_,_,rfl,rfl,by lia,by lia,eo,by lia⟩
    | false =>
     rw[if_pos (by rfl)]
     exact gD ⟨_,_,rfl,rfl,b2,b3,b4,.inr eo⟩
  ·rintro q st' ⟨l,o,rfl,rfl,b1,b2,b3,b4⟩
   exact⟨_,_,rfl,rfl,b2,b3,b4,.inl (by lia)⟩
  ·rintro q st' ⟨l,o,rfl,rfl,b2,b3,b4,b5⟩
   dsimp only
   refine last _ _ (by lia) (by lia) (λi hi=>mono i (hint+l) (by lia) b4 b3) (λi hi hin=>?_) _ _ (λl k=>rfl) (λx l k hlk=>if_pos hlk) (λx l k hlk hk' Q' hq=>?_)
   ·rcases b5 with b5|b5
    ·lia
    ·cases e:B i with
     | false=>rfl
     | true=>rw[mono (hint+o) i (by lia) hin e]at b5;cases b5
   ·dsimp only
    rw[if_neg (by lia)]
    refine gC (beyond _ _ (by lia) ?_)
    dsimp only
    cases e:B (l+(k-l) / 2) with
    | true=>rw[e]at hq;rw[if_pos rfl]at hq ⊢;exact gD hq
    | false=>rw[e]at hq;rw[if_neg aD]at hq ⊢;exact gD hq
 | false =>
  rw[if_neg aD]
  refine gC (wpS_mono (Q:=λq st'=>∃l o,q=(none,l,o)/\st'=st/\l<o/\l<=hint/\B (hint-l)=false/\(o ≥ hint+1∨B (hint-o)=true)) (gE (I:=λj q st'=>∃l o,q=(none,l,o)/\st'=st/\j+1<=o/\l<o/\l<=hint/\B (hint-l)=false) ?_ ?_ ⟨0,1,rfl,rfl,by lia,by lia,by lia,by simpa using eh⟩) ?_)
  ·rintro j q st' _ hj ⟨l,o,rfl,rfl,b1,b2,b3,b4⟩
   dsimp only
   by_cases ho:o ≥ hint+1
   ·rw[if_pos ho]
    exact gD ⟨_,_,rfl,rfl,b2,b3,b4,.inl ho⟩
   ·rw[if_neg ho]
    refine gC (beyond _ _ (by lia) ?_)
    dsimp only
    cases eo:B (hint-o) with
    | true =>
     rw[if_pos rfl]
     exact gD ⟨_,_,rfl,rfl,b2,b3,b4,.inr eo⟩
    | false =>
     rw[if_neg aD]
     exact gD ⟨_,_,rfl,rfl,by lia,by lia,by lia,eo⟩
  ·rintro q st' ⟨l,o,rfl,rfl,b1,b2,b3,b4⟩
   exact⟨_,_,rfl,rfl,b2,b3,b4,.inl (by lia)⟩
  ·rintro q st' ⟨l,o,rfl,rfl,b2,b3,b4,b5⟩
   dsimp only
   refine last _ _ (by lia) (by lia) (λi hi=>?_) (λi hi hin=>?_) _ _ (λl k=>rfl) (λx l k hlk=>if_pos hlk) (λx l k hlk hk' Q' hq=>?_)
   ·rcases b5 with b5|b5
    ·lia
    ·exact mono i (hint-o) (by lia) (by lia) b5
   ·cases e:B i with
    | false=>rfl
    | true=>rw[mono (hint-l) i (by lia) hin e]at b4;cases b4
   ·dsimp only
    rw[if_neg (by lia)]
    refine gC (beyond _ _ (by lia) ?_)
    dsimp only
    cases e:B (l+(k-l) / 2) with
    | true=>rw[e]at hq;rw[if_pos rfl]at hq ⊢;exact gD hq
    | false=>rw[e]at hq;rw[if_neg aD]at hq ⊢;exact gD hq
def SL (R:Keyed->Int)(l:List Keyed):Prop:=l.Pairwise λx y=>R x<=R y
structure Jn (R:Keyed->Int) (tot out ra rb:List Keyed):Prop where
 perm:(out++ra++rb).Perm tot
 so:SL R out
 sa:SL R ra
 sb:SL R rb
 la:∀x∈out,∀y∈ra,R x<=R y
 lb:∀x∈out,∀y∈rb,R x<=R y
theorem Jn.moveA (j:Jn R tot out (ch++ra) rb)(h:∀x∈ch,∀y∈rb,R x<=R y):Jn R tot (out++ch) ra rb:=by
 have sa:=List.pairwise_append.mp j.sa
 refine⟨by have:=j.perm;simpa[bj] using this,List.pairwise_append.mpr ⟨j.so,sa.1,λx hx y hy=>j.la x hx y (aJ _ hy)⟩,sa.2.1,j.sb,λx hx y hy=>?_,λx hx y hy=>?_⟩
 ·rcases aF.mp hx with z|z
  ·exact j.la x z y (aG _ hy)
  ·exact sa.2.2 x z y hy
 ·rcases aF.mp hx with z|z
  ·exact j.lb x z y hy
  ·exact h x z y hy
theorem Jn.swap (j:Jn R tot out ra rb):Jn R tot out rb ra:=⟨by
 refine List.Perm.trans ?_ j.perm
 rw[bj,bj]
 exact List.Perm.append_left _ List.perm_append_comm,j.so,j.sb,j.sa,j.lb,j.la⟩
theorem Jn.fin (j:Jn R tot out ra rb)(h:∀x∈ra,∀y∈rb,R x<=R y):(out++ra++rb).Perm tot/\SL R (out++ra++rb) :=
 ⟨j.perm,List.pairwise_append.mpr ⟨List.pairwise_append.mpr ⟨j.so,j.sa,j.la⟩,j.sb,λx hx y hy=>by
  rcases aF.mp hx with z|z
  ·exact j.lb x z y hy
  ·exact h x z y hy⟩⟩
structure Sg (st st':SortSt):Prop where
 k:kindOf st'=kindOf st
 a:arrOf st'=arrOf st
 p:pendingOf st'=pendingOf st
 f:failedOf st'=failedOf st
theorem yk8 {α:Type}{p:Prop}[Decidable p]{x y:StateT SortSt Sem α}{Q:α->SortSt->Prop}{st:SortSt}(h1:wpS M A E s x Q st)(h2:wpS M A E s y Q st):wpS M A E s (if p then x else y) Q st:=by
 split
 ·exact h1
 ·exact h2
theorem A2 {Q:Unit->SortSt->Prop}{st:SortSt}(h:Q () st):wpS M A E s (liftM (rule x):StateT SortSt Sem Unit) Q st:=wpS_lift (wpAny_rule ⟨rfl,h⟩)
section
variable {a:Array Keyed}{i k:Nat}
theorem zo0 (h:i<a.size):a.toList.drop i=a.getD i dk::a.toList.drop (i+1):=by
 rw[cy (by simpa using h)]
 simp[Array.getD,h]
theorem zc7:(a.extract i).toList=a.toList.drop i:=by
 rw[Array.toList_extract]
 simp[List.extract]
 rw[bO (by simp)]
theorem zo2:(a.extract i (i+k)).toList=(a.toList.drop i).take k:=by
 rw[Array.toList_extract]
 simp[List.extract]
theorem zf6 (hx:x∈(a.toList.drop i).take k):∃j,j<k/\i+j<a.size/\x=a.getD (i+j) dk:=by
 obtain⟨j,hj,e⟩:=bg.mp hx
 rw[bo,bP,aK]at hj
 refine⟨j,by lia,by lia,?_⟩
 rw[List.getElem_take,List.getElem_drop]at e
 rw[←e]
 simp[Array.getD,show i+j<a.size by lia]
theorem za9 (i k:Nat):a.toList.drop i=(a.toList.drop i).take k++a.toList.drop (i+k):=by
 rw[←fN,ci]
theorem yz0 (h:i+k<=a.size):(a.extract i (i+k)).size=k:=by
 rw[Array.size_extract]
 lia
theorem o0 (h:i<a.size):a.getD i dk∈a.toList:=by
 simp[Array.getD,h]
theorem SL.get {R:Keyed->Int}(u:SL R a.toList)(hij:i<=j)(hj:j<a.size):R (a.getD i dk)<=R (a.getD j dk):=by
 rcases dH i j with h|h
 ·have:=bD.mp u i j (by simp;lia) (by simpa using hj) h
  simpa[Array.getD,hj,show i<a.size by lia] using this
 ·rw[show i=j by lia]
  exact du _
theorem yy3 (hx:x∈a.toList.drop i):∃j,i<=j/\j<a.size/\x=a.getD j dk:=by
 obtain⟨j,hj,e⟩:=bg.mp hx
 rw[bP,aK]at hj
 refine⟨i+j,by lia,by lia,?_⟩
 rw[List.getElem_drop]at e
 rw[←e]
 simp[Array.getD,show i+j<a.size by lia]
end
section
variable {α:Type}{x y:StateT SortSt Sem α}{Q:α->SortSt->Prop}{st:SortSt}
theorem L9 {p:Prop}[Decidable p](h1:p->wpS M A E s x Q st)(h2:¬p->wpS M A E s y Q st):wpS M A E s (if p then x else y) Q st:=by
 by_cases h:p
 ·rw[if_pos h];exact h1 h
 ·rw[if_neg h];exact h2 h
theorem U9 {m n:Nat}(h1:m=n->wpS M A E s x Q st)(h2:m≠n->wpS M A E s y Q st):wpS M A E s (if (m==n)=true then x else y) Q st:=L9 (λh=>h1 (beq_iff_eq.mp h)) (λh=>h2 λz=>h (beq_iff_eq.mpr z))
theorem ye8 {p:Prop}[Decidable p](h1:p->wpS M A E s x Q st)(h2:¬p->wpS M A E s y Q st):wpS M A E s (if decide p=true then x else y) Q st:=L9 (λh=>h1 (of_decide_eq_true h)) (λh=>h2 λz=>h (decide_eq_true z))
theorem xa8 {β:Type}{f:β->StateT SortSt Sem α}{p:Prop}[Decidable p]{x y:β}(h:∀z,wpS M A E s (f z) Q st):wpS M A E s (if p then f x else f y) Q st:=yk8 (h _) (h _)
theorem zy5 {β γ:Type}{f:β->γ->StateT SortSt Sem α}(P:β->γ->Prop)(h:∀b c,P b c->wpS M A E s (f b c) Q st)(k:(∀b c,P b c->wpS M A E s (f b c) Q st)->wpS M A E s x Q st):wpS M A E s x Q st:=k h
end
section
variable {a:Array Keyed}{ia:Nat}{key:Keyed}{st:SortSt}{Q:Option Nat->SortSt->Prop}
theorem xx5 (c:Cmp M A E s κ G R)(hk:kindOf st=κ)(ga:∀x∈a.toList,G x)(hkey:G key)(ua:SL R a.toList)(hia:ia<a.size)(h:∀k,ia+k<=a.size->(∀i,i<k->R (a.getD (ia+i) dk)<=R key)->(ia+k<a.size->R key<R (a.getD (ia+k) dk))->Q (some k) st):wpS M A E s (zc8 false key a ia (a.size-ia) 0) Q st:=by
 refine O0 c hk (λi hi=>ga _ (o0 (by lia))) hkey (by lia) (by lia) (λi j hij hj=>ua.get (by lia) (by lia)) λk hp=>?_
 obtain⟨h1,h2⟩:=hp.no
 exact h k (by lia) (λi hi=>(h2 i (by lia)).mpr hi) λz=>Int.not_le.mp λz'=>aY _ ((h2 k (by lia)).mp z')
theorem xx4 (c:Cmp M A E s κ G R)(hk:kindOf st=κ)(ga:∀x∈a.toList,G x)(hkey:G key)(ua:SL R a.toList)(hia:ia<a.size)(h:∀k,ia+k<=a.size->(∀i,i<k->R (a.getD (ia+i) dk)<R key)->(ia+k<a.size->R key<=R (a.getD (ia+k) dk))->Q (some k) st):wpS M A E s (zc8 true key a ia (a.size-ia) 0) Q st:=by
 refine O0 c hk (λi hi=>ga _ (o0 (by lia))) hkey (by lia) (by lia) (λi j hij hj=>ua.get (by lia) (by lia)) λk hp=>?_
 obtain⟨h1,h2⟩:=hp.yes
 exact h k (by lia) (λi hi=>(h2 i (by lia)).mpr hi) λz=>bS.mp λz'=>aY _ ((h2 k (by lia)).mp z')
end
structure LoI (R:Keyed->Int) (tot:List Keyed) (a b:Array Keyed) (n:Nat) (out:Array Keyed) (ia ib:Nat):Prop where
 jn:Jn R tot out.toList (a.toList.drop ia) (b.toList.drop ib)
 ua:SL R a.toList
 ub:SL R b.toList
 sz:out.size=ia+ib
 hn:n<=out.size
section
variable {a b out:Array Keyed}{n n' ia ib k:Nat}{tot:List Keyed}
theorem LoI.weak (h:LoI R tot a b n out ia ib)(w:n'<=n):LoI R tot a b n' out ia ib:=⟨h.jn,h.ua,h.ub,h.sz,aO w h.hn⟩
theorem LoI.swap (h:LoI R tot a b n out ia ib):LoI R tot b a n out ib ia:=⟨h.jn.swap,h.ub,h.ua,h.sz.trans (fv _ _),h.hn⟩
theorem low (u:SL R a.toList)(hz:z<=R (a.getD ia dk)):∀x∈a.toList.drop ia,z<=R x:=λx hx=>by
 obtain⟨j,h1,h2,rfl⟩:=yy3 hx
 exact cv hz (u.get h1 h2)
theorem LoI.pushA (h:LoI R tot a b n out ia ib)(ha:ia<a.size)(hr:R (a.getD ia dk)<=R (b.getD ib dk)):LoI R tot a b (n+1) (out.push (a.getD ia dk)) (ia+1) ib:=by
 have j:=h.jn
 rw[zo0 ha]at j
 refine⟨?_,h.ua,h.ub,by rw[Array.size_push,h.sz,Nat.add_right_comm],by rw[Array.size_push];exact Nat.succ_le_succ h.hn⟩
 rw[Array.toList_push]
 exact Jn.moveA (ch:=[a.getD ia dk]) j λx hx y hy=>by rw[ar.mp hx];exact low h.ub hr y hy
theorem LoI.extA (h:LoI R tot a b n out ia ib)(hk:ia+k<=a.size)(hr:∀i,i<k->R (a.getD (ia+i) dk)<=R (b.getD ib dk)):LoI R tot a b n (out++a.extract ia (ia+k)) (ia+k) ib:=by
 have j:=h.jn
 rw[za9 ia k]at j
 refine⟨?_,h.ua,h.ub,by rw[Array.size_append,yz0 hk,h.sz,Nat.add_right_comm],by rw[Array.size_append];exact aO h.hn (cI _ _)⟩
 rw[Array.toList_append,zo2]
 refine j.moveA λz hz=>?_
 obtain⟨i,h1,h2,rfl⟩:=zf6 hz
 exact low h.ub (hr i h1)
theorem LoI.fin1 (h:LoI R tot a b n out ia ib)(e:ib=b.size):(out++a.extract ia++b.extract ib).toList.Perm tot/\SL R (out++a.extract ia++b.extract ib).toList:=by
 rw[Array.toList_append,Array.toList_append,zc7,zc7]
 exact h.jn.fin (λx hx y hy=>by rw[e,List.drop_eq_nil_of_le (by simp)]at hy;cases hy)
theorem LoI.fin2 (h:LoI R tot a b n out ia ib)(e:ia+1=a.size)(hl:∀x∈b.toList,R x<R (a.getD (a.size-1) dk)):(out++b.extract ib++a.extract ia).toList.Perm tot/\SL R (out++b.extract ib++a.extract ia).toList:=by
 rw[Array.toList_append,Array.toList_append,zc7,zc7]
 refine h.jn.swap.fin (λx hx y hy=>?_)
 rw[zo0 (by lia),List.drop_eq_nil_of_le (by simp;lia)]at hy
 rw[ar.mp hy,show ia=a.size-1 by lia]
 exact bM (hl x (fy hx))
end
theorem yl7 (c:Cmp M A E s κ G R){a b:Array Keyed}{st:SortSt}{Q:Array Keyed->SortSt->Prop}(hk:kindOf st=κ)(ga:∀x∈a.toList,G x)(gb:∀x∈b.toList,G x)(ua:SL R a.toList)(ub:SL R b.toList)(na:0<a.size)(nb:0<b.size)
  (hf:∀x∈a.toList,R (b.getD 0 dk)<=R x) (hl:∀x∈b.toList,R x<R (a.getD (a.size-1) dk))
  (h:∀(out:Array Keyed) st',Sg st st'->out.toList.Perm (a.toList++b.toList)->SL R out.toList->Q out st'):wpS M A E s (xc3 a b) Q st:=by
 refine gC (A2 (gC (k8 nb ?_)))
 obtain⟨tot,etot⟩:∃tot,tot=a.toList++b.toList:=⟨_,rfl⟩
 rw[←etot]at h
 have j0:LoI R tot a b 1 #[b.getD 0 dk] 0 1:=by
  refine LoI.swap (LoI.pushA (out:=#[]) (n:=0) (ia:=0) (ib:=0) ⟨⟨?_,.nil,ub,ua,λ_ h=>(by cases h),λ_ h=>(by cases h)⟩,ub,ua,rfl,aP _⟩ nb (hf _ (o0 na)))
  rw[etot]
  exact List.perm_append_comm
 have fin1:∀{st':SortSt} {out:Array Keyed} {n ia ib:Nat},Sg st st'->LoI R tot a b n out ia ib->ib=b.size->Q (out++a.extract ia++b.extract ib) st':=λsg j e=>h _ _ sg (j.fin1 e).1 (j.fin1 e).2
 have fin2:∀{st':SortSt} {out:Array Keyed} {n ia ib:Nat},Sg st st'->LoI R tot a b n out ia ib->ia+1=a.size->Q (out++b.extract ib++a.extract ia) st':=λsg j e=>h _ _ sg (j.fin2 e hl).1 (j.fin2 e hl).2
 have sg0:Sg st st:=⟨rfl,rfl,rfl,rfl⟩
 refine U9 (λh1=>gD (fin1 sg0 j0 h1)) λh1=>U9 (λh2=>gD (fin2 sg0 j0 h2)) λh2=>gC (wpS_get ?_)
 have lt1:∀{i n:Nat},i+1<n->i<n:=Nat.lt_of_succ_lt
 have lt2:∀{i n:Nat},i<n->i+1≠n->i+1<n:=cN
 refine gC (wpS_mono (Q:=λq st'=>∃r,q.1=some r/\Q r st') (gE (I:=λj q st'=>∃out ia ib mg,q=(none,out,ia,ib,mg)/\Sg st st'/\LoI R tot a b (j+1) out ia ib/\ia+1<a.size/\ib<b.size) ?_ ?_ ⟨_,0,1,_,rfl,sg0,j0,lt2 na h2,lt2 nb h1⟩) ?_)
 ·rintro j q st' _ hj ⟨out,ia,ib,mg,rfl,sg,jn,hia,hib⟩
  dsimp -zeta only
  have hk':kindOf st'=κ:=sg.k.trans hk
  refine gC (wpS_mono (Q:=λq st2=>st2=st'/\((∃r,q.1=some r/\Q r st')∨∃out ia ib x y,q=(none,out,ia,ib,x,y)/\LoI R tot a b (j+2) out ia ib/\ia+1<a.size/\ib<b.size))
   (gE (I:=λi q st2=>st2=st'/\∃out ia ib x y,q=(none,out,ia,ib,x,y)/\LoI R tot a b (j+1+(if i=0 then 0 else 1)) out ia ib/\ia+1<a.size/\ib<b.size) ?_ ?_ ⟨rfl,out,ia,ib,0,0,rfl,jn,hia,hib⟩) ?_)
  ·rintro i q st2 _ hi ⟨rfl,out,ia,ib,x,y,rfl,jn,hia,hib⟩
   dsimp only
   have w1:j+2<=j+1+(if i=0 then 0 else 1)+1:=Nat.succ_le_succ (cI _ _)
   have w2:j+1+(if i+1=0 then 0 else 1)<=j+1+(if i=0 then 0 else 1)+1:=by rw[if_neg (Nat.succ_ne_zero i)];exact w1
   refine gC (k8 hib (gC (k8 (lt1 hia) (gC (c.lt (gb _ (o0 hib)) (ga _ (o0 (lt1 hia))) hk' ?_)))))
   refine ye8 (λhlt=>gC (k8 hib ?_)) λhlt=>gC (k8 (lt1 hia) ?_)
   ·have jn':=(jn.swap.pushA hib (bM hlt)).swap
    exact U9 (λe1=>gD ⟨rfl,.inl ⟨_,rfl,fin1 sg jn' e1⟩⟩) λe1=>L9 (λe2=>gD ⟨rfl,.inr ⟨_,_,_,_,_,rfl,jn'.weak w1,hia,lt2 hib e1⟩⟩) λe2=>gD ⟨rfl,_,_,_,_,_,rfl,jn'.weak w2,hia,lt2 hib e1⟩
   ·have jn':=jn.pushA (lt1 hia) (bS.mp hlt)
    exact U9 (λe1=>gD ⟨rfl,.inl ⟨_,rfl,fin2 sg jn' e1⟩⟩) λe1=>L9 (λe2=>gD ⟨rfl,.inr ⟨_,_,_,_,_,rfl,jn'.weak w1,lt2 hia e1,hib⟩⟩) λe2=>gD ⟨rfl,_,_,_,_,_,rfl,jn'.weak w2,lt2 hia e1,hib⟩
  ·rintro q st2 ⟨rfl,out,ia,ib,x,y,rfl,jn,hia,hib⟩
   rw[if_neg (by lia)]at jn
   exact⟨rfl,.inr ⟨_,_,_,_,_,rfl,jn,hia,hib⟩⟩
  rintro q st2 ⟨rfl,(⟨r,e,hq⟩|⟨out,ia,ib,x,y,rfl,jn,hia,hib⟩)⟩
  ·obtain⟨q1,q2⟩:=q
   cases e
   exact gD ⟨_,rfl,hq⟩
  refine gC (A2 ?_)
  refine gC (wpS_mono (Q:=λq st2=>Sg st st2/\((∃r,q.1=some r/\Q r st2)∨∃out ia ib m x y,q=(none,out,ia,ib,m,x,y)/\LoI R tot a b (j+2) out ia ib/\ia+1<a.size/\ib<b.size))
   (gE (I:=λi q st2=>Sg st st2/\∃out ia ib m x y,q=(none,out,ia,ib,m,x,y)/\LoI R tot a b (j+2) out ia ib/\ia+1<a.size/\ib<b.size) ?_ ?_ ⟨sg,out,ia,ib,_,_,_,rfl,jn,hia,hib⟩) ?_)
  ·rintro i q st2 _ hi ⟨sg2,out,ia,ib,m,x,y,rfl,jn,hia,hib⟩
   dsimp -zeta only
   extract_lets -underBinder +onlyGivenNames s1 o1 s2 i1 s3 b1 s4 m1 s5 ac bc jp
   refine xa8 (f:=jp ()) (x:=m-1) (y:=m) λm2=>?_
   dsimp -zeta only[jp,s1,o1,s2,i1,s3,b1,s4,m1,s5,ac,bc]
   clear jp ac bc s5 m1 s4 b1 s3 i1 s2 o1 s1
   have sg3:∀g:Nat,Sg st (SortSt.mk' (kindOf st2) (arrOf st2) (pendingOf st2) g (failedOf st2)):=λg=>⟨sg2.k,sg2.a,sg2.p,sg2.f⟩
   have hk2:=sg2.k.trans hk
   refine gC (wpS_modify (gC (k8 hib (gC (xx5 c hk2 ga (gb _ (o0 hib)) ua (lt1 hia) λk hk1 hle hlt=>?_)))))
   dsimp -zeta only
   extract_lets -underBinder +onlyGivenNames ac jp
   refine zy5 (f:=jp ()) (λo1 i1=>LoI R tot a b (j+2) o1 i1 ib/\i1+1<a.size/\R (b.getD ib dk)<R (a.getD i1 dk)) ?_ λJ=>?_
   ·rintro out1 ia1 ⟨jn1,hi1,hlt1⟩
    dsimp -zeta only[jp]
    clear jp
    have jn2:=(jn1.swap.pushA hib (bM hlt1)).swap
    refine gC (k8 hib ?_)
    refine U9 (λe2=>gD ⟨sg3 _,.inl ⟨_,rfl,fin1 (sg3 _) jn2 e2⟩⟩) λe2=>?_
    refine gC (k8 (lt1 hi1) (gC (xx4 c hk2 gb (ga _ (o0 (lt1 hi1))) ub (lt2 hib e2) λk1 hk3 hle3 hlt3=>?_)))
    dsimp -zeta only
    extract_lets -underBinder +onlyGivenNames bc jp
    refine zy5 (f:=jp ()) (λo3 i3=>LoI R tot a b (j+2) o3 ia1 i3/\i3<b.size/\R (a.getD ia1 dk)<=R (b.getD i3 dk)) ?_ λJ=>?_
    ·rintro out3 ib3 ⟨jn3,hib3,hge⟩
     dsimp -zeta only[jp]
     clear jp
     have jn4:=jn3.pushA (lt1 hi1) hge
     refine gC (k8 (lt1 hi1) ?_)
     refine U9 (λe5=>gD ⟨sg3 _,.inl ⟨_,rfl,fin2 (sg3 _) jn4 e5⟩⟩) λe5=>?_
     have jn5:=jn4.weak (bU _)
     exact yk8 (gD ⟨sg3 _,.inr ⟨_,_,_,_,_,_,rfl,jn5,lt2 hi1 e5,hib3⟩⟩) (gD ⟨sg3 _,_,_,_,_,_,_,rfl,jn5,lt2 hi1 e5,hib3⟩)
    ·clear_value jp
     have jn2':=jn2.weak (bU _)
     refine L9 (λe=>?_) λe=>?_
     ·have jn3:=(jn2'.swap.extA hk3 λi hi=>bM (hle3 i hi)).swap
      exact U9 (λe4=>gD ⟨sg3 _,.inl ⟨_,rfl,fin1 (sg3 _) jn3 e4⟩⟩) λe4=>J _ _ ⟨jn3,cN hk3 e4,hlt3 (cN hk3 e4)⟩
     ·obtain rfl:k1=0:=Nat.eq_zero_of_not_pos e
      exact J _ _ ⟨jn2',lt2 hib e2,hlt3 (lt2 hib e2)⟩
   ·clear_value jp
    have hkl:ia+k<a.size:=Nat.lt_of_not_le λz=>by
     have h1:=hle (a.size-1-ia) (by lia)
     rw[show ia+(a.size-1-ia)=a.size-1 by lia]at h1
     exact absurd (hl _ (o0 hib)) (bS.mpr h1)
    refine L9 (λe=>?_) λe=>?_
    ·have jn1:=jn.extA hk1 hle
     exact U9 (λe1=>gD ⟨sg3 _,.inl ⟨_,rfl,fin2 (sg3 _) jn1 e1⟩⟩) λe1=>U9 (λe2=>absurd e2 (aU hkl)) λ_=>J _ _ ⟨jn1,lt2 hkl e1,hlt hkl⟩
    ·obtain rfl:k=0:=Nat.eq_zero_of_not_pos e
     exact J _ _ ⟨jn,hia,hlt hkl⟩
  ·rintro q st2 ⟨sg2,out,ia,ib,m,x,y,rfl,jn,hia,hib⟩
   exact⟨sg2,.inr ⟨_,_,_,_,_,_,rfl,jn,hia,hib⟩⟩
  ·rintro q st2 ⟨sg2,(⟨r,e,hq⟩|⟨out,ia,ib,m,x,y,rfl,jn,hia,hib⟩)⟩
   ·obtain⟨q1,q2⟩:=q
    cases e
    exact gD ⟨_,rfl,hq⟩
   ·exact gC (wpS_modify (gD ⟨_,_,_,_,rfl,⟨sg2.k,sg2.a,sg2.p,sg2.f⟩,jn,hia,hib⟩))
 ·rintro q st' ⟨out,ia,ib,mg,rfl,sg,jn,hia,hib⟩
  have:=jn.hn
  have:=jn.sz
  lia
 ·rintro q st' ⟨r,e,hq⟩
  obtain⟨q1,q2⟩:=q
  cases e
  exact gD hq
section
variable {a:Array Keyed}{i k:Nat}
def Rv (a:Array Keyed)(i:Nat):List Keyed:=(a.toList.take i).reverse
theorem xl7 (h:i<a.size):Rv a (i+1)=a.getD i dk::Rv a i:=by
 unfold Rv
 rw[bJ,List.reverse_append,ae (by simpa using h)]
 simp[Array.getD,h]
theorem xf1 (h0:0<i)(h:i<=a.size):Rv a i=a.getD (i-1) dk::Rv a (i-1):=by
 have:=xl7 (a:=a) (i:=i-1) (by lia)
 rwa [show i-1+1=i by lia]at this
theorem xf0 (hx:x∈(a.extract k i).reverse.toList)(hi:i<=a.size):∃j,k<=j/\j<i/\x=a.getD j dk:=by
 rw[Array.toList_reverse,fF,Array.toList_extract]at hx
 simp only[List.extract]at hx
 obtain⟨j,h1,h2,rfl⟩:=zf6 hx
 exact⟨k+j,by lia,by lia,rfl⟩
theorem xl8 (h:i<=a.size):(a.extract k i).reverse.size=i-k:=by
 rw[Array.size_reverse,Array.size_extract]
 lia
theorem ym8 (hx:x∈Rv a i):∃j,j<i/\j<a.size/\x=a.getD j dk:=by
 unfold Rv at hx
 rw[fF]at hx
 have:=zf6 (a:=a) (i:=0) (k:=i) (by rwa [fM])
 simpa using this
theorem xf2 (h:k<=i)(hi:i<=a.size):Rv a i=(a.extract k i).reverse.toList++Rv a k:=by
 unfold Rv
 rw[Array.toList_reverse,Array.toList_extract,←List.reverse_append]
 simp only[List.extract]
 rw[show i=k+(i-k) by lia,List.take_add,show k+(i-k)-k=i-k by lia]
theorem SL.rv {R:Keyed->Int}(u:SL R a.toList):SL (λx=>-R x) (Rv a i):=by
 unfold Rv SL
 rw[List.pairwise_reverse]
 refine(List.Pairwise.sublist (cz _ _) u).imp λh=>?_
 show -R _<=-R _
 lia
theorem yy9:(a.extract 0 i).toList=(Rv a i).reverse:=by
 unfold Rv
 rw[List.reverse_reverse,Array.toList_extract]
 simp[List.extract]
end
section
variable {a:Array Keyed}{na:Nat}{key:Keyed}{st:SortSt}{Q:Option Nat->SortSt->Prop}
theorem xu1 (c:Cmp M A E s κ G R)(hk:kindOf st=κ)(ga:∀x∈a.toList,G x)(hkey:G key)(ua:SL R a.toList)(h0:0<na)(hna:na<=a.size)(h:∀k,k<=na->(∀i,i<k->R (a.getD i dk)<=R key)->(∀i,k<=i->i<na->R key<R (a.getD i dk))->Q (some k) st):wpS M A E s (zc8 false key a 0 na (na-1)) Q st:=by
 refine O0 c hk (λi hi=>ga _ (o0 (by lia))) hkey (by lia) (by lia) (λi j hij hj=>ua.get (by lia) (by lia)) λk hp=>?_
 obtain⟨h1,h2⟩:=hp.no
 simp only[cW]at h2
 exact h k h1 (λi hi=>(h2 i (by lia)).mpr hi) λi hi hi'=>Int.not_le.mp λz'=>Nat.not_lt_of_le hi ((h2 i hi').mp z')
theorem xu0 (c:Cmp M A E s κ G R)(hk:kindOf st=κ)(ga:∀x∈a.toList,G x)(hkey:G key)(ua:SL R a.toList)(h0:0<na)(hna:na<=a.size)(h:∀k,k<=na->(∀i,i<k->R (a.getD i dk)<R key)->(∀i,k<=i->i<na->R key<=R (a.getD i dk))->Q (some k) st):wpS M A E s (zc8 true key a 0 na (na-1)) Q st:=by
 refine O0 c hk (λi hi=>ga _ (o0 (by lia))) hkey (by lia) (by lia) (λi j hij hj=>ua.get (by lia) (by lia)) λk hp=>?_
 obtain⟨h1,h2⟩:=hp.yes
 simp only[cW]at h2
 exact h k h1 (λi hi=>(h2 i (by lia)).mpr hi) λi hi hi'=>bS.mp λz'=>Nat.not_lt_of_le hi ((h2 i hi').mp z')
end
structure HiI (R:Keyed->Int) (tot:List Keyed) (a b:Array Keyed) (n:Nat) (out:Array Keyed) (na nb:Nat):Prop where
 jn:Jn (λx=>-R x) tot out.toList (Rv a na) (Rv b nb)
 ua:SL R a.toList
 ub:SL R b.toList
 sz:out.size+na+nb=a.size+b.size
 hn:n<=out.size
 ha:na<=a.size
 hb:nb<=b.size
section
variable {a b out:Array Keyed}{n n' na nb k:Nat}{tot:List Keyed}
theorem HiI.weak (h:HiI R tot a b n out na nb)(w:n'<=n):HiI R tot a b n' out na nb:=⟨h.jn,h.ua,h.ub,h.sz,aO w h.hn,h.ha,h.hb⟩
theorem HiI.swap (h:HiI R tot a b n out na nb):HiI R tot b a n out nb na:=⟨h.jn.swap,h.ub,h.ua,by have:=h.sz;lia,h.hn,h.hb,h.ha⟩
theorem xu2 (u:SL R a.toList)(hi:na<=a.size)(hz:R (a.getD (na-1) dk)<=z):∀x∈Rv a na,R x<=z:=λx hx=>by
 obtain⟨j,h1,h2,rfl⟩:=ym8 hx
 exact cv (u.get (by lia) (by lia)) hz
theorem HiI.pushA (h:HiI R tot a b n out na nb)(h0:0<na)(hr:R (b.getD (nb-1) dk)<=R (a.getD (na-1) dk)):HiI R tot a b (n+1) (out.push (a.getD (na-1) dk)) (na-1) nb:=by
 have j:=h.jn
 have hs:=h.sz
 rw[xf1 h0 h.ha]at j
 refine⟨?_,h.ua,h.ub,by rw[Array.size_push];lia,by rw[Array.size_push];exact Nat.succ_le_succ h.hn,aO (Nat.sub_le _ _) h.ha,h.hb⟩
 rw[Array.toList_push]
 exact Jn.moveA (ch:=[a.getD (na-1) dk]) j λx hx y hy=>by rw[ar.mp hx];exact Int.neg_le_neg (xu2 h.ub h.hb hr y hy)
theorem HiI.extA (h:HiI R tot a b n out na nb)(hk:k<=na)(hr:∀i,k<=i->i<na->R (b.getD (nb-1) dk)<=R (a.getD i dk)):HiI R tot a b n (out++(a.extract k na).reverse) k nb:=by
 have j:=h.jn
 have hs:=h.sz
 rw[xf2 hk h.ha]at j
 refine⟨?_,h.ua,h.ub,by rw[Array.size_append,xl8 h.ha];lia,by rw[Array.size_append];exact aO h.hn (cI _ _),aO hk h.ha,h.hb⟩
 rw[Array.toList_append]
 refine j.moveA λz hz y hy=>?_
 obtain⟨i,h1,h2,rfl⟩:=xf0 hz h.ha
 exact Int.neg_le_neg (xu2 h.ub h.hb (hr i h1 h2) y hy)
theorem HiI.fin (h:HiI R tot a b n out na nb)(hh:∀x∈Rv b nb,∀y∈Rv a na,R y<=R x):(a.extract 0 na++b.extract 0 nb++out.reverse).toList.Perm tot/\SL R (a.extract 0 na++b.extract 0 nb++out.reverse).toList:=by
 have:=h.jn.swap.fin (λx hx y hy=>Int.neg_le_neg (hh x hx y hy))
 rw[show(a.extract 0 na++b.extract 0 nb++out.reverse).toList=(out.toList++Rv b nb++Rv a na).reverse by rw[Array.toList_append,Array.toList_append,yy9,yy9,Array.toList_reverse,List.reverse_append,List.reverse_append,bj]]
 refine⟨(List.reverse_perm _).trans this.1,?_⟩
 unfold SL
 rw[List.pairwise_reverse]
 exact this.2.imp λh=>Int.le_of_neg_le_neg h
theorem HiI.fin1 (h:HiI R tot a b n out na nb)(e:na=0):(a.extract 0 na++b.extract 0 nb++out.reverse).toList.Perm tot/\SL R (a.extract 0 na++b.extract 0 nb++out.reverse).toList:=h.fin λx _ y hy=>by rw[e]at hy;cases hy
theorem HiI.fin2 (h:HiI R tot a b n out na nb)(e:nb=1)(hf:∀x∈a.toList,R (b.getD 0 dk)<R x):(b.extract 0 nb++a.extract 0 na++out.reverse).toList.Perm tot/\SL R (b.extract 0 nb++a.extract 0 na++out.reverse).toList:=h.swap.fin λx hx y hy=>by
 obtain⟨i,h1,h2,rfl⟩:=ym8 hx
 obtain⟨i',h1',h2',rfl⟩:=ym8 hy
 rw[show i'=0 by lia]
 exact bM (hf _ (o0 h2))
end
theorem yl6 (c:Cmp M A E s κ G R){a b:Array Keyed}{st:SortSt}{Q:Array Keyed->SortSt->Prop}(hk:kindOf st=κ)(ga:∀x∈a.toList,G x)(gb:∀x∈b.toList,G x)(ua:SL R a.toList)(ub:SL R b.toList)(na0:0<a.size)(nb0:0<b.size)
  (hf:∀x∈a.toList,R (b.getD 0 dk)<R x) (hl:∀x∈b.toList,R x<R (a.getD (a.size-1) dk))
  (h:∀(out:Array Keyed) st',Sg st st'->out.toList.Perm (a.toList++b.toList)->SL R out.toList->Q out st'):wpS M A E s (xc2 a b) Q st:=by
 have sub1:∀{i n:Nat},0<i->i<=n->i-1<n:=λh1 h2=>aR (Nat.sub_lt h1 Nat.zero_lt_one) h2
 refine gC (A2 (gC (k8 (sub1 na0 (ag _)) ?_)))
 obtain⟨tot,etot⟩:∃tot,tot=a.toList++b.toList:=⟨_,rfl⟩
 rw[←etot]at h
 have j0:HiI R tot a b 1 #[a.getD (a.size-1) dk] (a.size-1) b.size:=by
  have ye4:∀x:Array Keyed,Rv x x.size=x.toList.reverse:=λx=>by unfold Rv;rw[bO (by simp)]
  refine HiI.pushA (out:=#[]) (n:=0) ⟨⟨?_,.nil,ua.rv,ub.rv,λ_ h=>(by cases h),λ_ h=>(by cases h)⟩,ua,ub,by rw[Array.size_empty,cW],aP _,ag _,ag _⟩ na0 (bM (hl _ (o0 (sub1 nb0 (ag _)))))
  rw[etot,ye4,ye4]
  exact List.Perm.append (List.reverse_perm _) (List.reverse_perm _)
 have fin1:∀{st':SortSt} {out:Array Keyed} {n na nb:Nat},Sg st st'->HiI R tot a b n out na nb->na=0->Q (a.extract 0 na++b.extract 0 nb++out.reverse) st':=λsg j e=>h _ _ sg (j.fin1 e).1 (j.fin1 e).2
 have fin2:∀{st':SortSt} {out:Array Keyed} {n na nb:Nat},Sg st st'->HiI R tot a b n out na nb->nb=1->Q (b.extract 0 nb++a.extract 0 na++out.reverse) st':=λsg j e=>h _ _ sg (j.fin2 e hf).1 (j.fin2 e hf).2
 have sg0:Sg st st:=⟨rfl,rfl,rfl,rfl⟩
 have gt1:∀{i:Nat},0<i->i≠1->1<i:=λh e=>cN h (Ne.symm e)
 have gt0:∀{i:Nat},1<i->0<i:=λh=>Nat.lt_of_succ_lt h
 have sub0:∀{i:Nat},1<i->0<i-1:=λh=>Nat.sub_pos_of_lt h
 refine U9 (λh1=>gD (fin1 sg0 j0 h1)) λh1=>U9 (λh2=>gD (fin2 sg0 j0 h2)) λh2=>gC (wpS_get ?_)
 refine gC (wpS_mono (Q:=λq st'=>∃r,q.1=some r/\Q r st') (gE (I:=λj q st'=>∃na nb out mg,q=(none,na,nb,out,mg)/\Sg st st'/\HiI R tot a b (j+1) out na nb/\0<na/\1<nb) ?_ ?_ ⟨_,_,#[a.getD (a.size-1) dk],_,rfl,sg0,j0,Nat.pos_of_ne_zero h1,gt1 nb0 h2⟩) ?_)
 ·rintro j q st' _ hj ⟨na,nb,out,mg,rfl,sg,jn,hna,hnb⟩
  dsimp -zeta only
  have hk':kindOf st'=κ:=sg.k.trans hk
  refine gC (wpS_mono (Q:=λq st2=>st2=st'/\((∃r,q.1=some r/\Q r st')∨∃na nb out x y,q=(none,na,nb,out,x,y)/\HiI R tot a b (j+2) out na nb/\0<na/\1<nb))
   (gE (I:=λi q st2=>st2=st'/\∃na nb out x y,q=(none,na,nb,out,x,y)/\HiI R tot a b (j+1+(if i=0 then 0 else 1)) out na nb/\0<na/\1<nb) ?_ ?_ ⟨rfl,na,nb,out,0,0,rfl,jn,hna,hnb⟩) ?_)
  ·rintro i q st2 _ hi ⟨rfl,na,nb,out,x,y,rfl,jn,hna,hnb⟩
   dsimp only
   have w1:j+2<=j+1+(if i=0 then 0 else 1)+1:=Nat.succ_le_succ (cI _ _)
   have w2:j+1+(if i+1=0 then 0 else 1)<=j+1+(if i=0 then 0 else 1)+1:=by rw[if_neg (Nat.succ_ne_zero i)];exact w1
   have la:=sub1 hna jn.ha
   have lb:=sub1 (gt0 hnb) jn.hb
   refine gC (k8 lb (gC (k8 la (gC (c.lt (gb _ (o0 lb)) (ga _ (o0 la)) hk' ?_)))))
   refine ye8 (λhlt=>gC (k8 la ?_)) λhlt=>gC (k8 lb ?_)
   ·have jn':=jn.pushA hna (bM hlt)
    exact U9 (λe1=>gD ⟨rfl,.inl ⟨_,rfl,fin1 sg jn' e1⟩⟩) λe1=>L9 (λe2=>gD ⟨rfl,.inr ⟨_,_,_,_,_,rfl,jn'.weak w1,Nat.pos_of_ne_zero e1,hnb⟩⟩) λe2=>gD ⟨rfl,_,_,_,_,_,rfl,jn'.weak w2,Nat.pos_of_ne_zero e1,hnb⟩
   ·have jn':=(jn.swap.pushA (gt0 hnb) (bS.mp hlt)).swap
    exact U9 (λe1=>gD ⟨rfl,.inl ⟨_,rfl,fin2 sg jn' e1⟩⟩) λe1=>L9 (λe2=>gD ⟨rfl,.inr ⟨_,_,_,_,_,rfl,jn'.weak w1,hna,gt1 (sub0 hnb) e1⟩⟩) λe2=>gD ⟨rfl,_,_,_,_,_,rfl,jn'.weak w2,hna,gt1 (sub0 hnb) e1⟩
  ·rintro q st2 ⟨rfl,na,nb,out,x,y,rfl,jn,hna,hnb⟩
   rw[if_neg (by lia)]at jn
   exact⟨rfl,.inr ⟨_,_,_,_,_,rfl,jn,hna,hnb⟩⟩
  rintro q st2 ⟨rfl,(⟨r,e,hq⟩|⟨na,nb,out,x,y,rfl,jn,hna,hnb⟩)⟩
  ·obtain⟨q1,q2⟩:=q
   cases e
   exact gD ⟨_,rfl,hq⟩
  refine gC (A2 ?_)
  refine gC (wpS_mono (Q:=λq st2=>Sg st st2/\((∃r,q.1=some r/\Q r st2)∨∃na nb out m x y,q=(none,na,nb,out,m,x,y)/\HiI R tot a b (j+2) out na nb/\0<na/\1<nb))
   (gE (I:=λi q st2=>Sg st st2/\∃na nb out m x y,q=(none,na,nb,out,m,x,y)/\HiI R tot a b (j+2) out na nb/\0<na/\1<nb) ?_ ?_ ⟨sg,na,nb,out,_,_,_,rfl,jn,hna,hnb⟩) ?_)
  ·rintro i q st2 _ hi ⟨sg2,na,nb,out,m,x,y,rfl,jn,hna,hnb⟩
   dsimp -zeta only
   extract_lets -underBinder +onlyGivenNames s1 o1 s2 i1 s3 b1 s4 m1 s5 ac bc jp
   refine xa8 (f:=jp ()) (x:=m-1) (y:=m) λm2=>?_
   dsimp -zeta only[jp,s1,o1,s2,i1,s3,b1,s4,m1,s5,ac,bc]
   clear jp ac bc s5 m1 s4 b1 s3 i1 s2 o1 s1
   have sg3:∀g:Nat,Sg st (SortSt.mk' (kindOf st2) (arrOf st2) (pendingOf st2) g (failedOf st2)):=λg=>⟨sg2.k,sg2.a,sg2.p,sg2.f⟩
   have hk2:=sg2.k.trans hk
   have lb:=sub1 (gt0 hnb) jn.hb
   refine gC (wpS_modify (gC (k8 lb (gC (xu1 c hk2 ga (gb _ (o0 lb)) ua hna jn.ha λk hk1 hle hlt=>?_)))))
   dsimp -zeta only
   extract_lets -underBinder +onlyGivenNames k0 ac jp
   refine zy5 (f:=jp ()) (λi1 o1=>HiI R tot a b (j+2) o1 i1 nb/\0<i1/\R (a.getD (i1-1) dk)<=R (b.getD (nb-1) dk)) ?_ λJ=>?_
   ·rintro na1 out1 ⟨jn1,hi1,hle1⟩
    dsimp -zeta only[jp]
    clear jp
    have la:=sub1 hi1 jn1.ha
    have jn2:=(jn1.swap.pushA (gt0 hnb) hle1).swap
    refine gC (k8 lb ?_)
    refine U9 (λe2=>gD ⟨sg3 _,.inl ⟨_,rfl,fin2 (sg3 _) jn2 e2⟩⟩) λe2=>?_
    refine gC (k8 la (gC (xu0 c hk2 gb (ga _ (o0 la)) ub (sub0 hnb) jn2.hb λk1 hk3 hle3 hlt3=>?_)))
    dsimp -zeta only
    extract_lets -underBinder +onlyGivenNames k0 bc jp
    refine zy5 (f:=jp ()) (λi3 o3=>HiI R tot a b (j+2) o3 na1 i3/\1<i3/\R (b.getD (i3-1) dk)<=R (a.getD (na1-1) dk)) ?_ λJ=>?_
    ·rintro nb3 out3 ⟨jn3,hnb3,hge⟩
     dsimp -zeta only[jp]
     clear jp
     have jn4:=jn3.pushA hi1 hge
     refine gC (k8 la ?_)
     refine U9 (λe5=>gD ⟨sg3 _,.inl ⟨_,rfl,fin1 (sg3 _) jn4 e5⟩⟩) λe5=>?_
     have jn5:=jn4.weak (bU _)
     exact yk8 (gD ⟨sg3 _,.inr ⟨_,_,_,_,_,_,rfl,jn5,Nat.pos_of_ne_zero e5,hnb3⟩⟩) (gD ⟨sg3 _,_,_,_,_,_,_,rfl,jn5,Nat.pos_of_ne_zero e5,hnb3⟩)
    ·clear_value jp
     have jn2':=jn2.weak (bU _)
     have hk10:0<k1:=Nat.pos_of_ne_zero λe=>absurd (hf _ (o0 la)) (bS.mpr (hlt3 0 (eE e) (sub0 hnb)))
     have hr:R (b.getD (k1-1) dk)<=R (a.getD (na1-1) dk):=bM (hle3 _ (Nat.sub_lt hk10 Nat.zero_lt_one))
     refine L9 (λe=>?_) λe=>?_
     ·have jn3:=(jn2'.swap.extA hk3 hlt3).swap
      exact U9 (λe4=>gD ⟨sg3 _,.inl ⟨_,rfl,fin2 (sg3 _) jn3 e4⟩⟩) λe4=>U9 (λe5=>absurd e5 (cY hk10)) λ_=>J _ _ ⟨jn3,gt1 hk10 e4,hr⟩
     ·obtain rfl:nb-1=k1:=dG (Nat.sub_eq_zero_iff_le.mp (Nat.eq_zero_of_not_pos e)) hk3
      exact J _ _ ⟨jn2',gt1 hk10 e2,hr⟩
   ·clear_value jp
    refine L9 (λe=>?_) λe=>?_
    ·have jn1:=jn.extA hk1 λi h1 h2=>bM (hlt i h1 h2)
     exact U9 (λe1=>gD ⟨sg3 _,.inl ⟨_,rfl,fin1 (sg3 _) jn1 e1⟩⟩) λe1=>J _ _ ⟨jn1,Nat.pos_of_ne_zero e1,hle _ (Nat.sub_lt (Nat.pos_of_ne_zero e1) Nat.zero_lt_one)⟩
    ·obtain rfl:na=k:=dG (Nat.sub_eq_zero_iff_le.mp (Nat.eq_zero_of_not_pos e)) hk1
     exact J _ _ ⟨jn,hna,hle _ (Nat.sub_lt hna Nat.zero_lt_one)⟩
  ·rintro q st2 ⟨sg2,na,nb,out,m,x,y,rfl,jn,hna,hnb⟩
   exact⟨sg2,.inr ⟨_,_,_,_,_,_,rfl,jn,hna,hnb⟩⟩
  ·rintro q st2 ⟨sg2,(⟨r,e,hq⟩|⟨na,nb,out,m,x,y,rfl,jn,hna,hnb⟩)⟩
   ·obtain⟨q1,q2⟩:=q
    cases e
    exact gD ⟨_,rfl,hq⟩
   ·exact gC (wpS_modify (gD ⟨_,_,_,_,rfl,⟨sg2.k,sg2.a,sg2.p,sg2.f⟩,jn,hna,hnb⟩))
 ·rintro q st' ⟨na,nb,out,mg,rfl,sg,jn,hna,hnb⟩
  have:=jn.hn
  have:=jn.sz
  lia
 ·rintro q st' ⟨r,e,hq⟩
  obtain⟨q1,q2⟩:=q
  cases e
  exact gD hq
end
end SortG
namespace SortG
open PySem PyProof.Rows
section
variable {M:Model}{A:gu}{E:Value->fZ->Prop}{s:fZ}{κ:SortKind}{G:Keyed->Prop}{R:Keyed->Int}
structure Seg (xs ys:Array Keyed) (lo hi:Nat):Prop where
 size:ys.size=xs.size
 perm:ys.toList.Perm xs.toList
 out:∀p,p<lo∨hi<=p->ys[p]?=xs[p]?
theorem Seg.refl (xs:Array Keyed)(lo hi:Nat):Seg xs xs lo hi:=⟨rfl,.refl _,λ_ _=>rfl⟩
theorem Seg.trans {lo hi:Nat}(h:Seg xs ys lo hi)(h':Seg ys zs lo hi):Seg xs zs lo hi:=⟨h'.size.trans h.size,h'.perm.trans h.perm,λp hp=>(h'.out p hp).trans (h.out p hp)⟩
theorem Seg.mono {lo hi lo' hi':Nat}(h:Seg xs ys lo hi)(h1:lo'<=lo)(h2:hi<=hi'):Seg xs ys lo' hi':=⟨h.size,h.perm,λp hp=>h.out p (by lia)⟩
abbrev Ky (R:Keyed->Int) (xs:Array Keyed) (i:Nat):Int:=R (xs.getD i dk)
theorem zd2 (h:ys[i]?=xs[j]?):Ky R ys i=Ky R xs j:=by
 have e:∀(zs:Array Keyed) (k:Nat),zs.getD k dk=zs[k]?.getD dk:=λzs k=>by simp
 unfold Ky
 rw[e,e,h]
theorem Seg.ky {lo hi p:Nat}(h:Seg xs ys lo hi)(hp:p<lo∨hi<=p):Ky R ys p=Ky R xs p:=zd2 (h.out p hp)
theorem yn1 {xs:Array Keyed}(hj:j<=xs.size)(hij:i<=j):Seg xs (mirror xs i j ((j-i) / 2)) i j:=by
 refine⟨mirror_size _ _ _ _,(mirror_perm _ _ _ _).toList,λp hp=>?_⟩
 rw[getElem?_mirror hj _ (by lia),if_neg (by lia)]
theorem zh2 {xs:Array Keyed}(hj:j<=xs.size)(h1:i<=p)(h2:p<j):Ky R (mirror xs i j ((j-i) / 2)) p=Ky R xs (i+j-1-p):=by
 refine zd2 ?_
 rw[getElem?_mirror hj _ (by lia)]
 split
 ·rfl
 ·congr 1
  lia
def UpS (R:Keyed->Int)(xs:Array Keyed)(lo n:Nat):Prop:=∀i j,lo<=i->i<=j->j<lo+n->Ky R xs i<=Ky R xs j
def DnS (R:Keyed->Int)(xs:Array Keyed)(lo n:Nat):Prop:=∀i j,lo<=i->i<=j->j<lo+n->Ky R xs j<=Ky R xs i
theorem UpS.succ {lo n:Nat}(h:UpS R xs lo n)(h1:n=0∨Ky R xs (lo+n-1)<=Ky R xs (lo+n)):UpS R xs lo (n+1):=λi j hi hij hj=>by
 by_cases e:j=lo+n
 ·by_cases e2:i=j
  ·rw[e2];exact du _
  ·rw[e]
   rcases h1 with h1|h1
   ·lia
   ·exact cv (h i (lo+n-1) hi (by lia) (by lia)) h1
 ·exact h i j hi hij (by lia)
theorem DnS.succ {lo n:Nat}(h:DnS R xs lo n)(h1:n=0∨Ky R xs (lo+n)<=Ky R xs (lo+n-1)):DnS R xs lo (n+1):=λi j hi hij hj=>by
 by_cases e:j=lo+n
 ·by_cases e2:i=j
  ·rw[e2];exact du _
  ·rw[e]
   rcases h1 with h1|h1
   ·lia
   ·exact cv h1 (h i (lo+n-1) hi (by lia) (by lia))
 ·exact h i j hi hij (by lia)
abbrev Sx (κ:SortKind) (xs:Array Keyed) (pd:Array (Nat×Nat×Nat)) (g:Nat):SortSt:=SortSt.mk' κ xs pd g none
variable {xs:Array Keyed}{pd:Array (Nat×Nat×Nat)}{g:Nat}
theorem zd3 (c:Cmp M A E s κ G R){Q:Option Bool->SortSt->Prop}(hG:∀x∈xs.toList,G x)(hi:i<xs.size)(hj:j<xs.size)(h:Q (some (decide (Ky R xs i<Ky R xs j))) (Sx κ xs pd g)):wpS M A E s (ltAt' i j) Q (Sx κ xs pd g):=by
 rw[ltAt'_eq]
 refine gC (wpS_get (gC (k8 hi (gC (k8 hj ?_)))))
 exact c.lt (hG _ (o0 hi)) (hG _ (o0 hj)) rfl h
theorem ya6 {Q:Unit->SortSt->Prop}(h:Q () (Sx κ (mirror xs i j ((j-i) / 2)) pd g)):wpS M A E s (reverseSlice' i j) Q (Sx κ xs pd g):=by
 rw[reverseSlice'_eq]
 exact wpS_modify h
theorem xj7 {Q:Unit->SortSt->Prop}(h:Q () (Sx κ (bubble xs k (k-l)) pd g)):wpS M A E s (moveDown' k l) Q (Sx κ xs pd g):=by
 rw[moveDown'_eq]
 exact wpS_modify h
theorem xn7 {α β:Type}{f:β->StateT SortSt Sem α}{x:StateT SortSt Sem α}{Q:α->SortSt->Prop}{st0:SortSt}(P:SortSt->Prop)(h:∀b st,P st->wpS M A E s (f b) Q st)(k:(∀b st,P st->wpS M A E s (f b) Q st)->wpS M A E s x Q st0):wpS M A E s x Q st0:=k h
theorem Seg.mir {lo hi i j:Nat}(hs:Seg xs zs lo hi)(hz:hi<=xs.size)(h1:lo<=i)(h2:i<=j)(h3:j<=hi):Seg xs (mirror zs i j ((j-i) / 2)) lo hi:=hs.trans ((yn1 (by rw[hs.size];exact aO h3 hz) h2).mono h1 h3)
theorem zy6 {ys:Array Keyed}(hj:j<=ys.size)(he:∀p,i<=p->p<j->Ky R ys p=Ky R ys (j-1))(p:Nat):Ky R (mirror ys i j ((j-i) / 2)) p=Ky R ys p:=by
 by_cases hp:i<=p/\p<j
 ·rw[zh2 hj hp.1 hp.2,he _ (by lia) (by lia),he p hp.1 hp.2]
 ·refine zd2 ?_
  rw[getElem?_mirror_all hj,if_neg hp]
theorem yx2 (c:Cmp M A E s κ G R){lo nrem n0:Nat}{ys:Array Keyed}(gy:∀x∈ys.toList,G x)(hz:lo+nrem<=ys.size)(h0:1<=n0)(h0':n0<=nrem)(hu:UpS R ys lo n0){Q:Option (Option Nat)×Nat->SortSt->Prop}{f:Nat->Option (Option Nat)×Nat->StateT SortSt Sem (ForInStep (Option (Option Nat)×Nat))}
  (hf:∀x n,∃k,f x (none,n)=ltAt' (lo+n) (lo+n-1) >>= k/\k (some true)=pure (.done (none,n))/\k (some false)=pure (.yield (none,n+1)))
  (hq:∀n,n0<=n->n<=nrem->UpS R ys lo n->(n<nrem->Ky R ys (lo+n)<Ky R ys (lo+n-1))->Q (none,n) (Sx κ ys pd g)):wpS M A E s (forIn [n0:nrem] (none,n0) f) Q (Sx κ ys pd g):=by
 refine gE (I:=λi q st=>q=(none,i)/\st=Sx κ ys pd g/\UpS R ys lo i) ?_ ?_ ⟨rfl,rfl,hu⟩
 ·rintro i q st hi1 hi2 ⟨rfl,rfl,hu⟩
  obtain⟨k,e,e1,e2⟩:=hf i i
  rw[e]
  refine gC (zd3 c gy (by lia) (by lia) ?_)
  by_cases hlt:Ky R ys (lo+i)<Ky R ys (lo+i-1)
  ·rw[decide_eq_true hlt,e1]
   exact gD (hq i hi1 (bA hi2) hu λ_=>hlt)
  ·rw[decide_eq_false hlt,e2]
   exact gD ⟨rfl,rfl,hu.succ (.inr (bS.mp hlt))⟩
 ·rintro q st ⟨rfl,rfl,hu⟩
  rw[fI h0']at hu ⊢
  exact hq nrem h0' (ag _) hu λz=>absurd z (aY _)
theorem yx6 (c:Cmp M A E s κ G R){lo nrem:Nat}{Q:Option Nat->SortSt->Prop}(hG:∀x∈xs.toList,G x)(h1:1<=nrem)(hz:lo+nrem<=xs.size)
  (h:∀m ys,1<=m->m<=nrem->Seg xs ys lo (lo+nrem)->UpS R ys lo m->Q (some m) (Sx κ ys pd g)):wpS M A E s (countRun' lo nrem) Q (Sx κ xs pd g):=by
 have gs:∀{ys:Array Keyed},Seg xs ys lo (lo+nrem)->∀x∈ys.toList,G x:=λhs x hx=>hG x (hs.perm.mem_iff.mp hx)
 have hzs:∀{ys:Array Keyed},Seg xs ys lo (lo+nrem)->lo+nrem<=ys.size:=λhs=>by rw[hs.size];exact hz
 have b1:∀{n:Nat} {ys:Array Keyed},Seg xs ys lo (lo+nrem)->n<nrem->lo+n<ys.size:=λhs hn=>aR (Nat.add_lt_add_left hn _) (hzs hs)
 have b2:∀{n:Nat} {ys:Array Keyed},Seg xs ys lo (lo+nrem)->n<nrem->lo+n-1<ys.size:=λhs hn=>di (Nat.sub_le _ _) (b1 hs hn)
 have b3:∀{n:Nat} {ys:Array Keyed},Seg xs ys lo (lo+nrem)->n<=nrem->lo+n<=ys.size:=λhs hn=>aO (Nat.add_le_add_left hn _) (hzs hs)
 have lon:∀{n:Nat},n<=nrem->lo+n<=lo+nrem:=λhn=>Nat.add_le_add_left hn _
 refine gC (yx2 c hG hz (ag _) h1 (λi j hi hij hj=>by rw[show i=j by lia];exact du _) (λx n=>⟨_,rfl,rfl,rfl⟩) λn hn1 hn2 hu hlt=>?_)
 refine U9 (λe1=>gD (h n xs hn1 hn2 (Seg.refl _ _ _) hu)) λe1=>?_
 have hn3:=cN hn2 e1
 have hlt:=hlt hn3
 have s0:=Seg.refl xs lo (lo+nrem)
 extract_lets -underBinder +onlyGivenNames jp
 refine xn7 (f:=jp) (λst=>∃ys,st=Sx κ ys pd g/\Seg xs ys lo (lo+nrem)/\DnS R ys lo (n+1)) ?_ λJ=>?_
 ·rintro _ _ ⟨ys,rfl,hs,hd⟩
  dsimp -zeta only[jp]
  clear jp
  refine gC (A2 ?_)
  refine gC (wpS_mono (Q:=λq st=>∃n neq zs,q=(none,n,neq)/\st=Sx κ zs pd g/\Seg xs zs lo (lo+nrem)/\1<=n/\n<=nrem/\neq<n/\DnS R zs lo n/\∀p,lo+n-(neq+1)<=p->p<lo+n->Ky R zs p=Ky R zs (lo+n-1)) (gE (I:=λi q st=>∃neq zs,q=(none,i,neq)/\st=Sx κ zs pd g/\Seg xs zs lo (lo+nrem)/\neq<i/\DnS R zs lo i/\∀p,lo+i-(neq+1)<=p->p<lo+i->Ky R zs p=Ky R zs (lo+i-1)) ?_ ?_ ⟨0,ys,rfl,rfl,hs,eA _,hd,λp h1 h2=>by rw[dG (Nat.le_sub_one_of_lt h2) h1]⟩) ?_)
  ·rintro i q st hi1 hi2 ⟨neq,zs,rfl,rfl,hs,hne,hd,ht⟩
   dsimp only
   have z1:∀{zs:Array Keyed} (p:Nat),lo+(i+1)-(0+1)<=p->p<lo+(i+1)->Ky R zs p=Ky R zs (lo+(i+1)-1):=λp h1 h2=>by rw[dG (Nat.le_sub_one_of_lt h2) h1]
   refine gC (zd3 c (gs hs) (b1 hs hi2) (b2 hs hi2) (ye8 (λhlt=>L9 (λe=>?_) λe=>gD ⟨0,zs,rfl,rfl,hs,eA _,hd.succ (.inr (bM hlt)),z1⟩) λhlt=>gC (zd3 c (gs hs) (b2 hs hi2) (b1 hs hi2) (ye8 (λhgt=>gD ⟨i,neq,zs,rfl,rfl,hs,aO (eA n) hi1,bA hi2,hne,hd,ht⟩) λhgt=>?_))))
   ·have ks:=zy6 (b3 hs (bA hi2)) ht
    exact gC (ya6 (gD ⟨0,_,rfl,rfl,hs.mir hz (by lia) (Nat.sub_le _ _) (lon (bA hi2)),eA _,DnS.succ (λi' j' h1 h2 h3=>by rw[ks,ks];exact hd i' j' h1 h2 h3) (.inr (by rw[ks,ks];exact bM hlt)),z1⟩))
   ·refine gD ⟨neq+1,zs,rfl,rfl,hs,Nat.succ_lt_succ hne,hd.succ (.inr (bS.mp hgt)),λp h1 h2=>?_⟩
    have ee:Ky R zs (lo+i-1)=Ky R zs (lo+i):=eS (bS.mp hlt) (bS.mp hgt)
    show _=Ky R zs (lo+i)
    by_cases e:p=lo+i
    ·rw[e]
    ·rw[ht p (by lia) (by lia),ee]
  ·rintro q st ⟨neq,zs,rfl,rfl,hs,hne,hd,ht⟩
   rw[fI hn3]at hne hd ht ⊢
   exact⟨nrem,neq,zs,rfl,rfl,hs,h1,ag _,hne,hd,ht⟩
  ·rintro q st ⟨n,neq,zs,rfl,rfl,hs,hn1,hn2,hne,hd,ht⟩
   extract_lets -underBinder +onlyGivenNames r1 s1 n1 q1
   dsimp -zeta only[r1,s1,n1,q1]
   extract_lets -underBinder +onlyGivenNames jp
   refine xn7 (f:=jp) (λst=>∃vs,st=Sx κ vs pd g/\Seg xs vs lo (lo+nrem)/\DnS R vs lo n) ?_ λJ=>?_
   ·rintro _ _ ⟨vs,rfl,hs,hd⟩
    dsimp -zeta only[jp]
    clear jp
    have hv:=b3 hs hn2
    have hs2:=hs.mir hz (ag _) (cI _ _) (lon hn2)
    exact gC (ya6 (gC (yx2 c (gs hs2) (hzs hs2) hn1 hn2 (λi j hi hij hj=>by rw[zh2 hv hi (di hij hj),zh2 hv (aO hi hij) hj];exact hd _ _ (by lia) (by lia) (by lia)) (λx n=>⟨_,rfl,rfl,rfl⟩) λm hm1 hm2 hum _=>gD (h m _ (aO hn1 hm1) hm2 hs2 hum))))
   ·clear_value jp
    refine L9 (λe=>?_) λe=>J _ _ ⟨zs,rfl,hs,hd⟩
    have ks:=zy6 (b3 hs hn2) ht
    exact gC (ya6 (J _ _ ⟨_,rfl,hs.mir hz (by lia) (Nat.sub_le _ _) (lon hn2),λi' j' h1 h2 h3=>by rw[ks,ks];exact hd i' j' h1 h2 h3⟩))
 ·clear_value jp
  refine L9 (λe2=>?_) λe2=>J _ _ ⟨xs,rfl,s0,DnS.succ (λi j hi hij hj=>by rw[show i=j by lia];exact du _) (.inr (bM hlt))⟩
  refine gC (zd3 c hG (b1 s0 h1) (b2 s0 hn3) (ye8 (λe3=>gD (h n xs hn1 hn2 s0 hu)) λe3=>gC (ya6 ?_)))
  have all:∀p,lo<=p->p<lo+n->Ky R xs p=Ky R xs (lo+n-1):=λp hp1 hp2=>eS (hu p (lo+n-1) hp1 (by lia) (by lia)) (cv (bS.mp e3) (hu lo p (ag _) hp1 hp2))
  have ks:=zy6 (b3 s0 hn2) all
  exact J _ _ ⟨_,rfl,s0.mir hz (ag _) (cI _ _) (lon hn2),DnS.succ (λi j hi hij hj=>by rw[ks,ks,all i hi (di hij hj),all j (aO hi hij) hj];exact du _) (.inr (by rw[ks,ks];exact bM hlt))⟩
theorem xo9 (c:Cmp M A E s κ G R){lo n ok:Nat}{Q:Bool->SortSt->Prop}(hG:∀x∈xs.toList,G x)(h1:1<=ok)(h2:ok<=n)(hz:lo+n<=xs.size)(hu:UpS R xs lo ok)
  (h:∀ys,Seg xs ys lo (lo+n)->UpS R ys lo n->Q true (Sx κ ys pd g)):wpS M A E s (binarySort' lo n ok) Q (Sx κ xs pd g):=by
 refine gC (wpS_mono (Q:=λq st=>q=(none,())/\∃ys,st=Sx κ ys pd g/\Seg xs ys lo (lo+n)/\UpS R ys lo n) (gE (I:=λk q st=>q=(none,())/\∃ys,st=Sx κ ys pd g/\Seg xs ys lo (lo+n)/\UpS R ys lo k) ?_ ?_ ⟨rfl,xs,rfl,Seg.refl _ _ _,by rw[show max ok 1=ok by lia];exact hu⟩) ?_)
 ·rintro k q st hk1 hk2 ⟨rfl,ys,rfl,hs,hu⟩
  have hz':lo+n<=ys.size:=by rw[hs.size];exact hz
  have gy:∀x∈ys.toList,G x:=λx hx=>hG x (hs.perm.mem_iff.mp hx)
  dsimp only
  refine gC (wpS_mono (Q:=λq st=>∃l r,q=(none,l,r)/\st=Sx κ ys pd g/\l<=k/\(∀i,i<l->Ky R ys (lo+i)<=Ky R ys (lo+k))/\∀i,l<=i->i<k->Ky R ys (lo+k)<Ky R ys (lo+i)) (gE (I:=λj q st=>∃l r,q=(none,l,r)/\st=Sx κ ys pd g/\l<=r/\r<=k/\r-l<=k-j/\(∀i,i<l->Ky R ys (lo+i)<=Ky R ys (lo+k))/\∀i,r<=i->i<k->Ky R ys (lo+k)<Ky R ys (lo+i)) ?_ ?_ ⟨0,k,rfl,rfl,by lia,by lia,by lia,λi hi=>absurd hi (cO _),λi hi hi'=>absurd hi' (by lia)⟩) ?_)
  ·rintro j q st _ hj ⟨l,r,rfl,rfl,b1,b2,b3,b4,b5⟩
   dsimp only
   by_cases e:l ≥ r
   ·rw[if_pos e]
    exact gD ⟨l,r,rfl,rfl,by lia,b4,λi hi hi'=>b5 i (by lia) hi'⟩
   ·rw[if_neg e]
    refine gC (zd3 c gy (by lia) (by lia) ?_)
    dsimp only
    by_cases hlt:Ky R ys (lo+k)<Ky R ys (lo+(l+r) / 2)
    ·rw[decide_eq_true hlt,if_pos rfl]
     exact gD ⟨l,_,rfl,rfl,by lia,by lia,by lia,b4,λi hi hi'=>by
      have:=hu (lo+(l+r) / 2) (lo+i) (by lia) (by lia) (by lia)
      lia⟩
    ·rw[decide_eq_false hlt,if_neg aD]
     exact gD ⟨_,r,rfl,rfl,by lia,by lia,by lia,λi hi=>by
      have:=hu (lo+i) (lo+(l+r) / 2) (by lia) (by lia) (by lia)
      lia,b5⟩
  ·rintro q st ⟨l,r,rfl,rfl,b1,b2,b3,b4,b5⟩
   exact⟨l,r,rfl,rfl,by lia,b4,λi hi hi'=>b5 i (by lia) hi'⟩
  ·rintro q st ⟨l,r,rfl,rfl,b1,b2,b3⟩
   dsimp only
   refine gC (xj7 (gD ⟨rfl,_,rfl,hs.trans ⟨bubble_size _ _ _,(bubble_perm _ _ _).toList,λp hp=>?_⟩,?_⟩))
   ·rw[getElem?_bubble (by lia) _ (by lia),if_neg (by lia),if_neg (by lia)]
   ·have kb:∀p,Ky R (bubble ys (lo+k) (lo+k-(lo+l))) p=if p=lo+l then Ky R ys (lo+k) else if lo+l<p/\p<=lo+k then Ky R ys (p-1) else Ky R ys p:=λp=>by
     have e:=getElem?_bubble (xs:=ys) (src:=lo+k) (by lia) (lo+k-(lo+l)) (by lia) p
     rw[show lo+k-(lo+k-(lo+l))=lo+l by lia]at e
     split
     ·rename_i hp
      rw[if_pos hp]at e
      exact zd2 e
     ·rename_i hp
      rw[if_neg hp]at e
      split
      ·rename_i hp'
       rw[if_pos hp']at e
       exact zd2 e
      ·rename_i hp'
       rw[if_neg hp']at e
       exact zd2 e
    intro i j hi hij hj
    rw[kb,kb]
    have c1:∀q,lo<=q->q<lo+l->Ky R ys q<=Ky R ys (lo+k):=λq h1 h2=>by
     have:=b2 (q-lo) (by lia)
     rwa [show lo+(q-lo)=q by lia]at this
    have c2:∀q,lo+l<=q->q<lo+k->Ky R ys (lo+k)<Ky R ys q:=λq h1 h2=>by
     have:=b3 (q-lo) (by lia) (by lia)
     rwa [show lo+(q-lo)=q by lia]at this
    by_cases i1:i=lo+l
    ·rw[if_pos i1]
     by_cases j1:j=lo+l
     ·rw[if_pos j1];exact du _
     ·rw[if_neg j1,if_pos (by lia)]
      exact bM (c2 _ (by lia) (by lia))
    ·rw[if_neg i1]
     by_cases i2:lo+l<i/\i<=lo+k
     ·rw[if_pos i2,if_neg (by lia),if_pos (by lia)]
      exact hu _ _ (by lia) (by lia) (by lia)
     ·rw[if_neg i2]
      by_cases j1:j=lo+l
      ·rw[if_pos j1]
       exact c1 _ hi (by lia)
      ·rw[if_neg j1]
       by_cases j2:lo+l<j/\j<=lo+k
       ·rw[if_pos j2]
        exact hu _ _ (by lia) (by lia) (by lia)
       ·rw[if_neg j2]
        exact hu _ _ (by lia) (by lia) (by lia)
 ·rintro q st ⟨rfl,ys,rfl,hs,hu⟩
  rw[show max (max ok 1) n=n by lia]at hu
  exact⟨rfl,ys,rfl,hs,hu⟩
 ·rintro q st ⟨rfl,ys,rfl,hs,hu⟩
  exact gD (h ys hs hu)
end
end SortG
namespace SortG
open PySem PyProof.Rows
section
variable {M:Model}{A:gu}{E:Value->fZ->Prop}{s:fZ}{κ:SortKind}{G:Keyed->Prop}{R:Keyed->Int}{xs:Array Keyed}{pd:Array (Nat×Nat×Nat)}{g:Nat}
theorem xs3 {st st':SortSt}{Q:PUnit->SortSt->Prop}(h:Q ⟨⟩ st'):wpS M A E s (set st':StateT SortSt Sem PUnit) Q st:=by
 unfold wpS
 rw[StateT.run_set]
 exact gc ⟨rfl,h⟩
theorem yg5 :∀(m:List Keyed) (n:Nat) (xs:Array Keyed),o+n+m.length<=xs.size->((m.zipIdx n).foldl (λa (q:Keyed×Nat)=>a.setIfInBounds (o+q.2) q.1) xs).toList=xs.toList.take (o+n)++m++xs.toList.drop (o+n+m.length)
 | [],n,xs,h=>by simp
 | p::m,n,xs,h=>by
  rw[List.zipIdx_cons,List.foldl_cons,yg5 m (n+1) _ (by simp at h ⊢;lia)]
  rw[aC]at h
  have e:(xs.setIfInBounds (o+n) p).toList=xs.toList.take (o+n)++p::xs.toList.drop (o+n+1):=by
   rw[Array.toList_setIfInBounds,List.set_eq_take_append_cons_drop,if_pos (by simp;lia)]
  have hl:(xs.toList.take (o+n)).length=o+n:=by simp;lia
  have hd:xs.toList.drop (o+n+(m.length+1))=(xs.toList.drop (o+n+1)).drop m.length:=by rw[fN];congr 1;lia
  rw[aC,hd]
  dsimp only
  rw[e]
  generalize xs.toList.take (o+n)=T at hl ⊢
  generalize xs.toList.drop (o+n+1)=D
  rw[show o+(n+1)+m.length=T.length+(m.length+1) by lia,show o+(n+1)=T.length+1 by lia,List.take_length_add_append,List.drop_length_add_append,List.drop_succ_cons]
  simp
theorem xh3 {lo hi:Nat}(hz:hi<=xs.size)(u:∀i j,lo<=i->i<=j->j<hi->Ky R xs i<=Ky R xs j):SL R (xs.extract lo hi).toList:=by
 unfold SL
 rw[bD]
 intro i j hi' hj' hij
 have hj:j<hi-lo:=by rw[aK,Array.size_extract]at hj';lia
 have:=u (lo+i) (lo+j) (by lia) (by lia) (by lia)
 unfold Ky at this
 have e:∀k (h:k<(xs.extract lo hi).toList.length),(xs.extract lo hi).toList[k]=xs.getD (lo+k) dk:=λk h=>by
  have hk:k<hi-lo:=by rw[aK,Array.size_extract]at h;lia
  rw[Array.getElem_toList,Array.getElem_extract]
  simp[Array.getD,show lo+k<xs.size by lia]
 rw[e,e]
 exact this
theorem B7 {lo hi:Nat}(hz:hi<=xs.size)(h:x∈(xs.extract lo hi).toList):∃j,lo<=j/\j<hi/\x=xs.getD j dk:=by
 rw[Array.toList_extract]at h
 simp only[List.extract]at h
 obtain⟨j,h1,h2,rfl⟩:=zf6 h
 exact⟨lo+j,by lia,by lia,rfl⟩
theorem yp4 {lo hi k:Nat}(hz:hi<=xs.size)(hk:lo+k<hi):(xs.extract lo hi).getD k dk=xs.getD (lo+k) dk:=by
 have h:k<(xs.extract lo hi).size:=by rw[Array.size_extract];lia
 rw[Array.getD,dif_pos h,Array.getD,dif_pos (by lia)]
 exact Array.getElem_extract ..
theorem yl5 (c:Cmp M A E s κ G R){Q:Bool->SortSt->Prop}(hG:∀x∈xs.toList,G x)(hi:pd[i]?=some (sa,na,pw))(hi':pd[i+1]?=some (sb,nb,pw'))(e:sb=sa+na)(n0:0<na)(m0:0<nb)(hz:sb+nb<=xs.size)(u1:UpS R xs sa na)(u2:UpS R xs sb nb)
  (h:∀ys g',Seg xs ys sa (sb+nb)->UpS R ys sa (na+nb)->Q true (Sx κ ys ((pd.setIfInBounds i (sa,na+nb,pw)).eraseIdxIfInBounds (i+1)) g')):wpS M A E s (mergeAt' i) Q (Sx κ xs pd g):=by
 subst e
 refine gC (wpS_get ?_)
 dsimp only
 rw[show(pendingOf (Sx κ xs pd g))[i]?=some (sa,na,pw) from hi,show(pendingOf (Sx κ xs pd g))[i+1]?=some (sa+na,nb,pw') from hi']
 dsimp only
 refine gC (xs3 (gC (k8 (by lia) (gC (O0 c rfl (λi hi=>hG _ (o0 (by lia))) (hG _ (o0 (by lia))) (by lia) (by lia) (λi j hij hj=>u1 _ _ (by lia) (by lia) (by lia)) λk hpre=>?_)))))
 obtain⟨hk1,hk2⟩:=hpre.no
 dsimp only
 generalize (pd.setIfInBounds i (sa,na+nb,pw)).eraseIdxIfInBounds (i+1)=pd' at h ⊢
 by_cases e1:na-k=0
 ·rw[if_pos (by simpa using e1)]
  refine gD (h xs g (Seg.refl _ _ _) λi j hi hij hj=>?_)
  by_cases h1:j<sa+na
  ·exact u1 i j hi hij h1
  ·by_cases h2:sa+na<=i
   ·exact u2 i j h2 hij (by lia)
   ·have a1:=(hk2 (i-sa) (by lia)).mpr (by lia)
    rw[show sa+(i-sa)=i by lia]at a1
    exact cv a1 (u2 _ j (ag _) (by lia) (by lia))
 rw[if_neg (by simpa using e1)]
 refine gC (k8 (by lia) (gC (O0 c rfl (λi hi=>hG _ (o0 (by lia))) (hG _ (o0 (by lia))) (by lia) (by lia) (λi j hij hj=>u2 _ _ (by lia) (by lia) (by lia)) λk1 hpre1=>?_)))
 obtain⟨hm1,hm2⟩:=hpre1.yes
 rw[show sa+k+(na-k)-1=sa+na-1 by lia]at hm2
 dsimp only
 by_cases e2:k1=0
 ·rw[if_pos (by simpa using e2)]
  refine gD (h xs g (Seg.refl _ _ _) λi j hi hij hj=>?_)
  by_cases h1:j<sa+na
  ·exact u1 i j hi hij h1
  ·by_cases h2:sa+na<=i
   ·exact u2 i j h2 hij (by lia)
   ·have a1:¬_:=λz=>absurd ((hm2 0 m0).mp z) (by lia)
    have a2:=u1 i (sa+na-1) hi (by lia) (by lia)
    exact cv a2 (cv (bS.mp a1) (u2 _ j (by lia) (by lia) (by lia)))
 rw[if_neg (by simpa using e2)]
 have hzx:sa+na<=xs.size:=by lia
 have hzy:sa+na+k1<=xs.size:=by lia
 have gx:∀x∈(xs.extract (sa+k) (sa+na)).toList,G x:=λx hx=>by
  obtain⟨j,h1,h2,rfl⟩:=B7 hzx hx
  exact hG _ (o0 (by lia))
 have gy:∀x∈(xs.extract (sa+na) (sa+na+k1)).toList,G x:=λx hx=>by
  obtain⟨j,h1,h2,rfl⟩:=B7 hzy hx
  exact hG _ (o0 (by lia))
 have ux:SL R (xs.extract (sa+k) (sa+na)).toList:=xh3 hzx λi j h1 h2 h3=>u1 i j (by lia) h2 h3
 have uy:SL R (xs.extract (sa+na) (sa+na+k1)).toList:=xh3 hzy λi j h1 h2 h3=>u2 i j h1 h2 (by lia)
 have sx:(xs.extract (sa+k) (sa+na)).size=na-k:=by rw[Array.size_extract];lia
 have sy:(xs.extract (sa+na) (sa+na+k1)).size=k1:=by rw[Array.size_extract];lia
 have hf:∀x∈(xs.extract (sa+k) (sa+na)).toList,R ((xs.extract (sa+na) (sa+na+k1)).getD 0 dk)<R x:=λx hx=>by
  obtain⟨j,h1,h2,rfl⟩:=B7 hzx hx
  rw[yp4 hzy (by lia)]
  have a1:¬_:=λz=>absurd ((hk2 (j-sa) (by lia)).mp z) (by lia)
  rw[show sa+(j-sa)=j by lia]at a1
  exact Int.not_le.mp a1
 have hl:∀x∈(xs.extract (sa+na) (sa+na+k1)).toList,R x<R ((xs.extract (sa+k) (sa+na)).getD ((xs.extract (sa+k) (sa+na)).size-1) dk):=λx hx=>by
  obtain⟨j,h1,h2,rfl⟩:=B7 hzy hx
  rw[sx,yp4 hzx (by lia),show sa+k+(na-k-1)=sa+na-1 by lia]
  have:=(hm2 (j-(sa+na)) (by lia)).mpr (by lia)
  rwa [show sa+na+(j-(sa+na))=j by lia]at this
 have fin:∀(out:Array Keyed) (st':SortSt),Sg (Sx κ xs pd' g) st'->out.toList.Perm ((xs.extract (sa+k) (sa+na)).toList++(xs.extract (sa+na) (sa+na+k1)).toList)->SL R out.toList->∃g',st'=Sx κ xs pd' g'/\Q true (Sx κ (out.toList.zipIdx.foldl (λa (q:Keyed×Nat)=>a.setIfInBounds (sa+k+q.2) q.1) xs) pd' g'):=λout st' sg hp hs=>by
  have hlen:out.toList.length=na-k+k1:=by rw[hp.length_eq,ah,aK,aK,sx,sy]
  have hosz:out.size=na-k+k1:=by rw[←aK];exact hlen
  refine⟨gallopOf st',?_,?_⟩
  ·obtain⟨a1,a2,a3,a4⟩:=sg
   cases st'
   cases a1;cases a2;cases a3;cases a4
   rfl
  have epl:=yg5 (o:=sa+k) out.toList 0 xs (by rw[hlen];lia)
  rw[fW,hlen,show sa+k+(na-k+k1)=sa+na+k1 by lia]at epl
  generalize out.toList.zipIdx.foldl (λa (q:Keyed×Nat)=>a.setIfInBounds (sa+k+q.2) q.1) xs=ys at epl ⊢
  have hys:ys.size=xs.size:=by
   have:=congrArg List.length epl
   simp only[ah,bo,bP,aK,hosz]at this
   lia
  have at_:∀p,ys[p]?=if p<sa+k then xs[p]? else if p<sa+na+k1 then out[p-(sa+k)]? else xs[p]?:=λp=>by
   rw[←bz,epl]
   have hl1:(xs.toList.take (sa+k)).length=sa+k:=by simp;lia
   by_cases p1:p<sa+k
   ·rw[if_pos p1,bj,aN (by lia),cq p1,bz]
   ·rw[if_neg p1]
    by_cases p2:p<sa+na+k1
    ·rw[if_pos p2,aN (by rw[ah,hl1,hlen];lia),aX (by lia),hl1,bz]
    ·rw[if_neg p2,aX (by rw[ah,hl1,hlen];lia),cM,ah,hl1,hlen,bz]
     congr 1
     lia
  have mem:∀z∈out.toList,∃j,sa+k<=j/\j<sa+na+k1/\z=xs.getD j dk:=λz hz=>by
   rcases aF.mp (hp.mem_iff.mp hz) with q|q
   ·obtain⟨j,h1,h2,rfl⟩:=B7 hzx q
    exact⟨j,h1,by lia,rfl⟩
   ·obtain⟨j,h1,h2,rfl⟩:=B7 hzy q
    exact⟨j,by lia,h2,rfl⟩
  refine h ys _ ⟨hys,?_,λp hp'=>?_⟩ ?_
  ·rw[epl]
   have ex:xs.toList=xs.toList.take (sa+k)++((xs.extract (sa+k) (sa+na)).toList++(xs.extract (sa+na) (sa+na+k1)).toList)++xs.toList.drop (sa+na+k1):=by
    have q1:=za9 (a:=xs) (sa+k) (na-k)
    have q2:=za9 (a:=xs) (sa+na) k1
    rw[←zo2,show sa+k+(na-k)=sa+na by lia]at q1
    rw[←zo2]at q2
    rw[bj,bj,←q2,←q1,ci]
   conv=>rhs;rw[ex]
   exact List.Perm.append_right _ (List.Perm.append_left _ hp)
  ·rw[at_]
   split
   ·rfl
   ·rw[if_neg (by lia)]
  ·
   have lowk:∀i,sa<=i->i<sa+k->∀j,i<=j->j<sa+na+nb->Ky R xs i<=Ky R xs j:=λi h1 h2 j h3 h4=>by
    by_cases q:j<sa+na
    ·exact u1 i j h1 h3 q
    ·have a1:=(hk2 (i-sa) (by lia)).mpr (by lia)
     rw[show sa+(i-sa)=i by lia]at a1
     exact cv a1 (u2 _ j (ag _) (by lia) (by lia))
   have highk:∀j,sa+na+k1<=j->j<sa+na+nb->∀i,sa<=i->i<=j->Ky R xs i<=Ky R xs j:=λj h1 h2 i h3 h4=>by
    by_cases q:sa+na<=i
    ·exact u2 i j q h4 (by lia)
    ·have a1:¬_:=λz=>absurd ((hm2 (j-(sa+na)) (by lia)).mp z) (by lia)
     rw[show sa+na+(j-(sa+na))=j by lia]at a1
     exact cv (u1 i (sa+na-1) h3 (by lia) (by lia)) (bS.mp a1)
   have kl:∀p,p<sa+k->Ky R ys p=Ky R xs p:=λp hp'=>zd2 (by rw[at_,if_pos hp'])
   have kh:∀p,sa+na+k1<=p->Ky R ys p=Ky R xs p:=λp hp'=>zd2 (by rw[at_,if_neg (by lia),if_neg (by lia)])
   have km:∀p,sa+k<=p->p<sa+na+k1->Ky R ys p=R (out.getD (p-(sa+k)) dk)/\out.getD (p-(sa+k)) dk∈out.toList:=λp h1 h2=>⟨zd2 (R:=R) (xs:=out) (j:=p-(sa+k)) (by rw[at_,if_neg (by lia),if_pos h2]),o0 (by lia)⟩
   intro i j hi hij hj
   by_cases i1:i<sa+k
   ·rw[kl i i1]
    by_cases j1:j<sa+k
    ·rw[kl j j1]
     exact lowk i hi i1 j hij (by lia)
    ·by_cases j2:j<sa+na+k1
     ·obtain⟨q1,q2⟩:=km j (by lia) j2
      obtain⟨z,z1,z2,z3⟩:=mem _ q2
      rw[q1,z3]
      exact lowk i hi i1 z (by lia) (by lia)
     ·rw[kh j (by lia)]
      exact lowk i hi i1 j hij (by lia)
   ·by_cases i2:i<sa+na+k1
    ·obtain⟨q1,q2⟩:=km i (by lia) i2
     by_cases j2:j<sa+na+k1
     ·obtain⟨q3,q4⟩:=km j (by lia) j2
      rw[q1,q3]
      exact hs.get (by lia) (by lia)
     ·obtain⟨z,z1,z2,z3⟩:=mem _ q2
      rw[q1,z3,kh j (by lia)]
      exact highk j (by lia) (by lia) z (by lia) (by lia)
    ·rw[kh i (by lia),kh j (by lia)]
     exact highk j (by lia) (by lia) i hi hij
 by_cases e3:na-k<=k1
 ·rw[if_pos e3]
  refine gC (yl7 c rfl gx gy ux uy (by lia) (by lia) (λx hx=>bM (hf x hx)) hl λout st' sg hp hs=>?_)
  obtain⟨g',rfl,hq⟩:=fin out st' sg hp hs
  exact gC (wpS_modify (gC (wpS_get (gD hq))))
 ·rw[if_neg e3]
  refine gC (yl6 c rfl gx gy ux uy (by lia) (by lia) hf hl λout st' sg hp hs=>?_)
  obtain⟨g',rfl,hq⟩:=fin out st' sg hp hs
  exact gC (wpS_modify (gC (wpS_get (gD hq))))
end
end SortG
namespace SortG
open PySem PyProof.Rows
section
variable {M:Model}{A:gu}{E:Value->fZ->Prop}{s:fZ}{κ:SortKind}{G:Keyed->Prop}{R:Keyed->Int}{xs ys:Array Keyed}{pd:Array (Nat×Nat×Nat)}{g:Nat}
def S6 (R:Keyed->Int)(xs:Array Keyed):List (Nat×Nat×Nat)->Nat->Nat->Prop
 | [],a,b=>a=b
 | (st,n,_)::r,a,b=>st=a/\0<n/\UpS R xs a n/\S6 R xs r (a+n) b
theorem S6.le:∀{l:List (Nat×Nat×Nat)} {a b:Nat},S6 R xs l a b->a+l.length<=b
 | [],a,b,h=>by cases h;exact ag _
 | (st,n,_)::r,a,b,h=>by
  have:=S6.le h.2.2.2
  have:=h.2.1
  rw[aC]
  lia
theorem C5:∀{l l':List (Nat×Nat×Nat)} {a b:Nat},S6 R xs (l++l') a b↔∃m,S6 R xs l a m/\S6 R xs l' m b
 | [],l',a,b=>⟨λh=>⟨a,rfl,h⟩,λ⟨m,h1,h2⟩=>by cases h1;exact h2⟩
 | (st,n,p)::r,l',a,b=>by
  constructor
  ·rintro⟨h1,h2,h3,h4⟩
   obtain⟨m,h5,h6⟩:=C5.mp h4
   exact⟨m,⟨h1,h2,h3,h5⟩,h6⟩
  ·rintro⟨m,⟨h1,h2,h3,h5⟩,h6⟩
   exact⟨h1,h2,h3,C5.mpr ⟨m,h5,h6⟩⟩
theorem UpS.seg {lo n l h:Nat}(u:UpS R xs lo n)(hs:Seg xs ys l h)(ho:lo+n<=l∨h<=lo):UpS R ys lo n:=λi j h1 h2 h3=>by
 rw[hs.ky (by lia),hs.ky (by lia)]
 exact u i j h1 h2 h3
theorem S6.seg (hs:Seg xs ys l0 h0):∀{l:List (Nat×Nat×Nat)} {a b:Nat},S6 R xs l a b->(b<=l0∨h0<=a)->S6 R ys l a b
 | [],a,b,h,_=>h
 | (st,n,_)::r,a,b,⟨h1,h2,h3,h4⟩,ho=>by
  have:=h4.le
  exact⟨h1,h2,h3.seg hs (by lia),S6.seg hs h4 (by lia)⟩
theorem zd5 (c:Cmp M A E s κ G R){i lo:Nat}{Q:Bool->SortSt->Prop}(hG:∀x∈xs.toList,G x)(hr:S6 R xs pd.toList 0 lo)(hlo:lo<=xs.size)(hi:i+1<pd.size)
  (h:∀ys pd' g',Seg xs ys 0 lo->S6 R ys pd'.toList 0 lo->pd'.size+1=pd.size->Q true (Sx κ ys pd' g')):wpS M A E s (mergeAt' i) Q (Sx κ xs pd g):=by
 obtain⟨l1,X,Y,l2,e,e1⟩:∃l1 X Y l2,pd.toList=l1++X::Y::l2/\l1.length=i:=by
  refine⟨pd.toList.take i,pd[i],pd[i+1],pd.toList.drop (i+1+1),?_,by simp;lia⟩
  rw[←Array.getElem_toList,←Array.getElem_toList,←cy (by simp;lia),←cy (by simp;lia),ci]
 obtain⟨sa,na,pw⟩:=X
 obtain⟨sb,nb,pw'⟩:=Y
 rw[e]at hr
 obtain⟨m,r1,a1,a2,a3,b1,b2,b3,r2⟩:=C5.mp hr
 subst a1 b1
 have hle:=r2.le
 have hl1:=r1.le
 have p1:pd[i]?=some (sa,na,pw):=by rw[←bz,e,←e1];simp
 have p2:pd[i+1]?=some (sa+na,nb,pw'):=by rw[←bz,e,←e1];simp
 refine yl5 c hG p1 p2 rfl a2 b2 (by lia) a3 b3 λys g' hs hu=>?_
 have e2:((pd.setIfInBounds i (sa,na+nb,pw)).eraseIdxIfInBounds (i+1)).toList=l1++(sa,na+nb,pw)::l2:=by
  rw[Array.toList_eraseIdxIfInBounds,Array.toList_setIfInBounds,e,←e1,List.set_append_right _ _ (ag _),cX,List.set_cons_zero,List.eraseIdx_append_of_length_le (by lia),show l1.length+1-l1.length=1 by lia]
  rfl
 refine h ys _ g' (hs.mono (by lia) (by lia)) ?_ ?_
 ·rw[e2]
  exact C5.mpr ⟨sa,r1.seg hs (by lia),rfl,by lia,hu,by rw[show sa+(na+nb)=sa+na+nb by lia];exact r2.seg hs (by lia)⟩
 ·have:=congrArg List.length e2
  have h3:=congrArg List.length e
  simp only[ah,aC,aK]at this h3
  lia
theorem xe9 (hr:S6 R xs pd.toList 0 n)(h:pd.size<=1):UpS R xs 0 n:=by
 cases e:pd.toList with
 | nil =>
  rw[e]at hr
  cases hr
  exact λi j h1 h2 h3=>absurd h3 (by lia)
 | cons x l =>
  have hl:l=[]:=List.eq_nil_of_length_eq_zero (by have:=congrArg List.length e;rw[aC,aK]at this;lia)
  rw[e,hl]at hr
  obtain⟨st,m,p⟩:=x
  obtain⟨h1,h2,h3,h4⟩:=hr
  cases h4
  rwa [cW]
theorem yg9 {f:Nat×Nat×Nat->Nat×Nat×Nat}(hf:∀x,(f x).1=x.1/\(f x).2.1=x.2.1):∀{l:List (Nat×Nat×Nat)} {j a b:Nat},S6 R xs l a b->S6 R xs (l.modify j f) a b
 | [],j,a,b,h=>by simpa using h
 | x::l,0,a,b,h=>by
  obtain⟨st,m,p⟩:=x
  rw[List.modify_zero_cons]
  obtain⟨e1,e2⟩:=hf (st,m,p)
  generalize f (st,m,p)=y at e1 e2
  obtain⟨st',m',p'⟩:=y
  cases e1
  cases e2
  exact h
 | x::l,j+1,a,b,h=>by
  obtain⟨st,m,p⟩:=x
  rw[List.modify_succ_cons]
  exact⟨h.1,h.2.1,h.2.2.1,yg9 hf h.2.2.2⟩
theorem sortRuns_ok (c:Cmp M A E s κ G R){Q:Unit->SortSt->Prop}(hG:∀x∈xs.toList,G x)
  (h:∀ys pd' g',ys.toList.Perm xs.toList->ys.size=xs.size->UpS R ys 0 xs.size->Q () (Sx κ ys pd' g')):wpS M A E s sortRuns' Q (Sx κ xs #[] g):=by
 rw[sortRuns'_eq]
 refine gC (wpS_get ?_)
 dsimp only
 rw[show(arrOf (Sx κ xs #[] g)).size=xs.size from rfl]
 generalize minRun' xs.size xs.size 0=mr
 refine gC (wpS_mono (Q:=λq st=>∃ys pd' g',q=(none,xs.size)/\st=Sx κ ys pd' g'/\Seg xs ys 0 xs.size/\S6 R ys pd'.toList 0 xs.size) (gE (I:=λj q st=>∃lo ys pd' g',q=(none,lo)/\st=Sx κ ys pd' g'/\Seg xs ys 0 xs.size/\S6 R ys pd'.toList 0 lo/\lo<=xs.size/\j<=lo) ?_ ?_ ⟨0,xs,#[],g,rfl,rfl,Seg.refl _ _ _,rfl,aP _,ag _⟩) ?_)
 ·rintro j q st _ hj ⟨lo,ys,pd',g',rfl,rfl,hs,hr,hlo,hjl⟩
  dsimp only
  by_cases e1:lo ≥ xs.size
  ·rw[if_pos e1]
   obtain rfl:lo=xs.size:=by lia
   exact gD ⟨ys,pd',g',rfl,rfl,hs,hr⟩
  rw[if_neg e1]
  have gy:∀{zs:Array Keyed},Seg xs zs 0 xs.size->∀x∈zs.toList,G x:=λhs x hx=>hG x (hs.perm.mem_iff.mp hx)
  refine gC (yx6 c (gy hs) (by lia) (by rw[hs.size];lia) λm zs hm1 hm2 hsz hum=>?_)
  have hs1:Seg xs zs 0 xs.size:=hs.trans (hsz.mono (by lia) (by lia))
  have hr1:S6 R zs pd'.toList 0 lo:=hr.seg hsz (by lia)
  dsimp only
  rcases dH m mr with e2|e2
  all_goals first|rw[if_pos e2]|rw[if_neg (by lia)]
  all_goals first
   | (
     have e3:m<mr:=e2
     refine gC (A2 (gC (xo9 c (gy hs1) hm1 (by lia) (by rw[hs1.size];lia) hum λvs hv huv=>?_)))
     rw[if_neg (by simp)]
     have hs2:Seg xs vs 0 xs.size:=hs1.trans (hv.mono (by lia) (by lia))
     have hr2:S6 R vs pd'.toList 0 lo:=hr1.seg hv (by lia)
     have hN:0<min (xs.size-lo) mr/\lo+min (xs.size-lo) mr<=xs.size:=by lia
     generalize min (xs.size-lo) mr=N at huv hN ⊢)
   | (
     obtain⟨vs,evs⟩:∃vs,vs=zs:=⟨_,rfl⟩
     rw[←evs]at hs1 hr1 hum ⊢
     have hs2:=hs1
     have hr2:=hr1
     have hN:0<m/\lo+m<=xs.size:=by lia
     have huv:=hum
     generalize m=N at huv hN ⊢)
  all_goals
   refine gC (wpS_get ?_)
   have last:∀{us:Array Keyed} {pd2:Array (Nat×Nat×Nat)},S6 R us pd2.toList 0 lo->UpS R us lo N->S6 R us (pd2.push (lo,N,0)).toList 0 (lo+N):=λhr hu=>by
    rw[Array.toList_push]
    exact C5.mpr ⟨lo,hr,rfl,hN.1,hu,rfl⟩
   have eb:(pendingOf (Sx κ vs pd' g')).back?=pd'.back?:=rfl
   rw[eb]
   cases pd'.back? with
   | none=>exact gC (wpS_modify (gD ⟨_,_,_,_,rfl,rfl,hs2,last hr2 huv,hN.2,by lia⟩))
   | some x =>
    obtain⟨s1,n1,x⟩:=x
    dsimp only
    generalize power' xs.size (2*s1+n1) (2*s1+n1+n1+N) xs.size=pw
    refine gC (wpS_mono (Q:=λq st=>q=(none,())/\∃us pd2 g2,st=Sx κ us pd2 g2/\Seg xs us 0 xs.size/\S6 R us pd2.toList 0 lo/\UpS R us lo N) (gE (I:=λ_ q st=>q=(none,())/\∃us pd2 g2,st=Sx κ us pd2 g2/\Seg xs us 0 xs.size/\S6 R us pd2.toList 0 lo/\UpS R us lo N) ?_ ?_ ⟨rfl,vs,pd',g',rfl,hs2,hr2,huv⟩) ?_)
    ·rintro j2 q st _ _ ⟨rfl,us,pd2,g2,rfl,hsu,hru,huu⟩
     refine gC (wpS_get ?_)
     have ep:pendingOf (Sx κ us pd2 g2)=pd2:=rfl
     rw[ep]
     cases eo:(if pd2.size > 1 then pd2[pd2.size-2]? else none) with
     | none=>exact gD ⟨rfl,us,pd2,g2,rfl,hsu,hru,huu⟩
     | some y =>
      obtain⟨y1,y2,y3⟩:=y
      have hp2:pd2.size > 1:=Classical.byContradiction λz=>by rw[if_neg z]at eo;cases eo
      dsimp only
      by_cases e5:y3<=pw
      ·rw[if_pos e5]
       exact gD ⟨rfl,us,pd2,g2,rfl,hsu,hru,huu⟩
      ·rw[if_neg e5]
       refine gC (zd5 c (gy hsu) hru (by rw[hsu.size];lia) (by lia) λws pd3 g3 hsw hrw _=>?_)
       rw[if_neg (by simp)]
       exact gD ⟨rfl,ws,pd3,g3,rfl,hsu.trans (hsw.mono (by lia) (by lia)),hrw,huu.seg hsw (by lia)⟩
    ·rintro q st hq
     exact hq
    ·rintro q st ⟨rfl,us,pd2,g2,rfl,hsu,hru,huu⟩
     refine gC (wpS_modify (gC (wpS_modify (gD ⟨_,us,_,g2,rfl,rfl,hsu,last ?_ huu,hN.2,by lia⟩))))
     show S6 R us (pd2.modify (pd2.size-1) _).toList 0 lo
     rw[Array.toList_modify]
     exact yg9 (f:=λx=>(x.1,x.2.1,pw)) (λx=>⟨rfl,rfl⟩) hru
 ·rintro q st ⟨lo,ys,pd',g',rfl,rfl,hs,hr,hlo,hjl⟩
  obtain rfl:lo=xs.size:=by lia
  exact⟨ys,pd',g',rfl,rfl,hs,hr⟩
 ·rintro q st ⟨ys,pd',g',rfl,rfl,hs,hr⟩
  dsimp only
  have gy:∀{zs:Array Keyed},Seg xs zs 0 xs.size->∀x∈zs.toList,G x:=λhs x hx=>hG x (hs.perm.mem_iff.mp hx)
  have hlen:=hr.le
  rw[aK,cW]at hlen
  refine gC (wpS_mono (Q:=λq st=>q=(none,())/\∃us pd2 g2,st=Sx κ us pd2 g2/\Seg xs us 0 xs.size/\S6 R us pd2.toList 0 xs.size/\pd2.size<=1) (gE (I:=λj q st=>q=(none,())/\∃us pd2 g2,st=Sx κ us pd2 g2/\Seg xs us 0 xs.size/\S6 R us pd2.toList 0 xs.size/\pd2.size+j<=xs.size) ?_ ?_ ⟨rfl,ys,pd',g',rfl,hs,hr,by lia⟩) ?_)
  ·rintro j q st _ hj ⟨rfl,us,pd2,g2,rfl,hsu,hru,hle⟩
   refine gC (wpS_get ?_)
   have ep:pendingOf (Sx κ us pd2 g2)=pd2:=rfl
   rw[ep]
   by_cases e1:pd2.size<=1
   ·rw[if_pos e1]
    exact gD ⟨rfl,us,pd2,g2,rfl,hsu,hru,e1⟩
   rw[if_neg e1]
   obtain⟨i,ei,hi⟩:∃i,(if Option.any (λx=>decide (x<(pd2[pd2.size-2+1]?.elim 0 λx=>x.snd.fst))) (if pd2.size-2 > 0 then Option.map (λx=>x.snd.fst) pd2[pd2.size-2-1]? else none)=true then pd2.size-2-1 else pd2.size-2)=i/\i+1<pd2.size:=by
    have ite:∀{p:Prop} [Decidable p] {a b n:Nat},a<n->b<n->(if p then a else b)<n:=λh1 h2=>by
     split
     ·exact h1
     ·exact h2
    exact⟨_,rfl,Nat.add_lt_of_lt_sub (ite (by lia) (by lia))⟩
   rw[ei]
   refine gC (zd5 c (gy hsu) hru (by rw[hsu.size];exact ag _) hi λws pd3 g3 hsw hrw hsz=>?_)
   rw[if_neg (by simp)]
   exact gD ⟨rfl,ws,pd3,g3,rfl,hsu.trans hsw,hrw,by lia⟩
  ·rintro q st ⟨rfl,us,pd2,g2,rfl,hsu,hru,hle⟩
   exact⟨rfl,us,pd2,g2,rfl,hsu,hru,by lia⟩
  ·rintro q st ⟨rfl,us,pd2,g2,rfl,hsu,hru,hle⟩
   exact gD (h us pd2 g2 hsu.perm hsu.size (xe9 hru hle))
end
end SortG
namespace L2
open PySem PySem.Spec PyProof.Rows
section
variable {prog:gf}{w:gq}{A:gu}{E:Value->fZ->Prop}{s:fZ}
theorem xb9:∀{vs ws:List Value} {xs ys:List Int} {i:Nat} {Q:Bool->fZ->Prop} {fin:Bool},IntsAre vs xs->IntsAre ws ys->fin=decide (xs.length<ys.length)->Q (HT.lexLt xs ys) s->W.KatLex prog w A true fin Q (vs.zip ws) i s
 | _,_,_,_,i,Q,fin,.nil,.nil,hf,h=>by
  rw[hf]
  exact W.kat_nil h
 | _,_,_,_,i,Q,fin,.nil,.cons _ _ _,hf,h=>by
  rw[hf]
  exact W.kat_nil h
 | _,_,_,_,i,Q,fin,.cons _ _ _,.nil,hf,h=>by
  rw[hf]
  exact W.kat_nil h
 | _,_,_,_,i,Q,fin,.cons (ns:=xs) a t r,.cons (ns:=ys) b u r',hf,h=>by
  rw[HT.lexLt_cons]at h
  refine W.kat_cons (wpAny_eqBool_int (W.kat_go (λe1=>W.kat_yes ?_) (λe1=>W.kat_no ?_)))
  ·rw[beq_iff_eq]at e1
   rw[if_pos e1]at h
   exact xb9 r r' (by rw[hf];simp) h
  ·have e1':¬a=b:=by simpa using e1
   rw[if_neg e1']at h
   cases i with
   | zero =>
    show gh (gn prog w) A (oneLt' true _ _) Q _ s
    exact oneLt_int h
   | succ i =>
    show gh (gn prog w) A (oneLt' false _ _) Q _ s
    exact W.kat_one _ _ (PyProof.Rows.lt_int h)
def P4 (h:Heap)(b:Addr)(x:List Int):Prop:=∃us:List Value,IsTup h b us.toArray/\IntsAre us x
theorem P4.at {h h':Heap}(p:P4 h b x)(k:∀o,h.get? b=some o->h'.get? b=some o):P4 h' b x:=by
 obtain⟨us,⟨o,ho,r⟩,i⟩:=p
 exact⟨us,⟨o,k o ho,r⟩,i⟩
theorem xu8 (hb:P4 s.heap b x)(hc:P4 s.heap c y){Q:Bool->fZ->Prop}(h:Q (HT.lexLt x y) s):gh (gn prog w) A (keyLt' (tuples' true) (.ref b) (.ref c)) Q E s:=by
 obtain⟨us,⟨o,ho,_,n,hd⟩,i⟩:=hb
 obtain⟨us',⟨o',ho',_,n',hd'⟩,i'⟩:=hc
 refine W.kat_lt ho hd ho' hd' ?_
 rw[de,de]
 refine xb9 i i' ?_ h
 rw[aA,aA,i.length,i'.length]
def rkL (rs:List (List Int))(x:List Int):Int:=((rs.filter λy=>HT.lexLt y x).length:Nat)
theorem yu8 (h1:HT.lexLt x y=true)(h2:HT.lexLt y z=true):HT.lexLt x z=true:=by
 cases h:HT.lexLt x z with
 | true=>rfl
 | false=>rw[yl1 (xc0 h2) h]at h1;cases h1
theorem xs1 (rs:List (List Int))(h:HT.lexLt y x=false):rkL rs x<=rkL rs y:=by
 unfold rkL
 refine Int.ofNat_le.mpr ?_
 induction rs with
 | nil=>exact ag _
 | cons z rs ih =>
  rw[dO,dO]
  cases e:HT.lexLt z x with
  | false =>
   rw[if_neg aD]
   split
   ·exact Nat.le_succ_of_le ih
   ·exact ih
  | true =>
   have:HT.lexLt z y=true:=by
    cases e':HT.lexLt z y with
    | true=>rfl
    | false=>rw[yl1 h e']at e;cases e
   rw[if_pos rfl,if_pos this,aC,aC]
   lia
theorem xe5 (rs:List (List Int))(hx:x∈rs)(h:HT.lexLt x y=true):rkL rs x<rkL rs y:=by
 have key:∀l:List (List Int),(l.filter λz=>HT.lexLt z x).length<=(l.filter λz=>HT.lexLt z y).length/\(x∈l->(l.filter λz=>HT.lexLt z x).length<(l.filter λz=>HT.lexLt z y).length):=λl=>by
  induction l with
  | nil=>exact⟨ag _,λz=>by cases z⟩
  | cons z l ih =>
   rw[dO,dO]
   cases e:HT.lexLt z x with
   | true =>
    rw[if_pos rfl,if_pos (yu8 e h),aC,aC]
    refine⟨by lia,λhz=>?_⟩
    rcases aw.mp hz with q|q
    ·rw[q,yp8]at e
     cases e
    ·have:=ih.2 q
     lia
   | false =>
    rw[if_neg aD]
    by_cases e':HT.lexLt z y=true
    ·rw[if_pos e',aC]
     exact⟨by lia,λ_=>by lia⟩
    ·rw[if_neg e']
     refine⟨ih.1,λhz=>?_⟩
     rcases aw.mp hz with q|q
     ·rw[←q]at e'
      exact absurd h e'
     ·exact ih.2 q
 unfold rkL
 exact Int.ofNat_lt.mpr ((key rs).2 hx)
theorem xl6 (rs:List (List Int))(hx:x∈rs):decide (rkL rs x<rkL rs y)=HT.lexLt x y:=by
 cases h:HT.lexLt x y with
 | true=>exact decide_eq_true (xe5 rs hx h)
 | false=>exact decide_eq_false (bS.mpr (xs1 rs h))
theorem yv9 {as:List Addr}(hp:Paired (P4 h) as rs)(hne:∀r∈rs,r≠[]):∃fs,W.KatTups h (as.map Value.ref) fs/\fs.length=as.length/\∀v∈fs,∃i t,v=Value.int i t:=by
 induction hp with
 | nil=>exact⟨[],trivial,rfl,λv h=>(by cases h)⟩
 | cons a _ ih =>
  obtain⟨fs,h1,h2,h3⟩:=ih λr hr=>hne r (av _ hr)
  obtain⟨us,⟨o,ho,hc,n,hd⟩,i⟩:=a
  cases i with
  | nil=>exact absurd rfl (hne _ ax)
  | cons x t r =>
   refine⟨Value.int x t::fs,W.KatTups.cons ho hc hd rfl h1,by rw[aC,aC,h2],λv hv=>?_⟩
   rcases aw.mp hv with z|z
   ·exact⟨_,_,z⟩
   ·exact h3 v z
theorem ya9 {h h':Heap}(hp:Paired (P4 h) as rs)(k:∀b∈as,∀o,h.get? b=some o->h'.get? b=some o):Paired (P4 h') as rs:=by
 induction hp with
 | nil=>exact .nil
 | cons f _ ih=>exact .cons (f.at λo eo=>k _ ax o eo) (ih λb hb'=>k b (av _ hb'))
theorem zd0:∀{us:List Value} {x y:List Int},IntsAre us x->IntsAre us y->x=y
 | _,_,_,.nil,.nil=>rfl
 | _,_,_,.cons a t r,.cons _ _ r'=>by rw[zd0 r r']
theorem zg9 (hx:P4 h b x)(hy:P4 h b y):x=y:=by
 obtain⟨us,⟨o,ho,_,n,hd⟩,i⟩:=hx
 obtain⟨us',⟨o',ho',_,n',hd'⟩,i'⟩:=hy
 rw[ho]at ho'
 cases ho'
 rw[hd]at hd'
 cases hd'
 exact zd0 i i'
def adr:Value->Addr
 | .ref a=>a
 | _=>0
theorem za4 {as:List Addr}{P:PySem.Fin->fZ->Prop}(ho:s.heap.get? a=some (gF "list" (as.map Value.ref).toArray n))(hp:Paired (P4 s.heap) as rs)(hne:∀b∈as,b≠a)(hb:∀x∈rs,x≠[])(h64:as.length<=400000)
  (q:∀(bs:List Addr) (qs:List (List Int)),bs.length=as.length->(∀b∈bs,b∈as)->Paired (P4 s.heap) bs qs->qs.Perm rs->qs.Pairwise (λx y=>HT.lexLt y x=false)->P (.done (.ret .none)) { s with heap:=sortedHeap s.heap a (as.map Value.ref) (bs.map Value.ref).toArray }) :
  gh (gn prog w) A (Builtin.«list.sort» ⟨[.ref a],[]⟩) P E s:=by
 have hlen:as.length=rs.length:=Paired.length hp
 have h16:=sizeLine_eq
 have hvl:(as.map Value.ref).length=as.length:=aa _
 rw[list_sort_plain]
 have ha:a<s.heap.objs.size:=az ho
 refine fY (listItems_at ho rfl (fY (listUpdate_at ho rfl ?_ (by rw[aA];lia) (aP _))))
 obtain⟨e1,ho1⟩:∃e1,(s.heap.update a (Obj.mapSeq λ_=>#[])).get? a=some (gF "list" #[] e1):=⟨_,get?_update_seq ho (λ_=>#[])⟩
 refine fY (seqEpoch_at ho1 rfl (fY (wpAny_newTuple (fY (wpAny_newList (gv ?_) (aP _))) (by show(as.map Value.ref).length<=_;lia))))
 have keep:∀b o,b≠a->s.heap.get? b=some o->(((s.heap.update a (Obj.mapSeq λ_=>#[])).push (gF "tuple" (as.map Value.ref).toArray 0)).push (gF "list" #[] 0)).get? b=some o:=λb o nb eb =>
  ao _ (ao _ ((Heap.get?_update_other _ _ (Ne.symm nb)).trans eb))
 have ho6:(((s.heap.update a (Obj.mapSeq λ_=>#[])).push (gF "tuple" (as.map Value.ref).toArray 0)).push (gF "list" #[] 0)).get? a=some (gF "list" #[] e1):=ao _ (ao _ ho1)
 have hp6:Paired (P4 (((s.heap.update a (Obj.mapSeq λ_=>#[])).push (gF "tuple" (as.map Value.ref).toArray 0)).push (gF "list" #[] 0))) as rs:=ya9 hp λb hb' o eo=>keep b o (hne b hb') eo
 show gh (gn prog w) A _ P E { s with heap:=((s.heap.update a (Obj.mapSeq λ_=>(#[]:Array Value))).push (gF "tuple" (as.map Value.ref).toArray 0)).push (gF "list" #[] 0) }
 dsimp only
 by_cases h2:(as.map Value.ref).toArray.size<2
 ·rw[if_pos h2,if_pos h2]
  refine fY (gc ?_)
  rw[StateT.run_pure]
  refine fY (gc ?_)
  dsimp only
  have hz:((as.map Value.ref).toArray.zip (as.map Value.ref).toArray).map (·.2)=(as.map Value.ref).toArray:=by
   apply fE.mp
   rw[fD,Array.toList_zip,de]
   exact List.map_snd_zip (ag _)
  refine fY (seqEpoch_at ho6 rfl (fY (listUpdate_at ho6 rfl ?_ (aP _) ?_)))
  ·simp only[bne_self_eq_false,bN,if_false]
   have hone:rs.Pairwise (λx y=>HT.lexLt y x=false):=by
    match rs,hlen with
    | [],_=>exact List.Pairwise.nil
    | [x],_=>exact List.pairwise_singleton _ _
    | _::_::r,hl =>
     rw[aA,hvl,hl,aC,aC]at h2
     lia
   have key:=q as rs rfl (λb hb=>hb) hp (List.Perm.refl _) hone
   have key2:∀o,o=(as.map Value.ref).toArray->P (.done (.ret .none)) { s with heap:=sortedHeap s.heap a (as.map Value.ref) o }:=λo e=>by rw[e];exact key
   exact gc (key2 _ hz)
  ·show(((as.map Value.ref).toArray.zip (as.map Value.ref).toArray).map (·.2)).size<=_
   rw[hz,aA]
   lia
 ·rw[if_neg h2,if_neg h2]
  rw[aA,hvl]at h2
  obtain⟨fs,t1,t2,t3⟩:=yv9 hp6 hb
  refine fY (W.kat_kind (T:=.type "int") t1 (by lia) (λv hv=>?_) rfl ?_)
  ·obtain⟨i,t,rfl⟩:=t3 v hv
   exact W.Looks.of_pure rfl
  show gh _ _ ((sortRuns').run (SortSt.mk' (tuples' true) _ _ _ _) >>= _) _ _ _
  obtain⟨rowOf,hrow⟩:∃rowOf:Addr->List Int,∀i b,as[i]?=some b->rs[i]?=some (rowOf b):=by
   refine⟨λb=>rs.getD (as.idxOf b) [],λi b hi=>?_⟩
   have hil:=(al.mp hi).1
   have hbm:=aq hi
   have h0:as.idxOf b<as.length:=List.idxOf_lt_length_iff.mpr hbm
   have e0:as[as.idxOf b]?=some b:=by rw[ae h0];simp
   have q1:=u0 hp i b _ hi (ae (show i<rs.length by lia))
   have q2:=u0 hp _ b _ e0 (ae (show as.idxOf b<rs.length by lia))
   rw[ae (show i<rs.length by lia),zg9 q1 q2]
   simp[ae (show as.idxOf b<rs.length by lia)]
  have hat:∀b∈as,rowOf b∈rs/\P4 s.heap b (rowOf b)/\P4 (((s.heap.update a (Obj.mapSeq λ_=>#[])).push (gF "tuple" (as.map Value.ref).toArray 0)).push (gF "list" #[] 0)) b (rowOf b):=λb hb'=>by
   obtain⟨i,hi⟩:=bZ hb'
   have hr:=hrow i b hi
   exact⟨aq hr,u0 hp i _ _ hi hr,u0 hp6 i _ _ hi hr⟩
  have hmap:as.map rowOf=rs:=cE λi=>by
   rw[af]
   cases e:as[i]? with
   | none=>rw[aW (by have:=eZ.mp e;lia)];rfl
   | some b=>rw[hrow i b e];rfl
  have hxs:((as.map Value.ref).toArray.zip (as.map Value.ref).toArray).toList=as.map λb=>((Value.ref b,Value.ref b):Keyed):=by
   rw[Array.toList_zip,de]
   clear hp hlen ho hne hb q hp6 t1 t2 hrow hat hmap keep ho1 ho6 hvl h64 h2
   induction as with
   | nil=>rfl
   | cons b as ih=>rw[aQ,aQ,List.zip_cons_cons,ih]
  have cmp:SortG.Cmp (gn prog w) A E ({ s with heap:=((s.heap.update a (Obj.mapSeq λ_=>(#[]:Array Value))).push (gF "tuple" (as.map Value.ref).toArray 0)).push (gF "list" #[] 0) }:fZ) (tuples' true) (λx=>∃b∈as,x=(Value.ref b,Value.ref b)) (λx=>rkL rs (rowOf (adr x.1))):=by
   refine⟨?_⟩
   rintro x y st Q ⟨b,hb',rfl⟩ ⟨b',hb'',rfl⟩ hk hq
   rw[lt'_eq]
   refine gC (wpS_get ?_)
   rw[hk]
   refine gC (wpS_lift (wpAny_attempt (xu8 (hat b hb').2.2 (hat b' hb'').2.2 ⟨rfl,gD ?_⟩)))
   have e:=xl6 rs (hat b hb').1 (y:=rowOf b')
   have hq:Q (some (decide (rkL rs (rowOf b)<rkL rs (rowOf b')))) st:=hq
   rw[e]at hq
   exact hq
  refine fY (gw (SortG.sortRuns_ok cmp (λx hx=>?_) (Q:=λ_ st'=>∃(bs:List Addr) (qs:List (List Int)),(arrOf st').map (·.2)=(bs.map Value.ref).toArray/\failedOf st'=none/\bs.length=as.length/\(∀b∈bs,b∈as)/\Paired (P4 s.heap) bs qs/\qs.Perm rs/\qs.Pairwise (λx y=>HT.lexLt y x=false)) λys pd' g' hperm hsz hup=>?_) ?_ λ_ _ e=>e)
  ·rw[hxs]at hx
   obtain⟨b,hb',rfl⟩:=ay.mp hx
   exact⟨b,hb',rfl⟩
  ·rw[hxs]at hperm
   have form:∀x∈ys.toList,∃b∈as,x=(Value.ref b,Value.ref b):=λx hx=>by
    obtain⟨b,hb',e⟩:=ay.mp (hperm.mem_iff.mp hx)
    exact⟨b,hb',e.symm⟩
   have hbp:(ys.toList.map λx=>adr x.1).Perm as:=by
    have:=hperm.map λx=>adr x.1
    rw[bx,show(List.map ((λx:Keyed=>adr x.1) ∘ λb=>(Value.ref b,Value.ref b)) as)=as from(bQ λb _=>rfl).trans (eL as)]at this
    exact this
   have hmem:∀b∈ys.toList.map λx=>adr x.1,b∈as:=λb hb'=>hbp.mem_iff.mp hb'
   refine⟨ys.toList.map λx=>adr x.1,(ys.toList.map λx=>adr x.1).map rowOf,?_,rfl,hbp.length_eq,hmem,?_,?_,?_⟩
   ·apply fE.mp
    rw[fD,de,bx]
    refine bQ λx hx=>?_
    obtain⟨b,_,rfl⟩:=form x hx
    rfl
   ·have:∀l:List Addr,(∀b∈l,b∈as)->Paired (P4 s.heap) l (l.map rowOf):=λl=>by
     induction l with
     | nil=>exact λ_=>.nil
     | cons b l ih=>exact λhl=>.cons (hat b (hl b ax)).2.1 (ih λc hc=>hl c (av _ hc))
    exact this _ hmem
   ·have:=hbp.map rowOf
    rwa [hmap]at this
   ·rw[bx]
    refine bB.mpr (bD.mpr λi j hi hj hij=>?_)
    rw[aK]at hi hj
    have h4:=hup i j (aP _) (bA hij) (by rw[cW,←hsz];exact hj)
    have e:∀k (hk:k<ys.size),ys.getD k SortG.dk=ys.toList[k]'(by simpa using hk):=λk hk=>by simp[Array.getD,hk]
    unfold SortG.Ky at h4
    rw[e i hi,e j hj]at h4
    have hm:(rowOf (adr (ys.toList[j]'(by simpa using hj)).1))∈rs:=by
     obtain⟨b,hb',e'⟩:=form _ (bX (by simpa using hj))
     rw[e']
     exact(hat b hb').1
    cases e2:HT.lexLt (rowOf (adr (ys.toList[j]'(by simpa using hj)).1)) (rowOf (adr (ys.toList[i]'(by simpa using hi)).1)) with
    | false=>exact e2
    | true =>
     exact absurd (xe5 rs hm e2) (bS.mpr h4)
  ·rintro⟨⟨⟩,st'⟩ s' ⟨rfl,bs,qs,hout,hf,hbl,hbm,hpq,hqp,hqs⟩
   dsimp only
   have hol:((arrOf st').map (·.2)).size<=ge:=by
    rw[hout,aA,aa]
    lia
   refine fY (seqEpoch_at ho6 rfl (fY (listUpdate_at ho6 rfl ?_ (aP _) (Nat.le_succ_of_le hol))))
   rw[hf]
   simp only[bne_self_eq_false,bN,if_false]
   have key:=q bs qs hbl hbm hpq hqp hqs
   have key2:∀o,o=(bs.map Value.ref).toArray->P (.done (.ret .none)) { s with heap:=sortedHeap s.heap a (as.map Value.ref) o }:=λo e=>by rw[e];exact key
   exact gc (key2 _ hout)
theorem yn2 {as:List Addr}{R:Value->fZ->Prop}(hl:s.heap.IsList l (as.map Value.ref).toArray)(hp:Paired (P4 s.heap) as rs)(hb:∀x∈rs,x≠[])(h64:as.length<=400000)
  (q:∀(bs:List Addr) (qs:List (List Int)),bs.length=as.length->(∀b∈bs,b∈as)->Paired (P4 s.heap) bs qs->qs.Perm rs->qs.Pairwise (λx y=>HT.lexLt y x=false)->R (.ref (gat s.heap (as.map Value.ref)).objs.size) { s with heap:=sortedHeap ((gat s.heap (as.map Value.ref)).push (gF "list" (as.map Value.ref).toArray 0)) (gat s.heap (as.map Value.ref)).objs.size (as.map Value.ref) (bs.map Value.ref).toArray }) :
  gh (gn prog w) A (call (.builtin "sorted") [.ref l]) R E s:=by
 have h16:=sizeLine_eq
 have hvl:(as.map Value.ref).length=as.length:=aa _
 have hn:((gat s.heap (as.map Value.ref)).push (gF "list" (as.map Value.ref).toArray 0)).get? (gat s.heap (as.map Value.ref)).objs.size=some (gF "list" (as.map Value.ref).toArray 0):=aB _ rfl
 have lt:∀b∈as,b<s.heap.objs.size/\∃o,s.heap.get? b=some o:=λb hb'=>by
  obtain⟨i,hi⟩:=bZ hb'
  have hi2:=(al.mp hi).1
  obtain⟨us,⟨o,ho,_⟩,_⟩:=u0 hp i b _ hi (ae (by rw[←Paired.length hp];exact hi2))
  exact⟨az ho,o,ho⟩
 refine Calls.call_function_entry kind_sorted plain_sorted entry_sorted (args_sorted1 (.ref l)) ?_
 unfold Builtin.«sorted»
 refine fY (m:=checkCount "sorted" 1 1 _) (gc (fY (collect_list hl (fY (wpAny_newList ?_ (by lia))) (by lia))))
 show gh _ _ _ _ _ { s with heap:=(gat s.heap (as.map Value.ref)).push (gF "list" (as.map Value.ref).toArray 0) }
 refine fY (gv (wpAny_call_entry slot_list_sort ⟨_,hn,rfl⟩ entry_list_sort (za4 (s:={ s with heap:=(gat s.heap (as.map Value.ref)).push (gF "list" (as.map Value.ref).toArray 0) }) hn (ya9 hp λb hb' o eo=>ao _ (zm0 eo)) (λb hb' z=>?_) hb h64 λbs qs a1 a2 a3 a4 a5=>⟨_,rfl,gc ⟨_,rfl,q bs qs a1 a2 (ya9 a3 λb hb' o eo=>?_) a4 a5⟩⟩) (args_list_sort _)))
 ·have h5:=(lt b hb').1
  have h6:=zo4 s.heap (as.map Value.ref)
  have h7:b=(gat s.heap (as.map Value.ref)).objs.size:=z
  rw[h7,h6]at h5
  exact aY _ (Nat.lt_of_succ_lt h5)
 ·obtain⟨_,o',ho'⟩:=lt b (a2 b hb')
  have:=ao (gF "list" (as.map Value.ref).toArray 0) (zm0 (vs:=as.map Value.ref) ho')
  rw[show((gat s.heap (as.map Value.ref)).push (gF "list" (as.map Value.ref).toArray 0)).get? b=some o from eo]at this
  rw[ho',this]
end
section
variable {X:Cx}
theorem zx8:T9 X (.builtin "sorted") (λxs H Q=>∃(p:Addr) (as:List Addr) (rs:List (List Int)),xs=[.ref p]/\SqL X.K H p (as.map V.ref)/\Paired (λa x=>H a=some (.tup (x.map V.int))) as rs/\(∀x∈rs,x≠[])/\rs.length<=400000 /\
  ∀(l:Addr) (bs:List Addr) (qs:List (List Int)),H l=none->qs.Perm rs->qs.Pairwise (λx y=>HT.lexLt y x=false)->Paired (λa x=>H a=some (.tup (x.map V.int))) bs qs->Q (.ref l) (upd H l (.lst (bs.map V.ref)))):=by
 intro pins s σ H xs us Q I r h
 obtain⟨p,as,rs,rfl,hq,hp,hb,h64,q⟩:=h
 obtain⟨u,rfl,rx⟩:=N6 r
 cases rx
 obtain⟨its,r1,p1,hz⟩:=I.list hq
 have hits:=zx1 r1
 subst hits
 have hlen:as.length=rs.length:=Paired.length hp
 have row:∀b x,H b=some (.tup (x.map V.int))->P4 s.heap b x:=λb x hx=>by
  obtain⟨us,r2,p2,_⟩:=I.tuple (SqT.of hx)
  exact⟨us,p2,O2 r2⟩
 have hpr:Paired (P4 s.heap) as rs:=Paired.imp' (λb x hx=>row b x hx) hp
 refine yn2 p1.isList hpr hb (by lia) λbs qs a1 a2 a3 a4 a5=>?_
 have hsz:=zo4 s.heap (as.map Value.ref)
 obtain⟨e,he⟩:=sortedHeap_at (vs:=as.map Value.ref) (out:=(bs.map Value.ref).toArray) (n:=0) (show((gat s.heap (as.map Value.ref)).push (gF "list" (as.map Value.ref).toArray 0)).get? (gat s.heap (as.map Value.ref)).objs.size=some (gF "list" (as.map Value.ref).toArray 0) from aB _ rfl)
 have hold:∀b o,s.heap.get? b=some o->(sortedHeap ((gat s.heap (as.map Value.ref)).push (gF "list" (as.map Value.ref).toArray 0)) (gat s.heap (as.map Value.ref)).objs.size (as.map Value.ref) (bs.map Value.ref).toArray).get? b=some o:=λb o z=>by
  have hlt:=az z
  have h1:b<(gat s.heap (as.map Value.ref)).objs.size:=hsz.symm ▸ dB hlt
  rw[sortedHeap_old (aU h1) (by rw[size_push'];exact dB h1),Heap.get?_push_ne _ _ _ (aU h1)]
  exact zm0 z
 have hz2:=p8
 refine⟨.ref (gat s.heap (as.map Value.ref)).objs.size,_,I.laid (t':=s.toks) hold (by lia) (show l7 X.prog X.w _ _ _ (.lst (bs.map V.ref)) from⟨by rw[aa];lia,bs.map Value.ref,e,?_,he⟩),rfl,q _ bs qs (I.hok.fresh (by lia)) a4 a5 ?_⟩
 ·clear a1 a2 a3 he hold
  induction bs with
  | nil=>exact .nil
  | cons b r ih=>exact .cons rfl ih
 ·
  clear a4 a5 he hold a1
  induction a3 with
  | nil=>exact .nil
  | @cons b x bs qs f _ ih =>
   refine .cons ?_ (ih λc hc=>a2 c (av _ hc))
   obtain⟨i,hi⟩:=bZ (a2 b ax)
   have hi2:=(al.mp hi).1
   have hx:=u0 hp i b _ hi (ae (show i<rs.length by lia))
   rw[zg9 f (row b _ hx)]
   exact hx
end
section
variable {X:Cx}{e st:Expr}{te:TE}{ts:TO}{pos p2:Pos}
end
section
variable {X:Cx}{iter elt:Expr}{scope:Scope}{pos:Pos}{wi:TI}{te:CT TE}
end
section
variable {X:Cx}
end
section
variable {X:Cx}
end
section
variable {X:Cx}
end
section
variable {prog:gf}{w:gq}{A:gu}{E:Value->fZ->Prop}{s:fZ}
theorem zy0 {es:Array DictEntry}{od:Obj}{R:List Value->fZ->Prop}(hh:A.handled=none)(lo:(d==sysModules)=false)(gd:s.heap.get? d=some od)(cd:od.cls=.type "dict")(dd:od.data=.dict es ep)(hz:es.size<=ge)
  (q:∀(h':Heap) (tk:Nat) (vs:List Value),(∀b o,s.heap.get? b=some o->h'.get? b=some o)->s.heap.objs.size<h'.objs.size->vs.length=es.size->(∀(i:Nat) (v:Value),vs[i]?=some v->∃e,es[i]?=some e/\v=e.key)->R vs { s with heap:=h',toks:=tk }) :
  gh (gn prog w) A (collect (.ref d)) R E s:=by
 have hlt:=az gd
 have hn1:(s.heap.push (gF "list" #[] 0)).get? s.heap.objs.size=some (gF "list" #[] 0):=aB _ rfl
 have fin:∀(h':Heap) (tk:Nat) (acc':Array Value) (c':Nat),(∀b o,s.heap.get? b=some o->h'.get? b=some o)->h'.get? s.heap.objs.size=some { cls:=.type "list",dict:=none,data:=.seq acc' c',slots:=#[] }->ItemsOf (λi v=>∃e,es[i]?=some e/\v=e.key) acc' es.size ->
   R acc'.toList { s with heap:=h',toks:=tk }:=λh' tk acc' c' hk hS hacc=>q h' tk acc'.toList hk (az hS) (by rw[aK];exact hacc.1) λi v e=>hacc.2 i v (by rw[←bz];exact e)
 unfold collect
 refine fY (wpAny_runValue (codeAny_builtin entry_proto_collect' (fY (m:=newList []) (wpAny_newList (gc ⟨Code.quiet_builtin _ (by decide +kernel),codeAny_builtin entry_list_iadd' ?_⟩)))))
 rw[Around.under_plainId PySem.F.plain_list_iadd ⟨[.ref s.heap.objs.size,.ref d],[]⟩]
 refine gw (W.kdl_extend (A:=A) (s:={ s with heap:=s.heap.push (gF "list" #[] 0) }) (R:=λr s'=>∃(h':Heap) (tk:Nat) (acc':Array Value) (c':Nat),r=.ok (.ret (.ref s.heap.objs.size))/\s'={ s with heap:=h',toks:=tk }/\h'.get? s.heap.objs.size=some { cls:=.type "list",dict:=none,data:=.seq acc' c',slots:=#[] }/\R acc'.toList { s with heap:=h',toks:=tk })
  (xg7 (ep:=ep) lo cd dd) hh (ao _ gd) s.heap.objs.size (cY hlt) (cY hlt) (.ref s.heap.objs.size) 0 hn1 (λh' tk acc' c' hk hS hacc=>⟨h',tk,acc',c',rfl,rfl,hS,fin h' tk acc' c' (λb o e=>hk b o (aU (az e)) (ao _ e)) hS hacc⟩) hz) (λf s' x=>?_) (λe s' x=>?_)
 ·cases f with
  | done f =>
   obtain⟨h',tk,acc',c',e,rfl,hS,hR⟩:=x
   cases e
   exact(show gh (gn prog w) A (load s.heap.objs.size >>= _) R E _ from fY (wpAny_load hS (gc hR)))
  | again c1 =>
   refine⟨x.1,codeAny_mono x.2 λr s2 y=>?_⟩
   obtain⟨h',tk,acc',c',e,rfl,hS,hR⟩:=y
   cases e
   exact(show gh (gn prog w) A (load s.heap.objs.size >>= _) R E _ from fY (wpAny_load hS (gc hR)))
 ·obtain⟨_,_,_,_,er,_⟩:=x
  cases er
end
section
variable {X:Cx}
theorem zt4 (hc:X.calm=true):T9 X (.builtin "sorted") (λxs H Q=>∃(d:Addr) (kvs:List (List Key×V)) (rs:List (List Int)),xs=[.ref d]/\H d=some (.dT kvs)/\kvs.map (·.1)=rs.map (λx=>x.map Sum.inl)/\(∀x∈rs,x≠[])/\rs.length<=400000 /\
  ∀(l:Addr) (bs:List Addr) (qs:List (List Int)),H l=none->qs.Perm rs->qs.Pairwise (λx y=>HT.lexLt y x=false)->Paired (λa x=>H a=some (.tup (x.map V.int))) bs qs->Q (.ref l) (upd H l (.lst (bs.map V.ref)))):=by
 intro pins s σ H xs us Q I r h
 obtain⟨d,kvs,rs,rfl,hd,hks,hb,h64,q⟩:=h
 obtain⟨u,rfl,rx⟩:=N6 r
 cases rx
 obtain⟨hz,lo,xs,rel,o,es,ep,h1,h2,h3,h4,h5⟩:=(show l7 X.prog X.w H s.heap d (.dT kvs) from I.hok d _ hd)
 have hxl:xs.length=kvs.length:=(Paired.length rel).symm
 have hlen:es.size=kvs.length:=by
  rw[←aK,h4,aa]
  exact hxl
 have hrl:kvs.length=rs.length:=by
  have:=congrArg List.length hks
  rwa [aa,aa]at this
 have hka:=xj2 rel
 rw[hks]at hka
 have hpr0:Paired (λ(b:Addr) (x:List Int)=>H b=some (.tup (x.map V.int))) (xs.map (·.2.1)) rs:=by
  clear q hb h64 hks hlen h1 h2 h3 h4 h5 hrl
  generalize xs.map (·.2.1)=as at hka
  induction rs generalizing as with
  | nil=>cases hka;exact .nil
  | cons x rs ih =>
   cases hka with
   | cons f r =>
    refine .cons ?_ (ih _ r)
    rw[f,bx]
    rfl
 have row:∀b x,H b=some (.tup (x.map V.int))->P4 s.heap b x:=λb x hx=>by
  obtain⟨us,r2,p2,_⟩:=I.tuple (SqT.of hx)
  exact⟨us,p2,O2 r2⟩
 refine Calls.call_function_entry kind_sorted plain_sorted entry_sorted (args_sorted1 (.ref d)) ?_
 unfold Builtin.«sorted»
 refine fY (m:=checkCount "sorted" 1 1 _) (gc (fY (zy0 (I.ok.hd hc) lo h1 h2.1 h3 (by rw[hlen];exact hz) λh' tk vs hk hsz hl hv=>fY (wpAny_newList ?_))))
 have hvs:vs=(xs.map (·.2.1)).map Value.ref:=by
  apply cE
  intro i
  by_cases hi:i<es.size
  ·have hx:xs[i]?=some xs[i]:=ae (by lia)
   have ha:vs[i]?=some vs[i]:=ae (by lia)
   obtain⟨e,he,ev⟩:=hv i vs[i] ha
   rw[←bz,h4,af,hx]at he
   rw[ha,af,af,hx,ev,←Option.some.inj he]
   rfl
  ·rw[aW (by lia),aW (by rw[aa,aa];lia)]
 subst hvs
 clear hv
 have hal:(xs.map (·.2.1)).length=rs.length:=Paired.length hpr0
 clear hka rel h4 h5 hxl
 generalize xs.map (·.2.1)=as at *
 have hn:(h'.push (gF "list" (as.map Value.ref).toArray 0)).get? h'.objs.size=some (gF "list" (as.map Value.ref).toArray 0):=aB _ rfl
 have up:∀b x,H b=some (.tup (x.map V.int))->P4 (h'.push (gF "list" (as.map Value.ref).toArray 0)) b x:=λb x hx=>(row b x hx).at λo eo=>ao _ (hk b o eo)
 have hpr':Paired (P4 (h'.push (gF "list" (as.map Value.ref).toArray 0))) as rs:=Paired.imp' up hpr0
 have lt:∀b∈as,b<s.heap.objs.size:=λb hb'=>by
  obtain⟨i,hi⟩:=bZ hb'
  have hi2:=(al.mp hi).1
  obtain⟨us,⟨o,ho,_⟩,_⟩:=row b _ (u0 hpr0 i b _ hi (ae (by lia)))
  exact az ho
 show gh _ _ _ _ _ { s with heap:=h'.push (gF "list" (as.map Value.ref).toArray 0),toks:=tk }
 refine fY (gv (wpAny_call_entry slot_list_sort ⟨_,hn,rfl⟩ entry_list_sort (za4 (s:={ s with heap:=h'.push (gF "list" (as.map Value.ref).toArray 0),toks:=tk }) hn hpr' (λb hb'=>aU (eD (lt b hb') hsz)) hb (by lia) λbs qs a1 a2 a3 a4 a5=>⟨_,rfl,gc ⟨_,rfl,?_⟩⟩) (args_list_sort _)))
 obtain⟨e,he⟩:=sortedHeap_at (vs:=as.map Value.ref) (out:=(bs.map Value.ref).toArray) (n:=0) hn
 have hold:∀b o,s.heap.get? b=some o->(sortedHeap (h'.push (gF "list" (as.map Value.ref).toArray 0)) h'.objs.size (as.map Value.ref) (bs.map Value.ref).toArray).get? b=some o:=λb o z=>by
  have h1:b<h'.objs.size:=az (hk b o z)
  rw[sortedHeap_old (aU h1) (by rw[size_push'];exact dB h1),Heap.get?_push_ne _ _ _ (aU h1)]
  exact hk b o z
 have hz2:=p8
 refine⟨.ref h'.objs.size,_,I.laid (t':=tk) hold (by lia) (show l7 X.prog X.w _ _ _ (.lst (bs.map V.ref)) from⟨by rw[aa];lia,bs.map Value.ref,e,?_,he⟩),rfl,q _ bs qs (I.hok.fresh (by lia)) a4 a5 ?_⟩
 ·clear a1 a2 a3 he hold
  induction bs with
  | nil=>exact .nil
  | cons b r ih=>exact .cons rfl ih
 ·clear a4 a5 he hold a1
  induction a3 with
  | nil=>exact .nil
  | @cons b x bs qs f _ ih =>
   refine .cons ?_ (ih λc hc=>a2 c (av _ hc))
   obtain⟨i,hi⟩:=bZ (a2 b ax)
   have hx:=u0 hpr0 i b _ hi (ae (show i<rs.length by have:=(al.mp hi).1;lia))
   rw[zg9 f (up b _ hx)]
   exact hx
end
structure zg0 (K:W.Frag) (x qual:Str) (st:Stmt) (f:Addr) (fd:gB) (items:Array Value):Prop where
 ex:∃(dT:Addr) (oc:Value) (od:Option Addr) (kV doc pm:Value) (an:Option Addr) (cdv ct:Value) (osl:Array (Option Value)),
  fd=W.fnOf x qual (X9 st) (Z4 st) (z9 st) (.ref dT) kV doc pm an cdv ct/\K.lookup f=some ⟨oc,od,.func fd,osl⟩/\W.codeIn K cdv qual=true/\∃o n,K.lookup dT=some o/\o.data=.seq items n
 kp:W.keepIn K (.ref f)=true
section
variable {P:gf}{w:gq}{K:W.Frag}{mg:Str->Option Value}{base:Heap}
theorem zg0.okX {st:Stmt}{N ps:List Str}{k:Nat}{sp:Sp}(F:zg0 K x qual st f fd items)(S:x9 N ps (z9 st))(len:∀vs H Q E,sp vs H Q E->vs.length=ps.length)
  (hbody:∀(cdv:Value) (A:gu) (outer:List Env) (s:fZ) (H:Hp) (vs:List V) (Q:VK) (E:XK),Z8 k (A.deeper (envOfC qual (z9 st) s.heap.objs.size f cdv))->sp vs H Q E ->
   ∃t,PSs (X8 (CX1 P w) P w K mg base N qual (z9 st) f cdv A outer s H E) (Z4 st) t/\t { nx:=λ_ H'=>Q .non H',rt:=Q } (start N vs) H):u8 P w K mg base (CX1 P w) (k+1) f fd ps sp:=by
 obtain⟨dT,oc,od,kV,doc,pm,an,cdv,ct,osl,rfl,lk,hcd,_⟩:=F.ex
 refine yz1 lk hcd S len λA outer s H vs Q E hr hsp=>?_
 obtain⟨t,h,q⟩:=hbody cdv A outer s H vs Q E hr hsp
 exact⟨t,h,q⟩
end
def xt4 (P:gf)(w:gq)(K:W.Frag)(mg:Str->Option Value)(base:Heap)(k:Nat)(C:Addr)(x:Str)(ps:List Str)(dvs:List V)(sp:Sp):Prop :=
 ∃f fd ds,u8 P w K mg base (CX1 P w) k f fd ps sp/\Mk K C f/\mg x=some (.ref C)/\W3 K fd ps ds/\p7 dvs ds
section
variable {P:gf}{w:gq}{K:W.Frag}{mg:Str->Option Value}{base:Heap}{N:List Str}{qual:Str}{scope:Scope}{f:Addr}{cd:Value}{A:gu}{outer:List Env}{s:fZ}{H:Hp}{E:XK}
theorem xl0 {p pos:Pos}{t:TA}{ps:List Str}{dvs:List V}{sp:Sp}{k j:Nat}(kn:xt4 P w K mg base k C x ps dvs sp)(hr:Z8 j (A.deeper (envOfC qual scope s.heap.objs.size f cd)))(hg:Gl (X8 (CX1 P w) P w K mg base N qual scope f cd A outer s H E) x)
  (ha:PA (X8 (CX1 P w) P w K mg base N qual scope f cd A outer s H E) (e::es) t) (hj:k+1<=j:=by decide) (hdb:(x==("__debug__":Str))=false:=by decide)
  (he:gl (e::es) (envOfC qual scope s.heap.objs.size f cd)=(false,eval e (envOfC qual scope s.heap.objs.size f cd))::gl es (envOfC qual scope s.heap.objs.size f cd):=by rfl) (hpl:(backTo pos (gl es (envOfC qual scope s.heap.objs.size f cd))).any (·.1)=false:=by rfl) :
  PE (X8 (CX1 P w) P w K mg base N qual scope f cd A outer s H E) (.Call (.Name x p) (e::es) [] pos) (xh0 C sp dvs E t):=by
 obtain⟨g,gd,ds,G,hM,hm,hb,hd⟩:=kn
 exact yq4 (X:=X8 (CX1 P w) P w K mg base N qual scope f cd A outer s H E) hM G (hr.mono hj) hg hm hb hd yq3 ha hdb he hpl
end
section
variable {X:Cx}{C:Addr}{k:Nat}{x kw:Str}{ps:List Str}{sp:Sp}{e ev:Expr}{es:List Expr}{t:TA}{tv:TE}{p pos kpos:Pos}{CX:CXT}{f:Addr}{fd:gB}{E:XK}
end
section
variable {P:gf}{w:gq}{K:W.Frag}{mg:Str->Option Value}{base:Heap}{N:List Str}{qual:Str}{scope:Scope}{f:Addr}{cd:Value}{A:gu}{outer:List Env}{s:fZ}{H:Hp}{E:XK}
end
def xo4 (P:gf)(w:gq)(K:W.Frag)(mg:Str->Option Value)(base:Heap)(k:Nat)(C:Addr)(x m:Str)(ps:List Str)(sp:Sp):Prop :=
 ∃(f:Addr) (fd:gB) (mc:Value),u8 P w K mg base CX0 k f fd ps sp/\W.keepIn K (.ref f)=true/\mg x=some (.ref C)/\W3 K fd ps []/\W.readsIn K C mc=true/\W.specialIn K (.ref C) "__getattribute__"=some (some (.builtin "type.__getattribute__"))/\W.findCls K (.ref C) mc m=some (.val (.ref f))/\W.handedIn (.ref f)=true
section
variable {X:Cx}{C:Addr}{k j:Nat}{x m:Str}{ps:List Str}{sp:Sp}{e:Expr}{es:List Expr}{t:TA}{np apos pos:Pos}{pl:Sem Bool}
theorem xk7 (kn:xo4 X.prog X.w X.K X.mg X.base k C x m ps sp)(hr:Z8 j X.A)(hg:Gl X x)(ha:PA X (e::es) t)(hj:k<=j:=by decide)(hdb:(x==("__debug__":Str))=false:=by decide)
  (hst:gl (e::es) X.env=(false,eval e X.env)::gl es X.env:=by rfl) (hpl:(backTo pos (gl es X.env)).any (·.1)=false:=by rfl)
  (ht:eval (.Call (.Attribute (.Name x np) m apos) (e::es) [] pos) X.env=(do
   let v ←eval (.Name x np) X.env
   standAt apos.atName
   let (f,first) ←holding [v] (getMethod v m pl)
   callWith pos f first (backTo pos (gl (e::es) X.env)) (backToKw pos (gA [] X.env))):=by rfl):PE X (.Call (.Attribute (.Name x np) m apos) (e::es) [] pos) (zw9 sp [] E0 t):=by
 obtain⟨f,fd,mc,G,kp,hm,hb,h1,h2,h3,h4⟩:=kn
 intro pins s σ H Q I h
 refine W.methodCall_KW (pl:=pl) (K9 I hg hm ?_ hdb) ht
 refine W.method_cls I.kIn h2 (W.cls_value I.kIn h1 h3 h4 ?_)
 have I1:Inv X pins σ H { s with toks:=s.toks+1 }:=I.tok _
 refine W.callWith_K (first:=[]) (h₀:=X.base) I.ok.mod.kin kp (thn (ha pos pins _ σ H _ I1 h) λus s2 ⟨vs,H2,I2,r,q2⟩=>⟨I2.kIn,?_⟩) hst hpl
 exact ya8 (us:=us) (vs:=vs) G (hr.mono hj) hb .nil zw3 I2 r q2
end
section
variable {prog:gf}{w:gq}{K:Type}[DecidableEq K]{knd:HeapKind prog w K}{A:gu}{E:Value->fZ->Prop}{s:fZ}{d a:Addr}{k:K}{xs:List (K×Addr×Value)}{p:Addr×Value}
variable (knd d a) in
end
section
variable {X:Cx}{pins:List (Addr×Obj)}{σ:St}{H:Hp}{s:fZ}{a b:Addr}{v:V}{A:gu}{E:Value->fZ->Prop}{kvs:List (List Key×V)}{k:List Key}
end
def zx3 (P:gf)(w:gq)(K:W.Frag)(mg:Str->Option Value)(base:Heap)(k:Nat)(x:Str)(ps:List Str)(dvs:List V)(sp:Sp):Prop :=
 ∃f fd ds,u8 P w K mg base (CX1 P w) k f fd ps sp/\W.keepIn K (.ref f)=true/\mg x=some (.ref f)/\W3 K fd ps ds/\p7 dvs ds
section
variable {X:Cx}{CX:CXT}{k:Nat}{f:Addr}{fd:gB}{ps:List Str}{kw:Str}{sp:Sp}{E:XK}{x:Str}{p pos kpos:Pos}{e ev:Expr}{es:List Expr}{t:TA}{tv:TE}
end
section
variable {P:gf}{w:gq}{K:W.Frag}{mg:Str->Option Value}{base:Heap}{N:List Str}{qual:Str}{scope:Scope}{f:Addr}{cd:Value}{A:gu}{outer:List Env}{s:fZ}{H:Hp}{E:XK}
theorem xr7 {p pos:Pos}{ps:List Str}{dvs:List V}{sp:Sp}{k j:Nat}(kn:zx3 P w K mg base k x ps dvs sp)(hr:Z8 j (A.deeper (envOfC qual scope s.heap.objs.size f cd)))(hg:Gl (X8 (CX1 P w) P w K mg base N qual scope f cd A outer s H E) x)
  (ha:PA (X8 (CX1 P w) P w K mg base N qual scope f cd A outer s H E) (e::es) t) (hj:k<=j:=by decide) (hdb:(x==("__debug__":Str))=false:=by decide)
  (he:gl (e::es) (envOfC qual scope s.heap.objs.size f cd)=(false,eval e (envOfC qual scope s.heap.objs.size f cd))::gl es (envOfC qual scope s.heap.objs.size f cd):=by rfl) (hpl:(backTo pos (gl es (envOfC qual scope s.heap.objs.size f cd))).any (·.1)=false:=by rfl) :
  PE (X8 (CX1 P w) P w K mg base N qual scope f cd A outer s H E) (.Call (.Name x p) (e::es) [] pos) (zw9 sp dvs E t):=by
 obtain⟨g,gd,ds,G,hk,hm,hb,hd⟩:=kn
 exact zm3 (X:=X8 (CX1 P w) P w K mg base N qual scope f cd A outer s H E) G (hr.mono hj) hg hm hk hb hd yq3 ha hdb he hpl
end
end L2
namespace L2
open PySem PySem.SeqAt PyProof PyProof.Rows
section
variable {prog:gf}{w:gq}{A:gu}{E:Value->fZ->Prop}{s:fZ}
theorem yk6 {d:PyData}{k:Nat}{Q:Value->fZ->Prop}(rc:Reads s.heap (.ref l) (.list xs) as)(rx:Reads s.heap x d bs)(hxs:PyData.canLayAll0 xs=true)(hd:d.canLay0=true)
  (hu:A.units+2+min (PyData.depthAll xs) d.depth<cLine) (hk:k<2 ^ 60) (hit:(xs[k]?).map (λe=>PyData.eqv e d)=some true) (hno:∀i,i<k->(xs[i]?).map (λe=>PyData.eqv e d)=some false)
  (h:Q (.int k s.toks) { s with toks:=s.toks+1 }):gh (gn prog w) A (call (.builtin "list.index") [.ref l,x]) Q E s:=by
 cases rc with
 | list h1 h2 h3 h4 =>
  rename_i o vs n as'
  obtain⟨cls,dd,data,sl⟩:=o
  dsimp only at h2 h3
  subst h2 h3
  have hm:=readsAll_map xs _ _ hxs h4
  have hl:vs.size=xs.length:=by rw[←hm,aa,aK]
  have at':∀i (hi:i<vs.size),(xs[i]?).map (λe=>PyData.eqv e d)=some (PyData.eqv (readOf s.heap vs[i]) d):=λi hi=>by
   rw[←hm,af,bz,Array.getElem?_eq_getElem hi]
   rfl
  have hkl:k<vs.size:=by
   rw[hl]
   cases e:xs[k]? with
   | none=>rw[e]at hit;cases hit
   | some y=>exact(al.mp e).1
  refine call_meets PySem.F.slot_list_index ⟨_,h1,rfl⟩ PySem.F.entry_list_index (PySem.F.args_list_index_2 _ _)
   (list_indexAt l vs n dd sl x (λy=>PyData.eqv (readOf s.heap y) d) k hkl (by lia) ?_ ?_) ⟨h1,items_eqAt (A:=A) h4 rx hxs hd (by lia),h⟩
  ·have:=at' k hkl
   rw[hit]at this
   exact(Option.some.inj this).symm
  ·intro m hm' hlt
   have:=at' m hm'
   rw[hno m hlt]at this
   exact(Option.some.inj this).symm
end
section
variable {X:Cx}
def yq9:V->List V->Hp->VK->Prop:=λx vs H Q=>∃(a:Addr) (xs:List V) (ds:List PyData) (y:V) (d:PyData) (k:Nat),x=.ref a/\vs=[y]/\H a=some (.lst xs)/\Dts H xs ds/\Dt H y d/\PySem.SeqAt.shaped (.list ds)=true/\PySem.SeqAt.shaped d=true/\k<2 ^ 60/\(ds[k]?).map (λe=>PyData.eqv e d)=some true/\(∀i,i<k->(ds[i]?).map (λe=>PyData.eqv e d)=some false)/\Q (.int k) H
theorem yv0 (hu:X.A.units+66<cLine):MtR X "list.index" yq9:=by
 intro pins s σ H x xs v us Q I rx rv h
 obtain⟨a,ys,ds,y,d,k,rfl,rfl,ha,hs,hd,s1,s2,hk,hit,hno,q⟩:=h
 cases rx
 obtain⟨u,rfl,ru⟩:=N6 rv
 obtain⟨as,ra⟩:=(Dt.lst ha hs).reads I (PySem.SeqAt.canLay_of_shaped s1) (.ref a) rfl
 obtain⟨bs,rb⟩:=hd.reads I (PySem.SeqAt.canLay_of_shaped s2) u ru
 have hr:=room_in_shaped (xs:=ds) (A:=X.A.in1) s2 (by show X.A.units+1+65<cLine;lia)
 exact yk6 ra rb (PySem.SeqAt.canLay_of_shaped s1) (PySem.SeqAt.canLay_of_shaped s2) hr hk hit hno ⟨.int k,H,I.tok _,⟨_,rfl⟩,q⟩
end
def yj6 (P:gf)(w:gq)(K:W.Frag)(mg:Str->Option Value)(base:Heap)(k:Nat)(x:Str)(ps:List Str)(dvs:List V)(sp:Sp):Prop :=
 ∃f fd ds,u8 P w K mg base CX0 k f fd ps sp/\W.keepIn K (.ref f)=true/\mg x=some (.ref f)/\W3 K fd ps ds/\p7 dvs ds
theorem xk9 {X:Cx}{e:Expr}{es:List Expr}{t:TA}{p pos:Pos}(kn:yj6 X.prog X.w X.K X.mg X.base k x ps dvs sp)(hr:Z8 j X.A)(hg:Gl X x)(ha:PA X (e::es) t)(hj:k<=j:=by decide)(hdb:(x==("__debug__":Str))=false:=by decide)
  (he:gl (e::es) X.env=(false,eval e X.env)::gl es X.env:=by rfl) (hpl:(backTo pos (gl es X.env)).any (·.1)=false:=by rfl):PE X (.Call (.Name x p) (e::es) [] pos) (zw9 sp dvs E0 t):=by
 obtain⟨f,fd,ds,G,hk,hm,hb,hd⟩:=kn
 exact zm3 G (hr.mono hj) hg hm hk hb hd zw3 ha hdb he hpl
end L2
namespace TM
def IsT (n:Nat)(t:List Nat):Prop:=t.Perm (List.range n)
theorem IsT.length {t:List Nat}(h:IsT n t):t.length=n:=by rw[List.Perm.length_eq h,aS]
theorem IsT.lt (h:IsT n t)(hx:x∈t):x<n:=bv.mp ((List.Perm.mem_iff h).mp hx)
theorem IsT.mem (h:IsT n t)(hx:x<n):x∈t:=(List.Perm.mem_iff h).mpr (bv.mpr hx)
theorem IsT.nodup {t:List Nat}(h:IsT n t):t.Nodup:=(List.Perm.nodup_iff h).mpr eF
theorem IsT.range (n:Nat):IsT n (List.range n):=List.Perm.refl _
theorem IsT.get_lt (h:IsT n t){i x:Nat}(hx:t[i]?=some x):x<n:=h.lt (aq hx)
theorem IsT.at (h:IsT n t)(hi:i<n):∃x,t[i]?=some x/\x<n:=by
 have hi':i<t.length:=by rw[h.length];exact hi
 exact⟨t[i],ae hi',h.lt (bX hi')⟩
theorem U4:∀{t l:List Nat},t.Nodup->(∀x∈t,x∈l)->l.length<=t.length->t.Perm l
 | [],l,_,_,h=>by
  have e:l=[]:=dq.mp (Nat.le_zero.mp h)
  subst e
  exact List.Perm.refl _
 | a::r,l,hn,hs,h=>by
  obtain⟨h1,h2⟩:=aV.mp hn
  have ha:a∈l:=hs a ax
  have p:=List.perm_cons_erase ha
  have ih:r.Perm (l.erase a):=U4 h2 (λx hx=>by
   have hx':=hs x (av _ hx)
   have ne:x≠a:=λe=>h1 (e ▸ hx)
   rcases aw.mp ((List.Perm.mem_iff p).mp hx') with e|e
   ·exact absurd e ne
   ·exact e) (by rw[df ha];simp only[aC]at h;lia)
  exact(List.Perm.cons a ih).trans p.symm
theorem zo8 {t:List Nat}(hl:t.length=n)(hn:t.Nodup)(hlt:∀x∈t,x<n):IsT n t :=
 U4 hn (λx hx=>bv.mpr (hlt x hx)) (by rw[hl,aS];exact ag _)
theorem zo1 {α:Type}:∀(l:List α) (i:Nat) (x:α),l[i]?=some x->(x::l.eraseIdx i).Perm l
 | [],_,_,h=>by cases h
 | a::r,0,x,h=>by
  cases h
  exact List.Perm.refl _
 | a::r,i+1,x,h=>by
  have ih:=zo1 r i x (by simpa using h)
  rw[List.eraseIdx_cons_succ]
  exact(List.Perm.swap a x _).trans (List.Perm.cons a ih)
theorem draw_perm {row left:List Nat}(h:IsT n (row++left))(hx:left[i]?=some x):IsT n ((row++[x])++left.eraseIdx i):=by
 refine List.Perm.trans ?_ h
 rw[bj]
 exact List.Perm.append_left row (zo1 left i x hx)
end TM
namespace TM
theorem IsT.map {s t:List Nat}(hs:IsT n s)(ht:IsT n t):IsT n (s.map λx=>t.getD x 0):=by
 have e:((List.range n).map λx=>t.getD x 0)=t:=by
  apply cE
  intro i
  rw[af]
  by_cases hi:i<n
  ·rw[bn hi]
   have hi':i<t.length:=by rw[ht.length];exact hi
   simp[ae hi']
  ·rw[aW (by rw[aS];lia),aW (by rw[ht.length];lia)]
   rfl
 have h1:=List.Perm.map (λx=>t.getD x 0) hs
 rw[e]at h1
 exact h1.trans ht
theorem getD_of {t:List Nat}(h:t[i]?=some x):t.getD i 0=x:=by rw[au,h];rfl
theorem zy7 {s t:List Nat}{i x y:Nat}(hs:s[i]?=some x)(ht:t[x]?=some y):(s.map λx=>t.getD x 0)[i]?=some y:=by
 rw[af,hs]
 simp only[cJ]
 rw[getD_of ht]
theorem IsT.hit (h:IsT n t)(hy:y<n):∃x,t[x]?=some y/\x<n:=by
 obtain⟨x,hx⟩:=bZ (h.mem hy)
 exact⟨x,hx,by have:=(al.mp hx).1;rwa [h.length]at this⟩
theorem IsT.inj (h:IsT n t){i j x:Nat}(hi:t[i]?=some x)(hj:t[j]?=some x):i=j:=by
 obtain⟨h1,e1⟩:=al.mp hi
 obtain⟨h2,e2⟩:=al.mp hj
 exact(eJ h.nodup).mp (e1.trans e2.symm)
structure Back (n:Nat) (t:List Nat) (k:Nat) (b:List Nat):Prop where
 len:b.length=n
 ret:∀x y,x<k->t[x]?=some y->b[y]?=some x
theorem Back.start {t b:List Nat}(h:b.length=n):Back n t 0 b:=⟨h,λ_ _ h=>absurd h (cO _)⟩
theorem Back.step {t b:List Nat}(hT:IsT n t)(h:Back n t k b)(hy:t[k]?=some y):Back n t (k+1) (b.set y k):=by
 have hyn:y<b.length:=by rw[h.len];exact hT.get_lt hy
 refine⟨by rw[bV];exact h.len,λx z hx hz=>?_⟩
 by_cases e:x=k
 ·subst e
  rw[hy]at hz
  cases hz
  rw[cw hyn]
 ·have ne:y≠z:=λq=>e (hT.inj hz (q ▸ hy))
  rw[bY ne]
  exact h.ret x z (by lia) hz
theorem Back.lt (hT:IsT n t)(h:Back n t n b)(hy:b[y]?=some x):x<n/\t[x]?=some y:=by
 have hyn:y<n:=by have:=(al.mp hy).1;rwa [h.len]at this
 obtain⟨z,hz,hzn⟩:=hT.hit hyn
 have:=h.ret z y hzn hz
 rw[hy]at this
 cases this
 exact⟨hzn,hz⟩
theorem Back.get (hT:IsT n t)(h:Back n t n b)(hy:y<n):∃x,b[y]?=some x/\x<n/\t[x]?=some y:=by
 obtain⟨x,hx,hxn⟩:=hT.hit hy
 exact⟨x,h.ret x y hxn hx,hxn,hx⟩
theorem Back.mem_lt (hT:IsT n t)(h:Back n t n b)(hx:x∈b):x<n:=by
 obtain⟨y,hy⟩:=bZ hx
 exact(h.lt hT hy).1
theorem Back.uniq (hT:IsT n t)(h:Back n t n b)(h':Back n t n c):b=c:=by
 apply cE
 intro y
 by_cases hy:y<n
 ·obtain⟨x,h1,hxn,hx⟩:=h.get hT hy
  rw[h1,h'.ret x y hxn hx]
 ·rw[aW (by rw[h.len];lia),aW (by rw[h'.len];lia)]
theorem Back.isT (hT:IsT n t)(h:Back n t n b):IsT n b:=by
 refine zo8 h.len ?_ λx hx=>h.mem_lt hT hx
 refine bD.mpr λi j hi hj hij e=>?_
 have h1:=(h.lt hT (ae hi)).2
 have h2:=(h.lt hT (ae hj)).2
 rw[e,h2]at h1
 cases h1
 exact aY _ hij
theorem Back.comp {s t b c:List Nat}(hs:IsT n s)(ht:IsT n t)(h:Back n s n b)(h':Back n t n c):Back n (s.map λx=>t.getD x 0) n (c.map λx=>b.getD x 0):=by
 refine⟨by rw[aa];exact h'.len,λx z hx hz=>?_⟩
 obtain⟨y,hy,hyn⟩:=hs.at hx
 obtain⟨z',hz',_⟩:=ht.at hyn
 rw[zy7 hy hz']at hz
 cases hz
 exact zy7 (h'.ret y z hyn hz') (h.ret x y hx hy)
theorem Back.range (n:Nat):Back n (List.range n) n (List.range n):=⟨aS,λx y hx hy=>by
 rw[bn hx]at hy
 cases hy
 exact bn hx⟩
end TM
namespace TM
def it (t:List Nat):Nat->Nat->Nat
 | 0,x=>x
 | k+1,x=>t.getD (it t k x) 0
theorem K7 (t:List Nat)(j:Nat):∀(k x:Nat),it t (j+k) x=it t k (it t j x)
 | 0,_=>rfl
 | k+1,x=>by
  show t.getD (it t (j+k) x) 0=t.getD (it t k (it t j x)) 0
  rw[K7 t j k x]
theorem xq0 (t:List Nat)(x:Nat):it t 1 x=t.getD x 0:=rfl
section
variable {n:Nat}{t:List Nat}(h:IsT n t)
include h
theorem IsT.step_lt (hx:x<n):t.getD x 0<n:=by
 obtain⟨y,hy,hyn⟩:=h.at hx
 rw[getD_of hy]
 exact hyn
theorem IsT.get_step (hx:x<n):t[x]?=some (t.getD x 0):=by
 obtain⟨y,hy,_⟩:=h.at hx
 rw[getD_of hy,hy]
theorem IsT.it_lt (hx:x<n):∀k,it t k x<n
 | 0=>hx
 | k+1=>h.step_lt (IsT.it_lt hx k)
theorem IsT.step_inj (hx:x<n)(hy:y<n)(e:t.getD x 0=t.getD y 0):x=y:=h.inj (h.get_step hx) (e ▸ h.get_step hy)
theorem IsT.it_inj (hx:x<n)(hy:y<n):∀k,it t k x=it t k y->x=y
 | 0,e=>e
 | k+1,e=>IsT.it_inj hx hy k (h.step_inj (h.it_lt hx k) (h.it_lt hy k) e)
end
theorem yu7 {l:List Nat}(hn:l.Nodup)(hlt:∀x∈l,x<n):l.length<=n:=by
 refine cH λhc=>?_
 have p:=U4 hn (λx hx=>bv.mpr (hlt x hx)) (by rw[aS];lia)
 have:=p.length_eq
 rw[aS]at this
 lia
def per (t:List Nat)(x:Nat):Nat:=((List.range t.length).find? λj=>it t (j+1) x==x).getD 0+1
section
variable {n:Nat}{t:List Nat}(h:IsT n t)
include h
theorem IsT.back_some (hx:x<n):∃j,j<n/\it t (j+1) x=x:=by
 refine Classical.byContradiction λhc=>?_
 have nd:((List.range (n+1)).map λk=>it t k x).Nodup:=by
  refine bD.mpr λi j hi hj hij e=>?_
  simp only[aa,aS]at hi hj
  simp only[List.getElem_map,List.getElem_range]at e
  have e2:it t (j-i) x=x:=by
   have e3:it t j x=it t i (it t (j-i) x):=by rw[←K7];congr 1;lia
   rw[e3]at e
   exact(h.it_inj hx (h.it_lt hx _) i e).symm
  exact hc ⟨j-i-1,by lia,by rw[show j-i-1+1=j-i by lia];exact e2⟩
 have:=yu7 nd λy hy=>by
  obtain⟨k,_,rfl⟩:=ay.mp hy
  exact h.it_lt hx k
 simp only[aa,aS]at this
 lia
theorem IsT.per_spec (hx:x<n):1<=per t x/\per t x<=n/\it t (per t x) x=x/\∀j,1<=j->j<per t x->it t j x≠x:=by
 obtain⟨j,hj,ej⟩:=h.back_some hx
 have hsome:((List.range t.length).find? λj=>it t (j+1) x==x).isSome=true:=by
  rw[List.find?_isSome]
  exact⟨j,bv.mpr (by rw[h.length];exact hj),by simpa using ej⟩
 obtain⟨k,hk⟩:=dJ.mp hsome
 have e:per t x=k+1:=by unfold per;rw[hk];rfl
 rw[e]
 rw[List.find?_range_eq_some]at hk
 obtain⟨h1,h2,h3⟩:=hk
 refine⟨by lia,by have:=bv.mp h2;rw[h.length]at this;lia,by simpa using h1,λi hi1 hi2=>?_⟩
 have:=h3 (i-1) (by lia)
 rw[show i-1+1=i by lia]at this
 simpa using this
theorem IsT.per_pos (hx:x<n):0<per t x:=(h.per_spec hx).1
theorem IsT.per_back (hx:x<n):it t (per t x) x=x:=(h.per_spec hx).2.2.1
theorem IsT.it_mul (hx:x<n):∀q,it t (per t x*q) x=x
 | 0=>rfl
 | q+1=>by rw[Nat.mul_succ,K7,IsT.it_mul hx q,h.per_back hx]
theorem IsT.it_mod (hx:x<n)(k:Nat):it t (k % per t x) x=it t k x:=by
 have e:k=per t x*(k / per t x)+k % per t x:=(Nat.div_add_mod k (per t x)).symm
 conv=>rhs;rw[e,K7,h.it_mul hx]
theorem IsT.it_eq_iff (hx:x<n)(hi:i<per t x)(hj:j<per t x)(e:it t i x=it t j x):i=j:=by
 have key:∀{i j:Nat},i<=j->j<per t x->it t i x=it t j x->i=j:=λ{i j} hij hj e=>by
  by_cases hq:i=j
  ·exact hq
  ·exfalso
   have e3:it t j x=it t i (it t (j-i) x):=by rw[←K7];congr 1;lia
   rw[e3]at e
   have e2:=(h.it_inj hx (h.it_lt hx _) i e).symm
   exact(h.per_spec hx).2.2.2 (j-i) (by lia) (by lia) e2
 rcases fu i j with q|q
 ·exact key q hj e
 ·exact(key q hi e.symm).symm
end
section
variable {n:Nat}{t:List Nat}(h:IsT n t)
include h
theorem IsT.per_it (hx:x<n)(j:Nat):per t (it t j x)=per t x:=by
 have hy:=h.it_lt hx j
 have le1:∀{x:Nat} (hx:x<n) (j:Nat),per t (it t j x)<=per t x:=λ{x} hx j=>by
  have hy:=h.it_lt hx j
  refine cH λhc=>?_
  refine(h.per_spec hy).2.2.2 (per t x) (h.per_pos hx) hc ?_
  rw[←K7,fv,K7,h.per_back hx]
 refine dG (le1 hx j) ?_
 have e:it t (per t x*(j+1)-j) (it t j x)=x:=by
  have hle:j<=per t x*(j+1):=aO (bU j) (by have:=dE (j+1) (h.per_pos hx);lia)
  rw[←K7,show j+(per t x*(j+1)-j)=per t x*(j+1) by lia]
  exact h.it_mul hx _
 have:=le1 hy (per t x*(j+1)-j)
 rwa [e]at this
end
structure xz4 (t:List Nat) (x k:Nat) (c:List Nat):Prop where
 eq:c=(List.range k).map λj=>it t j x
 pos:1<=k
 no:∀j,1<=j->j<k->it t j x≠x
def pw (t:List Nat)(m:Int)(x:Nat):Nat:=it t (m % (per t x:Int)).toNat x
def pwT (t:List Nat)(m:Int):List Nat:=(List.range t.length).map (pw t m)
end TM
namespace TM
theorem xb7:∀(l:List Nat),l≠[]->∃y∈l,∀z∈l,y<=z
 | [],h=>absurd rfl h
 | [a],_=>⟨a,ax,λz hz=>by rw[ar.mp hz];exact ag _⟩
 | a::b::r,_=>by
  obtain⟨y,hy,hl⟩:=xb7 (b::r) (by simp)
  by_cases q:a<=y
  ·exact⟨a,ax,λz hz=>by
    rcases aw.mp hz with e|e
    ·rw[e];exact ag _
    ·exact aO q (hl z e)⟩
  ·exact⟨y,av _ hy,λz hz=>by
    rcases aw.mp hz with e|e
    ·rw[e];lia
    ·exact hl z e⟩
theorem xj6 {L:Nat}(hL:0<L)(i:Nat)(m:Int):((((i:Int)+m) % (L:Int)).toNat)=(i+(m % (L:Int)).toNat) % L:=by
 have hL':(0:Int)<(L:Int):=by lia
 have h1:=cP ((i:Int)+m) (show(L:Int)≠0 by lia)
 have h2:=cP m (show(L:Int)≠0 by lia)
 have e1:((m % (L:Int)).toNat:Int)=m % (L:Int):=fC h2
 have e2:(((i+(m % (L:Int)).toNat) % L:Nat):Int)=((i:Int)+m) % (L:Int):=by
  rw[Int.natCast_emod,Int.natCast_add,e1,Int.add_emod_emod]
 lia
section
variable {n:Nat}{t:List Nat}(hT:IsT n t)
include hT
theorem IsT.stay (hx:x<n)(hp:¬1<per t x):t[x]?=some x:=by
 have h1:=hT.per_pos hx
 have h2:=hT.per_back hx
 rw[show per t x=1 by lia,xq0]at h2
 have:=hT.get_step hx
 rwa [h2]at this
theorem IsT.pw_lt (m:Int)(hx:x<n):pw t m x<n:=hT.it_lt hx _
theorem IsT.pw_pw (a b:Int)(hx:x<n):pw t b (pw t a x)=pw t (a+b) x:=by
 have hL:=hT.per_pos hx
 unfold pw
 rw[hT.per_it hx,←K7]
 have h2:=cP a (show(per t x:Int)≠0 by lia)
 have e:((a+b) % (per t x:Int)).toNat=((a % (per t x:Int)).toNat+(b % (per t x:Int)).toNat) % per t x:=by
  rw[←xj6 hL,fC h2,Int.emod_add_emod]
 rw[e,hT.it_mod hx]
theorem IsT.pwT_get (m:Int)(hx:x<n):(pwT t m)[x]?=some (pw t m x):=by
 unfold pwT
 rw[af,bn (by rw[hT.length];exact hx)]
 rfl
theorem IsT.pwT_len (m:Int):(pwT t m).length=n:=by unfold pwT;rw[aa,aS,hT.length]
theorem IsT.eq_pwT {g:List Nat}(hl:g.length=n)(h:∀x,x<n->g[x]?=some (pw t m x)):g=pwT t m:=by
 apply cE
 intro x
 by_cases hx:x<n
 ·rw[h x hx,hT.pwT_get m hx]
 ·rw[aW (by lia),aW (by rw[hT.pwT_len];lia)]
theorem IsT.pwT_zero:List.range n=pwT t 0:=hT.eq_pwT aS λx hx=>by
 rw[bn hx]
 unfold pw
 rw[Int.zero_emod]
 rfl
theorem IsT.pwT_one:t=pwT t 1:=hT.eq_pwT hT.length λx hx=>by
 by_cases hp:1<per t x
 ·rw[hT.get_step hx]
  unfold pw
  rw[Int.emod_eq_of_lt (by decide) (by lia)]
  rfl
 ·have h1:=hT.per_pos hx
  rw[hT.stay hx hp]
  unfold pw
  rw[show per t x=1 by lia]
  rfl
theorem IsT.pwT_comp (a b:Int):((pwT t a).map λx=>(pwT t b).getD x 0)=pwT t (a+b):=hT.eq_pwT (by rw[aa,hT.pwT_len]) λx hx=>by
 rw[zy7 (hT.pwT_get a hx) (hT.pwT_get b (hT.pw_lt a hx)),hT.pw_pw a b hx]
end
end TM
namespace TM
section
variable {n:Nat}{t:List Nat}(hT:IsT n t)
include hT
end
def xr1 (l:List Nat):Nat:=l.foldl Nat.lcm 1
theorem lcm_pos (ha:0<a)(hb:0<b):0<Nat.lcm a b:=Nat.lcm_pos ha hb
end TM
namespace TM
def iN (l:List Nat):List Int:=l.map λ(x:Nat)=>(x:Int)
theorem xb6:∀{l:List Nat},(∀x∈l,0<x)->0<xr1 l:=by
 intro l
 unfold xr1
 have key:∀(l:List Nat) (a:Nat),0<a->(∀x∈l,0<x)->0<l.foldl Nat.lcm a:=by
  intro l
  induction l with
  | nil=>intro a h _;exact h
  | cons b r ih=>intro a h hl;exact ih _ (Nat.lcm_pos h (hl b ax)) λx hx=>hl x (av _ hx)
 exact key l 1 (by decide)
end TM
namespace TM
def least (l:List Nat):Nat:=l.foldl min (l.headD 0)
section
variable {n:Nat}{t:List Nat}(hT:IsT n t)
include hT
end
theorem xj3 {l m:List Nat}(h1:l.Nodup)(h2:∀y∈l,y∈m):l.length<=m.length:=by
 refine cH λhc=>?_
 have:=(U4 h1 h2 (by lia)).length_eq
 lia
section
variable {n:Nat}{t b c:List Nat}(hT:IsT n t)(hB:IsT n b)
include hT hB
end
end TM
namespace TM
section
variable {n a b:Nat}{t u:List Nat}(hT:IsT n t)(hU:IsT n u)
include hT hU
end
section
variable {n:Nat}{t:List Nat}(hT:IsT n t)
include hT
end
end TM
namespace TM
inductive Ln where
 | still|told (k:Nat)|behind (i j:Nat)|back (i:Nat)
 deriving DecidableEq
def Ln.refs:Ln->List Nat
 | .still=>[]
 | .told _=>[]
 | .behind i j=>[i,j]
 | .back i=>[i]
def Ln.Ok (c p:Nat):Ln->Prop
 | .still=>True
 | .told k=>k<c
 | .behind i j=>i<p/\j<p
 | .back i=>i<p
def Rec (c:Nat)(ls:List Ln):Prop:=∀(p:Nat) (l:Ln),ls[p]?=some l->l.Ok c p
inductive yo5 (ls:List Ln):Nat->Nat->Prop
 | self (p:Nat):yo5 ls p p
 | by {p r q:Nat} {l:Ln}:ls[p]?=some l->r∈l.refs->yo5 ls r q->yo5 ls p q
open Classical in
noncomputable def nb (ls:List Ln) (q:Nat):Bool:=decide (yo5 ls (ls.length-1) q)
def pos (b:Nat->Bool)(r:Nat):Nat:=((List.range r).filter b).length
def Ln.ren (f:Nat->Nat):Ln->Ln
 | .still=>.still
 | .told k=>.told k
 | .behind i j=>.behind (f i) (f j)
 | .back i=>.back (f i)
def few (b:Nat->Bool)(ls:List Ln)(k:Nat):List Ln:=((List.range k).filter b).map λp=>(ls.getD p .still).ren (pos b)
section
variable {c:Nat}{ls:List Ln}(hR:Rec c ls)(hne:ls≠[])
include hR hne
noncomputable def stay (ls:List Ln):List Ln:=few (nb ls) ls ls.length
end
def bkT (n:Nat)(t:List Nat):List Nat:=(List.range n).map λy=>t.idxOf y
def comp (s t:List Nat):List Nat:=s.map λx=>t.getD x 0
def Ln.mk (n:Nat)(ms:List (List Nat))(made:List (List Nat)):Ln->List Nat
 | .still=>List.range n
 | .told k=>ms.getD k []
 | .behind i j=>comp (made.getD i []) (made.getD j [])
 | .back i=>bkT n (made.getD i [])
end TM
namespace TM
section
variable {α:Type}
def Loc (d:α)(g:Ln->List α->α):Prop:=∀(l:Ln) (m1 m2:List α) (f:Nat->Nat),(∀r∈l.refs,m1.getD r d=m2.getD (f r) d)->g l m1=g (l.ren f) m2
end
def step (n:Nat)(ms:List (List Nat))(x:Int):List Nat:=if 0<=x then ms.getD x.toNat [] else bkT n (ms.getD (-1-x).toNat [])
section
variable {n:Nat}
variable {ms:List (List Nat)}(hms:∀t∈ms,IsT n t)
include hms
end
end TM
namespace TM
def beh (t u:List Nat):List Nat:=t.map λx=>u.getD x 0
def bk (n:Nat)(t:List Nat):List Nat:=(List.range n).map λy=>t.idxOf y
theorem IsT.beh (ht:IsT n t)(hu:IsT n u):IsT n (TM.beh t u):=IsT.map ht hu
theorem beh_get {t u:List Nat}(ht:IsT n t)(hx:x<n):(TM.beh t u).getD x 0=u.getD (t.getD x 0) 0:=by
 unfold TM.beh
 rw[au,af,ht.get_step hx]
 rfl
theorem still_get (hx:x<n):(List.range n).getD x 0=x:=by
 rw[au,bn hx];rfl
theorem P7 {a b:List Nat}(ha:IsT n a)(hb:IsT n b)(h:∀x,x<n->a.getD x 0=b.getD x 0):a=b:=by
 apply cE
 intro i
 by_cases hi:i<n
 ·rw[ha.get_step hi,hb.get_step hi,h i hi]
 ·rw[aW (by rw[ha.length];lia),aW (by rw[hb.length];lia)]
theorem p0 (ha:IsT n a)(hb:IsT n b)(hc:IsT n c):beh (beh a b) c=beh a (beh b c) :=
 P7 ((ha.beh hb).beh hc) (ha.beh (hb.beh hc)) λx hx=>by rw[beh_get (ha.beh hb) hx,beh_get ha hx,beh_get ha hx,beh_get hb (ha.step_lt hx)]
theorem still_beh (ht:IsT n t):beh (List.range n) t=t :=
 P7 ((IsT.range n).beh ht) ht λx hx=>by rw[beh_get (IsT.range n) hx,still_get hx]
theorem beh_still (ht:IsT n t):beh t (List.range n)=t :=
 P7 (ht.beh (IsT.range n)) ht λx hx=>by rw[beh_get ht hx,still_get (ht.step_lt hx)]
theorem V3:∀{l:List Nat} {i x:Nat},l.Nodup->l[i]?=some x->l.idxOf x=i
 | a::r,0,x,_,h=>by
  obtain rfl:a=x:=by simpa using h
  exact List.idxOf_cons_self
 | a::r,i+1,x,hn,h=>by
  have h':r[i]?=some x:=by simpa using h
  have hne:a≠x:=λe=>(aV.mp hn).1 (e ▸ aq h')
  have ih:=V3 (aV.mp hn).2 h'
  rw[List.idxOf_cons,show(a==x)=false from beq_eq_false_iff_ne.mpr hne]
  show r.idxOf x+1=i+1
  rw[ih]
theorem za8 {t:List Nat}(ht:IsT n t)(hx:x<n):(bk n t).getD (t.getD x 0) 0=x:=by
 unfold bk
 rw[au,af,bn (ht.step_lt hx)]
 exact V3 ht.nodup (ht.get_step hx)
theorem bk_back (ht:IsT n t):Back n t n (bk n t):=by
 refine⟨by unfold bk;rw[aa,aS],λx y hx hy=>?_⟩
 unfold bk
 rw[af,bn (ht.get_lt hy)]
 exact congrArg some (V3 ht.nodup hy)
theorem IsT.bk (ht:IsT n t):IsT n (TM.bk n t):=(bk_back ht).isT ht
theorem zg1 (ht:IsT n t):beh t (bk n t)=List.range n :=
 P7 (ht.beh ht.bk) (IsT.range n) λx hx=>by rw[beh_get ht hx,za8 ht hx,still_get hx]
theorem xp1 {t:List Nat}(ht:IsT n t)(hy:y<n):t.getD ((bk n t).getD y 0) 0=y:=by
 obtain⟨x,hx,hxn⟩:=ht.hit hy
 have e:=getD_of hx
 rw[←e,za8 ht hxn]
theorem zn5 (ht:IsT n t):beh (bk n t) t=List.range n :=
 P7 (ht.bk.beh ht) (IsT.range n) λx hx=>by rw[beh_get ht.bk hx,xp1 ht hx,still_get hx]
theorem yx3 (ht:IsT n t):bk n (bk n t)=t:=by
 have h:=p0 ht ht.bk ht.bk.bk
 rw[zg1 ht,zg1 ht.bk,beh_still ht,still_beh ht.bk.bk]at h
 exact h
theorem zx6 (ha:IsT n a)(hb:IsT n b):bk n (beh a b)=beh (bk n b) (bk n a) :=
 ((bk_back (ha.beh hb)).uniq (ha.beh hb) ((bk_back ha).comp ha hb (bk_back hb)))
theorem bk_still (n:Nat):bk n (List.range n)=List.range n:=(bk_back (IsT.range n)).uniq (IsT.range n) (Back.range n)
theorem za7 (ha:IsT n a)(hb:IsT n b)(hu:IsT n u)(h:beh a u=beh b u):a=b:=by
 have e:=congrArg (λz=>beh z (bk n u)) h
 rwa [p0 ha hu hu.bk,p0 hb hu hu.bk,zg1 hu,beh_still ha,beh_still hb]at e
theorem yc4 (ha:IsT n a)(hb:IsT n b)(hu:IsT n u)(h:beh u a=beh u b):a=b:=by
 have e:=congrArg (λz=>beh (bk n u) z) h
 rwa [←p0 hu.bk hu ha,←p0 hu.bk hu hb,zn5 hu,still_beh ha,still_beh hb]at e
theorem xd0 (hx:IsT n x)(hu:IsT n u):beh (beh x (bk n u)) u=x:=by rw[p0 hx hu.bk hu,zn5 hu,beh_still hx]
theorem yl9 (hx:IsT n x)(hu:IsT n u):beh (beh x u) (bk n u)=x:=by rw[p0 hx hu hu.bk,zg1 hu,beh_still hx]
inductive Grp (n:Nat) (S:List Nat->Prop):List Nat->Prop
 | one:Grp n S (List.range n)
 | mul {a s:List Nat}:Grp n S a->S s->Grp n S (beh a s)
 | inv {a s:List Nat}:Grp n S a->S s->Grp n S (beh a (bk n s))
section
variable {n:Nat}{S S':List Nat->Prop}(hS:∀s,S s->IsT n s)
include hS
theorem Grp.isT (h:Grp n S a):IsT n a:=by
 induction h with
 | one=>exact IsT.range n
 | mul _ hs ih=>exact ih.beh (hS _ hs)
 | inv _ hs ih=>exact ih.beh (hS _ hs).bk
theorem Grp.of (h:S s):Grp n S s:=by
 have:=Grp.mul (n:=n) (S:=S) .one h
 rwa [still_beh (hS s h)]at this
theorem Grp.beh (ha:Grp n S a)(hb:Grp n S b):Grp n S (TM.beh a b):=by
 have hA:=ha.isT hS
 induction hb with
 | one=>rw[beh_still hA];exact ha
 | mul h hs ih=>rw[←p0 hA (h.isT hS) (hS _ hs)];exact .mul ih hs
 | inv h hs ih=>rw[←p0 hA (h.isT hS) (hS _ hs).bk];exact .inv ih hs
theorem Grp.bk (ha:Grp n S a):Grp n S (TM.bk n a):=by
 induction ha with
 | one=>rw[bk_still];exact .one
 | mul h hs ih =>
  rw[zx6 (h.isT hS) (hS _ hs)]
  refine Grp.beh hS ?_ ih
  have:=Grp.inv (n:=n) (S:=S) .one hs
  rwa [still_beh (hS _ hs).bk]at this
 | inv h hs ih =>
  rw[zx6 (h.isT hS) (hS _ hs).bk,yx3 (hS _ hs)]
  exact Grp.beh hS (Grp.of hS hs) ih
omit hS in
theorem Grp.mono (hS':∀s,S' s->IsT n s)(h:∀s,S s->Grp n S' s)(ha:Grp n S a):Grp n S' a:=by
 induction ha with
 | one=>exact .one
 | mul _ hs ih=>exact Grp.beh hS' ih (h _ hs)
 | inv _ hs ih=>exact Grp.beh hS' ih (Grp.bk hS' (h _ hs))
omit hS in
theorem Grp.keeps {P:List Nat->Prop}(h1:P (List.range n))(hm:∀a s,P a->S s->P (TM.beh a s))(hi:∀a s,P a->S s->P (TM.beh a (TM.bk n s)))(ha:Grp n S a):P a:=by
 induction ha with
 | one=>exact h1
 | mul _ hs ih=>exact hm _ _ ih hs
 | inv _ hs ih=>exact hi _ _ ih hs
end
def Fix (j:Nat)(t:List Nat):Prop:=∀x,x<j->t.getD x 0=x
theorem Fix.zero (t:List Nat):Fix 0 t:=λ_ h=>absurd h (cO _)
theorem Fix.still (hj:j<=n):Fix j (List.range n):=λx hx=>still_get (by lia)
theorem Fix.beh (hj:j<=n)(hA:IsT n a)(ha:Fix j a)(hb:Fix j b):Fix j (TM.beh a b):=λx hx=>by rw[beh_get hA (by lia),ha x hx,hb x hx]
theorem Fix.bk (hj:j<=n)(hA:IsT n a)(ha:Fix j a):Fix j (TM.bk n a):=λx hx=>by
 have h:=za8 hA (show x<n by lia)
 rwa [ha x hx]at h
theorem Fix.all (hA:IsT n a)(h:Fix n a):a=List.range n:=P7 hA (IsT.range n) λx hx=>by rw[h x hx,still_get hx]
theorem Grp.fix {S:List Nat->Prop}(hS:∀s,S s->IsT n s)(hj:j<=n)(hf:∀s,S s->Fix j s)(ha:Grp n S a):Fix j a:=by
 induction ha with
 | one=>exact Fix.still hj
 | mul h hs ih=>exact Fix.beh hj (h.isT hS) ih (hf _ hs)
 | inv h hs ih=>exact Fix.beh hj (h.isT hS) ih (Fix.bk hj (hS _ hs) (hf _ hs))
end TM
namespace TM
structure Chn where
 mv:Nat->List Nat->Prop
 ring:Nat->List Nat
 up:Nat->Nat->List Nat
structure Chn.Ok (n:Nat) (C:Chn):Prop where
 mvT:∀j s,C.mv j s->IsT n s
 mvF:∀j s,C.mv j s->Fix j s
 down:∀j s,C.mv (j+1) s->Grp n (C.mv j) s
 top:∀j s,n<=j->¬C.mv j s
 nd:∀j,j<n->(C.ring j).Nodup
 lt:∀j p,j<n->p∈C.ring j->p<n
 own:∀j,j<n->j∈C.ring j
 upG:∀j p,j<n->p∈C.ring j->Grp n (C.mv j) (C.up j p)
 upTo:∀j p,j<n->p∈C.ring j->(C.up j p).getD j 0=p
 upOwn:∀j,j<n->C.up j j=List.range n
def Chn.Shut (n:Nat)(C:Chn)(j:Nat):Prop:=∀p,p∈C.ring j->∀s,C.mv j s->s.getD p 0∈C.ring j/\Grp n (C.mv (j+1)) (beh (beh (C.up j p) s) (bk n (C.up j (s.getD p 0))))
def Chn.Sif (n:Nat)(C:Chn):Nat->List Nat->Prop
 | 0,_=>True
 | d+1,x=>x.getD (n-(d+1)) 0∈C.ring (n-(d+1))/\Chn.Sif n C d (beh x (bk n (C.up (n-(d+1)) (x.getD (n-(d+1)) 0))))
section
variable {n:Nat}{C:Chn}(ok:C.Ok n)
include ok
theorem Chn.Ok.upT (hj:j<n)(hp:p∈C.ring j):IsT n (C.up j p):=(ok.upG j p hj hp).isT (ok.mvT j)
theorem Chn.Ok.upF (hj:j<n)(hp:p∈C.ring j):Fix j (C.up j p):=(ok.upG j p hj hp).fix (ok.mvT j) (bA hj) (ok.mvF j)
theorem Chn.Ok.off {x:List Nat}(hj:j<n)(hx:IsT n x)(hf:Fix j x)(hp:x.getD j 0∈C.ring j):IsT n (beh x (bk n (C.up j (x.getD j 0))))/\Fix (j+1) (beh x (bk n (C.up j (x.getD j 0)))):=by
 have hu:=ok.upT hj hp
 refine⟨hx.beh hu.bk,λy hy=>?_⟩
 rw[beh_get hx (by lia)]
 by_cases e:y=j
 ·subst e
  have h:=za8 hu hj
  rw[ok.upTo y _ hj hp]at h
  exact h
 ·have hy':y<j:=by lia
  rw[hf y hy']
  exact Fix.bk (bA hj) hu (ok.upF hj hp) y hy'
theorem Chn.Ok.sound:∀(d:Nat) (x:List Nat),d<=n->IsT n x->Fix (n-d) x->C.Sif n d x->Grp n (C.mv (n-d)) x
 | 0,x,_,hx,hf,_=>by
  rw[dP]at hf ⊢
  rw[Fix.all hx hf]
  exact .one
 | d+1,x,hd,hx,hf,h=>by
  have hj:n-(d+1)<n:=by lia
  obtain⟨hp,hs⟩:=h
  obtain⟨ht,hf'⟩:=ok.off hj hx hf hp
  have e:n-(d+1)+1=n-d:=by lia
  rw[e]at hf'
  have ih:=Chn.Ok.sound d _ (by lia) ht hf' hs
  rw[←e]at ih
  have g:=Grp.mono (ok.mvT _) (ok.down _) ih
  have r:=Grp.beh (ok.mvT _) g (ok.upG _ _ hj hp)
  rwa [xd0 hx (ok.upT hj hp)]at r
theorem Chn.Ok.parts (hj:j<n)(sh:C.Shut n j)(hx:Grp n (C.mv j) x):∃p h,p∈C.ring j/\Grp n (C.mv (j+1)) h/\x=beh h (C.up j p):=by
 have hS:=ok.mvT j
 have hS1:=ok.mvT (j+1)
 induction hx with
 | one=>exact⟨j,_,ok.own j hj,.one,by rw[ok.upOwn j hj,still_beh (IsT.range n)]⟩
 | mul hg hs ih =>
  rename_i a s
  obtain⟨p,h,hp,hh,rfl⟩:=ih
  obtain⟨hq,hg'⟩:=sh p hp s hs
  have hh':=hh.isT hS1
  have hu:=ok.upT hj hp
  have hv:=ok.upT hj hq
  refine⟨_,_,hq,Grp.beh hS1 hh hg',?_⟩
  rw[p0 hh' ((hu.beh (hS s hs)).beh hv.bk) hv,xd0 (hu.beh (hS s hs)) hv,p0 hh' hu (hS s hs)]
 | inv hg hs ih =>
  rename_i a s
  obtain⟨p,h,hp,hh,rfl⟩:=ih
  have hsT:=hS s hs
  obtain⟨q,hq,e⟩:∃q∈C.ring j,s.getD q 0=p:=by
   have hnd:((C.ring j).map λq=>s.getD q 0).Nodup:=bB.mpr (List.Pairwise.imp_of_mem (λha hb hne z=>hne (hsT.step_inj (ok.lt j _ hj ha) (ok.lt j _ hj hb) z)) (ok.nd j hj))
   have hpm:=U4 hnd (λy hy=>by
    obtain⟨q,hq,rfl⟩:=ay.mp hy
    exact(sh q hq s hs).1) (by rw[aa];exact ag _)
   exact ay.mp (hpm.mem_iff.mpr hp)
  subst e
  obtain⟨_,hg'⟩:=sh q hq s hs
  have hh':=hh.isT hS1
  have hu:=ok.upT hj hp
  have hv:=ok.upT hj hq
  refine⟨q,_,hq,Grp.beh hS1 hh (Grp.bk hS1 hg'),?_⟩
  rw[zx6 (hv.beh hsT) hu.bk,yx3 hu,zx6 hv hsT,p0 hh' (hu.beh (hsT.bk.beh hv.bk)) hv,p0 hu (hsT.bk.beh hv.bk) hv,p0 hsT.bk hv.bk hv,zn5 hv,beh_still hsT.bk,p0 hh' hu hsT.bk]
theorem Chn.Ok.complete:∀(d:Nat) (x:List Nat),d<=n->(∀j,n-d<=j->j<n->C.Shut n j)->Grp n (C.mv (n-d)) x->C.Sif n d x
 | 0,_,_,_,_=>trivial
 | d+1,x,hd,sh,hx=>by
  have hj:n-(d+1)<n:=by lia
  have e:n-(d+1)+1=n-d:=by lia
  obtain⟨p,h,hp,hh,rfl⟩:=ok.parts hj (sh _ (ag _) hj) hx
  have hh':=hh.isT (ok.mvT _)
  have hf:=hh.fix (ok.mvT _) (by lia) (ok.mvF _)
  have hu:=ok.upT hj hp
  have e0:(beh h (C.up (n-(d+1)) p)).getD (n-(d+1)) 0=p:=by
   rw[beh_get hh' hj,hf _ (by lia),ok.upTo _ _ hj hp]
  refine⟨by rw[e0];exact hp,?_⟩
  rw[e0,yl9 hh' hu]
  rw[e]at hh
  exact Chn.Ok.complete d h (by lia) (λi hi=>sh i (by lia)) hh
theorem Chn.Ok.sift (hd:d<=n)(hx:IsT n x)(hf:Fix (n-d) x)(sh:∀j,n-d<=j->j<n->C.Shut n j):C.Sif n d x↔Grp n (C.mv (n-d)) x :=
 ⟨ok.sound d x hd hx hf,ok.complete d x hd sh⟩
theorem Chn.Ok.genF (hj:j<=n)(hx:Grp n (C.mv j) x):Fix j x:=hx.fix (ok.mvT j) hj (ok.mvF j)
end
def Indep (n:Nat)(l:List (List Nat)):Prop:=∀i s,l[i]?=some s->¬Grp n (λz=>z∈l.take i) s
theorem Indep.snoc (h:Indep n l)(hs:¬Grp n (λz=>z∈l) s):Indep n (l++[s]):=λi z hz hg=>by
 by_cases hi:i<l.length
 ·rw[aN hi]at hz
  rw[bR (bA hi)]at hg
  exact h i z hz hg
 ·have:i=l.length:=by
   have:=(al.mp hz).1
   rw[ah,bI]at this
   lia
  subst this
  rw[aX (ag _),cX]at hz
  obtain rfl:s=z:=by simpa using hz
  rw[bR (ag _),cn]at hg
  exact hs hg
theorem Indep.init (h:Indep n (l++[s])):Indep n l/\¬Grp n (λz=>z∈l) s:=by
 refine⟨λi z hz hg=>?_,λhg=>?_⟩
 ·have hi:=(al.mp hz).1
  refine h i z (by rw[aN hi];exact hz) ?_
  rw[bR (bA hi)]
  exact hg
 ·refine h l.length s (by rw[aX (ag _),cX];rfl) ?_
  rw[bR (ag _),cn]
  exact hg
theorem indep_many :∀(k:Nat) (l:List (List Nat)),l.length=k->(∀s∈l,IsT n s)->Indep n l->∃L:List (List Nat),L.Nodup/\(∀x∈L,Grp n (λz=>z∈l) x)/\L.length=2 ^ k
 | 0,l,_,_,_=>⟨[List.range n],by simp,λx hx=>by rw[ar.mp hx];exact .one,rfl⟩
 | k+1,l,hl,hT,hI=>by
  have hne:l≠[]:=λe=>by rw[e]at hl;cases hl
  obtain⟨l0,s,rfl⟩:∃l0 s,l=l0++[s]:=⟨l.dropLast,l.getLast hne,(List.dropLast_concat_getLast hne).symm⟩
  rw[ah,bI]at hl
  obtain⟨hI0,hs⟩:=hI.init
  have hT0:∀z∈l0,IsT n z:=λz hz=>hT z (aJ _ hz)
  have hsT:IsT n s:=hT s (by simp)
  obtain⟨L,hnd,hG,hLl⟩:=indep_many k l0 (by lia) hT0 hI0
  have up:∀x,Grp n (λz=>z∈l0) x->Grp n (λz=>z∈l0++[s]) x:=λx hx=>Grp.mono (λz hz=>hT z hz) (λz hz=>Grp.of (λz hz=>hT z hz) (aJ _ hz)) hx
  refine⟨L++L.map λx=>beh x s,?_,λx hx=>?_,by rw[ah,aa,hLl,fV];lia⟩
  ·refine bK.mpr ⟨hnd,bB.mpr (List.Pairwise.imp_of_mem (λha hb hne z=>hne (za7 ((hG _ ha).isT hT0) ((hG _ hb).isT hT0) hsT z)) hnd),λa ha b hb e=>?_⟩
   obtain⟨c,hc,rfl⟩:=ay.mp hb
   subst e
   have hcT:=(hG c hc).isT hT0
   have g:=Grp.beh hT0 (Grp.bk hT0 (hG c hc)) (hG _ ha)
   rw[←p0 hcT.bk hcT hsT,zn5 hcT,still_beh hsT]at g
   exact hs g
  ·rcases aF.mp hx with h|h
   ·exact up x (hG x h)
   ·obtain⟨c,hc,rfl⟩:=ay.mp h
    exact .mul (up c (hG c hc)) (by simp)
def num (n:Nat):List Nat->Nat
 | []=>0
 | x::r=>x+n*num n r
theorem xc9 :∀{l:List Nat},(∀x∈l,x<n)->num n l<n ^ l.length
 | [],_=>by simp[num]
 | x::r,h=>by
  have ih:=xc9 (l:=r) λy hy=>h y (av _ hy)
  have hx:=h x ax
  rw[num,aC,fV,Nat.mul_comm (n ^ r.length) n]
  have:n*(num n r+1)<=n*n ^ r.length:=Nat.mul_le_mul_left n ih
  rw[Nat.mul_add,fX]at this
  lia
theorem yp9 :∀{l m:List Nat},(∀x∈l,x<n)->(∀x∈m,x<n)->l.length=m.length->num n l=num n m->l=m
 | [],[],_,_,_,_=>rfl
 | x::r,y::q,h1,h2,hl,e=>by
  have hx:=h1 x ax
  have hy:=h2 y ax
  rw[num,num]at e
  have e1:x=y:=by
   have:=congrArg (· % n) e
   simpa[Nat.add_mul_mod_self_left,fH hx,fH hy] using this
  subst e1
  have e2:n*num n r=n*num n q:=by lia
  have e3:=Nat.eq_of_mul_eq_mul_left (by lia) e2
  rw[yp9 (λz hz=>h1 z (av _ hz)) (λz hz=>h2 z (av _ hz)) (by simpa using hl) e3]
 | [],_::_,_,_,hl,_=>by cases hl
 | _::_,[],_,_,hl,_=>by cases hl
theorem nodup_below {l:List Nat}(h:l.Nodup)(hl:∀x∈l,x<M):l.length<=M:=by
 rcases fu l.length M with q|q
 ·exact q
 ·have p:=U4 h (l:=List.range M) (λx hx=>bv.mpr (hl x hx)) (by rw[aS];exact q)
  rw[p.length_eq,aS]
  exact ag _
theorem yc1 {L:List (List Nat)}(h:L.Nodup)(hT:∀t∈L,IsT n t):L.length<=n ^ n:=by
 have h1:(L.map (num n)).Nodup:=bB.mpr (List.Pairwise.imp_of_mem (λha hb hne z=>hne (yp9 (λx hx=>(hT _ ha).lt hx) (λx hx=>(hT _ hb).lt hx) (by rw[(hT _ ha).length,(hT _ hb).length]) z)) h)
 have h2:=nodup_below (M:=n ^ n) h1 λx hx=>by
  obtain⟨t,ht,rfl⟩:=ay.mp hx
  have:=xc9 (n:=n) (l:=t) λy hy=>(hT t ht).lt hy
  rwa [(hT t ht).length]at this
 rwa [aa]at h2
set_option exponentiation.threshold 1000 in
theorem indep_few (hn:n<=60){l:List (List Nat)}(hT:∀s∈l,IsT n s)(hI:Indep n l):l.length<=354:=by
 obtain⟨L,h1,h2,h3⟩:=indep_many l.length l rfl hT hI
 have h4:=yc1 h1 λt ht=>(h2 t ht).isT hT
 rw[h3]at h4
 have h5:n ^ n<=60 ^ 60:=aO (Nat.pow_le_pow_left hn n) (dU (by decide) hn)
 have h6:(60:Nat) ^ 60<2 ^ 355:=by decide
 rcases dH 354 l.length with q|q
 ·have:=dU (show 0<2 by decide) (show 355<=l.length from q)
  lia
 ·exact q
end TM
namespace TM
def Chn.Good (n:Nat)(C:Chn)(j p:Nat)(s:List Nat):Prop:=s.getD p 0∈C.ring j/\Grp n (C.mv (j+1)) (beh (beh (C.up j p) s) (bk n (C.up j (s.getD p 0))))
structure Chn.MoreP (n:Nat) (C C':Chn) (j q:Nat) (t:List Nat):Prop where
 hj:j<n
 hq:q∉C.ring j
 hqn:q<n
 gt:Grp n (C.mv j) t
 ht:t.getD j 0=q
 emv:C'.mv=C.mv
 er:C'.ring j=C.ring j++[q]
 er':∀i,i≠j->C'.ring i=C.ring i
 eu:∀p,p≠q->C'.up j p=C.up j p
 eq:C'.up j q=t
 eu':∀i,i≠j->C'.up i=C.up i
theorem Chn.MoreP.sub {C C':Chn}(m:Chn.MoreP n C C' j q t)(hp:p∈C.ring i):p∈C'.ring i/\C'.up i p=C.up i p:=by
 by_cases e:i=j
 ·subst e
  exact⟨by rw[m.er];exact aJ _ hp,m.eu p λz=>m.hq (z ▸ hp)⟩
 ·exact⟨by rw[m.er' i e];exact hp,by rw[m.eu' i e]⟩
theorem Chn.MoreP.cases {C C':Chn}(m:Chn.MoreP n C C' j q t)(hp:p∈C'.ring i):p∈C.ring i∨(i=j/\p=q):=by
 by_cases e:i=j
 ·subst e
  rw[m.er]at hp
  rcases aF.mp hp with h|h
  ·exact .inl h
  ·exact .inr ⟨rfl,ar.mp h⟩
 ·rw[m.er' i e]at hp;exact .inl hp
theorem Chn.MoreP.ok {n:Nat}{C C':Chn}{j q:Nat}{t:List Nat}(m:Chn.MoreP n C C' j q t)(ok:C.Ok n):C'.Ok n where
 mvT:=by rw[m.emv];exact ok.mvT
 mvF:=by rw[m.emv];exact ok.mvF
 down:=by rw[m.emv];exact ok.down
 top:=by rw[m.emv];exact ok.top
 nd i hi:=by
  by_cases e:i=j
  ·subst e
   rw[m.er]
   refine bK.mpr ⟨ok.nd i hi,by simp,λa ha b hb e=>m.hq ?_⟩
   rw[←ar.mp hb,←e]
   exact ha
  ·rw[m.er' i e];exact ok.nd i hi
 lt i p hi hp:=by
  rcases m.cases hp with h|⟨_,h⟩
  ·exact ok.lt i p hi h
  ·rw[h];exact m.hqn
 own i hi:=(m.sub (ok.own i hi)).1
 upG i p hi hp:=by
  rw[m.emv]
  rcases m.cases hp with h|⟨h1,h2⟩
  ·rw[(m.sub h).2];exact ok.upG i p hi h
  ·rw[h1,h2,m.eq];exact m.gt
 upTo i p hi hp:=by
  rcases m.cases hp with h|⟨h1,h2⟩
  ·rw[(m.sub h).2];exact ok.upTo i p hi h
  ·rw[h1,h2,m.eq];exact m.ht
 upOwn i hi:=by rw[(m.sub (ok.own i hi)).2];exact ok.upOwn i hi
theorem Chn.MoreP.good {C C':Chn}(m:Chn.MoreP n C C' j q t)(hp:p∈C.ring i)(g:C.Good n i p s):C'.Good n i p s:=by
 refine⟨(m.sub g.1).1,?_⟩
 rw[m.emv,(m.sub hp).2,(m.sub g.1).2]
 exact g.2
theorem Chn.MoreP.new {C C':Chn}(m:Chn.MoreP n C C' j q t)(ok:C.Ok n)(hp:p∈C.ring j)(hs:C.mv j s)(e:t=beh (C.up j p) s):C'.Good n j p s:=by
 have hu:=ok.upT m.hj hp
 have es:s.getD p 0=q:=by
  have h:=m.ht
  rw[e,beh_get hu m.hj,ok.upTo j p m.hj hp]at h
  exact h
 unfold Chn.Good
 rw[es]
 refine⟨by rw[m.er];simp,?_⟩
 rw[m.eq,(m.sub hp).2,e,zg1 (hu.beh (ok.mvT j s hs))]
 exact .one
structure Chn.MoreM (n:Nat) (C C':Chn) (i:Nat) (t:List Nat):Prop where
 hi:i<n
 tT:IsT n t
 tF:Fix i t
 dn:∀h,h+1=i->Grp n (C.mv h) t
 emv:∀h s,C'.mv h s↔(C.mv h s∨(h=i/\s=t))
 er:C'.ring=C.ring
 eu:C'.up=C.up
section
variable {n:Nat}{C C':Chn}{i:Nat}{t:List Nat}
theorem Chn.MoreM.mvT (m:Chn.MoreM n C C' i t)(ok:C.Ok n)(h:Nat)(s:List Nat)(hs:C'.mv h s):IsT n s:=by
 rcases (m.emv h s).mp hs with q|⟨_,q⟩
 ·exact ok.mvT h s q
 ·rw[q];exact m.tT
theorem Chn.MoreM.grp (m:Chn.MoreM n C C' i t)(ok:C.Ok n)(hs:Grp n (C.mv h) s):Grp n (C'.mv h) s:=Grp.mono (m.mvT ok h) (λz hz=>Grp.of (m.mvT ok h) ((m.emv h z).mpr (.inl hz))) hs
theorem Chn.MoreM.ok (m:Chn.MoreM n C C' i t)(ok:C.Ok n):C'.Ok n where
 mvT:=m.mvT ok
 mvF h s hs:=by
  rcases (m.emv h s).mp hs with q|⟨e,q⟩
  ·exact ok.mvF h s q
  ·rw[q,e];exact m.tF
 down h s hs:=by
  rcases (m.emv _ s).mp hs with q|⟨e,q⟩
  ·exact m.grp ok (ok.down h s q)
  ·rw[q];exact m.grp ok (m.dn h e)
 top h s hn hs:=by
  rcases (m.emv h s).mp hs with q|⟨e,q⟩
  ·exact ok.top h s hn q
  ·have:=m.hi;lia
 nd:=by rw[m.er];exact ok.nd
 lt:=by rw[m.er];exact ok.lt
 own:=by rw[m.er];exact ok.own
 upG h p hh hp:=by
  rw[m.er]at hp
  rw[m.eu]
  exact m.grp ok (ok.upG h p hh hp)
 upTo:=by rw[m.er,m.eu];exact ok.upTo
 upOwn:=by rw[m.eu];exact ok.upOwn
theorem Chn.MoreM.good (m:Chn.MoreM n C C' i t)(ok:C.Ok n)(g:C.Good n h p s):C'.Good n h p s:=by
 unfold Chn.Good
 rw[m.er,m.eu]
 exact⟨g.1,m.grp ok g.2⟩
theorem Chn.MoreM.new (m:Chn.MoreM n C C' (j+1) t)(ok:C.Ok n){s:List Nat}(hp:s.getD p 0∈C.ring j)(e:t=beh (beh (C.up j p) s) (bk n (C.up j (s.getD p 0)))):C'.Good n j p s:=by
 unfold Chn.Good
 rw[m.er,m.eu]
 refine⟨hp,?_⟩
 rw[←e]
 exact Grp.of (m.mvT ok _) ((m.emv _ t).mpr (.inr ⟨rfl,rfl⟩))
theorem Chn.Ok.schreier (ok:C.Ok n){s:List Nat}(hj:j<n)(hp:p∈C.ring j)(hs:C.mv j s)(hq:s.getD p 0∈C.ring j):Grp n (C.mv j) (beh (beh (C.up j p) s) (bk n (C.up j (s.getD p 0))))/\Fix (j+1) (beh (beh (C.up j p) s) (bk n (C.up j (s.getD p 0)))):=by
 have hS:=ok.mvT j
 have hu:=ok.upT hj hp
 have g:Grp n (C.mv j) (beh (C.up j p) s):=.mul (ok.upG j p hj hp) hs
 refine⟨Grp.beh hS g (Grp.bk hS (ok.upG j _ hj hq)),?_⟩
 have e:(beh (C.up j p) s).getD j 0=s.getD p 0:=by rw[beh_get hu hj,ok.upTo j p hj hp]
 have h:=(ok.off hj (hu.beh (hS s hs)) (g.fix hS (bA hj) (ok.mvF j)) (by rw[e];exact hq)).2
 rwa [e]at h
end
end TM
namespace TM
def Chn.many (n:Nat)(C:Chn):Nat->Nat
 | 0=>1
 | d+1=>(C.ring (n-(d+1))).length*Chn.many n C d
theorem zv9 {α:Type}(f:Nat->List α)(m:Nat):∀(l:List Nat),(∀p∈l,(f p).length=m)->(l.flatMap f).length=l.length*m
 | [],_=>by simp
 | p::l,h=>by
  rw[dZ,ah,h p ax,zv9 f m l (λq hq=>h q (av _ hq)),aC,fU,fv]
theorem zj5 {α:Type}(f:Nat->List α):∀(l:List Nat),l.Nodup->(∀p∈l,(f p).Nodup)->(∀p∈l,∀q∈l,∀x,x∈f p->x∈f q->p=q)->(l.flatMap f).Nodup
 | [],_,_,_=>by simp
 | p::l,hn,h1,h2=>by
  rw[dZ]
  refine bK.mpr ⟨h1 p ax,zj5 f l (aV.mp hn).2 (λq hq=>h1 q (av _ hq)) (λq hq r hr=>h2 q (av _ hq) r (av _ hr)),λa ha b hb e=>?_⟩
  subst e
  obtain⟨q,hq,hx⟩:=dN.mp hb
  have:=h2 p ax q (av _ hq) a ha hx
  exact(aV.mp hn).1 (this ▸ hq)
section
variable {n:Nat}{C:Chn}(ok:C.Ok n)
include ok
theorem Chn.Ok.all:∀(d:Nat),d<=n->(∀j,n-d<=j->j<n->C.Shut n j)->∃L:List (List Nat),L.Nodup/\(∀x,x∈L↔Grp n (C.mv (n-d)) x)/\L.length=C.many n d
 | 0,_,_=>⟨[List.range n],by simp,λx=>⟨λh=>by rw[ar.mp h];exact .one,λh=>by
   rw[dP]at h
   have hT:=h.isT (ok.mvT n)
   rw[Fix.all hT (ok.genF (ag n) h)]
   exact ar.mpr rfl⟩,rfl⟩
 | d+1,hd,sh=>by
  have hj:n-(d+1)<n:=by lia
  have e:n-(d+1)+1=n-d:=by lia
  obtain⟨L,hL,hm,hl⟩:=Chn.Ok.all d (by lia) (λj h1 h2=>sh j (by lia) h2)
  have hfx:∀h,h∈L->IsT n h/\Fix (n-(d+1)+1) h:=λh hh=>by
   have g:=(hm h).mp hh
   rw[e]
   exact⟨g.isT (ok.mvT _),ok.genF (by lia) g⟩
  refine⟨(C.ring (n-(d+1))).flatMap λp=>L.map λh=>beh h (C.up (n-(d+1)) p),?_,λx=>⟨λh=>?_,λh=>?_⟩,?_⟩
  ·refine zj5 _ _ (ok.nd _ hj) (λp hp=>?_) (λp hp q hq x hx hy=>?_)
   ·exact bB.mpr (List.Pairwise.imp_of_mem (λha hb hne z=>hne (za7 (hfx _ ha).1 (hfx _ hb).1 (ok.upT hj hp) z)) hL)
   ·obtain⟨h,hh,rfl⟩:=ay.mp hx
    obtain⟨k,hk,e2⟩:=ay.mp hy
    have a1:(beh h (C.up (n-(d+1)) p)).getD (n-(d+1)) 0=p:=by
     rw[beh_get (hfx _ hh).1 hj,(hfx _ hh).2 _ (by lia),ok.upTo _ _ hj hp]
    have a2:(beh k (C.up (n-(d+1)) q)).getD (n-(d+1)) 0=q:=by
     rw[beh_get (hfx _ hk).1 hj,(hfx _ hk).2 _ (by lia),ok.upTo _ _ hj hq]
    rw[←a1,←a2,e2]
  ·obtain⟨p,hp,hx⟩:=dN.mp h
   obtain⟨k,hk,rfl⟩:=ay.mp hx
   have g:=(hm k).mp hk
   rw[←e]at g
   exact Grp.beh (ok.mvT _) (Grp.mono (ok.mvT _) (ok.down _) g) (ok.upG _ _ hj hp)
  ·obtain⟨p,k,hp,hk,rfl⟩:=ok.parts hj (sh _ (ag _) hj) h
   rw[e]at hk
   exact dN.mpr ⟨p,hp,ay.mpr ⟨k,(hm k).mpr hk,rfl⟩⟩
  ·rw[zv9 _ L.length _ (λp _=>aa _),hl]
   rfl
end
section
variable {n:Nat}{t:List Nat}(hT:IsT n t)
include hT
theorem IsT.pwT_isT (m:Int):IsT n (pwT t m):=by
 refine zo8 (hT.pwT_len m) ?_ λx hx=>?_
 ·refine bB.mpr (List.Pairwise.imp_of_mem (λha hb hne z=>hne ?_) eF)
  rename_i a b
  have ha':a<n:=by rw[←hT.length];exact bv.mp ha
  have hb':b<n:=by rw[←hT.length];exact bv.mp hb
  have z':=congrArg (pw t (-m)) z
  rw[hT.pw_pw _ _ ha',hT.pw_pw _ _ hb',Int.add_right_neg]at z'
  have h0:∀y,y<n->pw t 0 y=y:=λy hy=>by
   unfold pw
   rw[Int.zero_emod]
   rfl
  rw[h0 a ha',h0 b hb']at z'
  exact z'
 ·obtain⟨i,hi,rfl⟩:=ay.mp hx
  exact hT.pw_lt m (by rw[←hT.length];exact bv.mp hi)
theorem IsT.pwT_beh (a b:Int):TM.beh (pwT t a) (pwT t b)=pwT t (a+b):=hT.pwT_comp a b
theorem IsT.pwT_bk (m:Int):TM.bk n (pwT t m)=pwT t (-m):=by
 have hA:=hT.pwT_isT m
 have e:=hT.pwT_beh m (-m)
 rw[Int.add_right_neg,←hT.pwT_zero]at e
 have e2:=zg1 hA
 exact yc4 hA.bk (hT.pwT_isT _) hA (e2.trans e.symm)
theorem IsT.pw_eq (hx:x<n):pw t a x=pw t b x↔a % (per t x:Int)=b % (per t x:Int):=by
 have hp:=hT.per_pos hx
 have na:∀m:Int,0<=m % (per t x:Int)/\m % (per t x:Int)<(per t x:Int):=λm=>⟨cP _ (by lia),dI _ (by lia)⟩
 constructor
 ·intro e
  have ha:=na a
  have hb:=na b
  have:=hT.it_eq_iff hx (i:=(a % (per t x:Int)).toNat) (j:=(b % (per t x:Int)).toNat) (by lia) (by lia) e
  lia
 ·intro e
  unfold pw
  rw[e]
def ord (t:List Nat):Nat:=xr1 ((List.range t.length).map (per t))
end
theorem ye2:∀(l:List Nat) (a:Nat),a ∣ l.foldl Nat.lcm a/\∀x∈l,x ∣ l.foldl Nat.lcm a
 | [],a=>⟨Nat.dvd_refl _,λx hx=>by cases hx⟩
 | y::l,a=>by
  obtain⟨h1,h2⟩:=ye2 l (Nat.lcm a y)
  refine⟨Nat.dvd_trans (Nat.dvd_lcm_left a y) h1,λx hx=>?_⟩
  rcases aw.mp hx with e|e
  ·rw[e];exact Nat.dvd_trans (Nat.dvd_lcm_right a y) h1
  ·exact h2 x e
section
variable {n:Nat}{t:List Nat}(hT:IsT n t)
include hT
theorem IsT.ord_pos:0<ord t:=xb6 λx hx=>by
 obtain⟨y,hy,rfl⟩:=ay.mp hx
 exact hT.per_pos (by rw[←hT.length];exact bv.mp hy)
theorem IsT.per_dvd (hx:x<n):per t x ∣ ord t:=(ye2 _ 1).2 _ (ay.mpr ⟨x,by rw[hT.length];exact bv.mpr hx,rfl⟩)
theorem IsT.pwT_mod (m:Int):pwT t (m % (ord t:Int))=pwT t m:=by
 refine hT.eq_pwT (hT.pwT_len _) λx hx=>?_
 rw[hT.pwT_get _ hx]
 congr 1
 rw[hT.pw_eq hx]
 exact Int.emod_emod_of_dvd m (Int.natCast_dvd_natCast.mpr (hT.per_dvd hx))
end
end TM
namespace TM
theorem zq6 {α:Type}[DecidableEq α]:∀{t l:List α},t.Nodup->(∀x∈t,x∈l)->l.length<=t.length->t.Perm l
 | [],l,_,_,h=>by
  have:l=[]:=dq.mp (by simpa using h)
  rw[this]
 | a::t,l,hn,hs,h=>by
  have ha:a∈l:=hs a ax
  have hp:=List.perm_cons_erase ha
  have hn':=aV.mp hn
  have hl:(l.erase a).length<=t.length:=by
   have:=hp.length_eq
   rw[aC]at this h
   lia
  refine List.Perm.trans (List.Perm.cons a (zq6 hn'.2 (λx hx=>?_) hl)) hp.symm
  have hne:x≠a:=λe=>hn'.1 (e ▸ hx)
  exact(dD hne).mpr (hs x (av _ hx))
theorem grp_closed {S L:List (List Nat)}(hS:∀s∈S,IsT n s)(hL:L.Nodup)(h1:List.range n∈L)(hG:∀x∈L,Grp n (λz=>z∈S) x)(hc:∀x∈L,∀s∈S,beh x s∈L)(x:List Nat):x∈L↔Grp n (λz=>z∈S) x:=by
 have hT:∀x∈L,IsT n x:=λx hx=>(hG x hx).isT hS
 refine⟨hG x,λh=>?_⟩
 refine Grp.keeps (P:=λx=>x∈L) h1 (λa s ha hs=>hc a ha s hs) (λa s ha hs=>?_) h
 have hn:(L.map λx=>beh x s).Nodup:=bB.mpr (List.Pairwise.imp_of_mem (λha hb hne z=>hne (za7 (hT _ ha) (hT _ hb) (hS s hs) z)) hL)
 have hp:=zq6 hn (l:=L) (λy hy=>by
  obtain⟨b,hb,rfl⟩:=ay.mp hy
  exact hc b hb s hs) (by rw[aa];exact ag _)
 obtain⟨b,hb,e⟩:=ay.mp (hp.mem_iff.mpr ha)
 rw[←e,yl9 (hT b hb) (hS s hs)]
 exact hb
def Only (n:Nat)(W t:List Nat):Prop:=∀x,x<n->x∉W->t.getD x 0=x
theorem Only.grp {S:List Nat->Prop}(hS:∀s,S s->IsT n s)(hO:∀s,S s->Only n W s)(h:Grp n S x):Only n W x:=by
 induction h with
 | one=>exact λy hy _=>still_get hy
 | mul hg hs ih=>exact λy hy hw=>by rw[beh_get (hg.isT hS) hy,ih y hy hw,hO _ hs y hy hw]
 | inv hg hs ih =>
  intro y hy hw
  rw[beh_get (hg.isT hS) hy,ih y hy hw]
  have h:=za8 (hS _ hs) hy
  rwa [hO _ hs y hy hw]at h
theorem Only.stay {W t:List Nat}(hT:IsT n t)(hW:∀x∈W,x<n)(h:Only n W t)(hx:x∈W):t.getD x 0∈W:=by
 refine Classical.byContradiction λhw=>?_
 have hlt:=hT.step_lt (hW x hx)
 have e:=h _ hlt hw
 have:=hT.step_inj hlt (hW x hx) e
 exact hw (by rw[this];exact hx)
theorem yt8 {l:List Nat}(hx:x∈l)(e:l.idxOf x=l.idxOf y):x=y:=by
 have h1:=List.getElem_idxOf (bL hx)
 have hlt:l.idxOf y<l.length:=by rw[←e];exact bL hx
 have h2:=List.getElem_idxOf hlt
 rw[←h1,←h2]
 congr 1
structure Sprd (n:Nat) (W row:List Nat) (k:Nat) (g:List Nat):Prop where
 len:g.length=n
 out:∀x,x<n->x∉W.take k->g[x]?=some x
 at':∀j x,j<k->W[j]?=some x->g[x]?=some (W.getD (row.getD j 0) 0)
theorem Sprd.start :Sprd n W row 0 (List.range n):=⟨aS,λx hx _=>bn hx,λj x hj=>absurd hj (cO _)⟩
theorem Sprd.step {W row g:List Nat}(hW:W.Nodup)(hlt:∀x∈W,x<n)(h:Sprd n W row k g)(hk:W[k]?=some x):Sprd n W row (k+1) (g.set x (W.getD (row.getD k 0) 0)):=by
 have hx:=hlt x (aq hk)
 have hne:∀j y,j<k->W[j]?=some y->y≠x:=λj y hj hy e=>by
  subst e
  have:=(V3 hW hy).symm.trans (V3 hW hk)
  lia
 refine⟨by rw[bV];exact h.len,λy hy hn=>?_,λj y hj hy=>?_⟩
 ·rw[bJ,hk]at hn
  have h1:y∉W.take k:=λz=>hn (aJ _ z)
  have h2:y≠x:=λe=>hn (aG _ (by rw[e];simp))
  rw[bY (Ne.symm h2)]
  exact h.out y hy h1
 ·by_cases e:j=k
  ·subst e
   obtain rfl:x=y:=Option.some.inj (hk.symm.trans hy)
   rw[cw (by rw[h.len];exact hx)]
  ·rw[bY (Ne.symm (hne j y (by lia) hy))]
   exact h.at' j y (by lia) hy
theorem Sprd.done {W row g:List Nat}(hW:W.Nodup)(hlt:∀x∈W,x<n)(hr:IsT W.length row)(h:Sprd n W row W.length g):IsT n g/\Only n W g:=by
 have hout:∀x,x<n->x∉W->g[x]?=some x:=λx hx hn=>h.out x hx (by rw[cn];exact hn)
 have wg:∀a,a<W.length->W[a]?=some (W.getD a 0):=λa ha=>by rw[au,ae ha];rfl
 have wm:∀a,a<W.length->W.getD a 0∈W:=λa ha=>by
  rw[au,ae ha]
  exact bX ha
 have hin:∀x,x∈W->∃j,j<W.length/\W[j]?=some x/\g[x]?=some (W.getD (row.getD j 0) 0):=λx hx=>by
  obtain⟨j,hj,e⟩:=bg.mp hx
  have e':W[j]?=some x:=by rw[ae hj,e]
  exact⟨j,hj,e',h.at' j x hj e'⟩
 have inj:∀x y v,x<n->y<n->g[x]?=some v->g[y]?=some v->x=y:=λx y v hx hy h1 h2=>by
  by_cases a:x∈W <;> by_cases b:y∈W
  ·obtain⟨i,hi,e1,e2⟩:=hin x a
   obtain⟨j,hj,e3,e4⟩:=hin y b
   rw[h1]at e2
   rw[h2]at e4
   have e:=(Option.some.inj e2).symm.trans (Option.some.inj e4)
   have ri:=hr.step_lt hi
   have rj:=hr.step_lt hj
   have p1:W[row.getD i 0]?=some (W.getD (row.getD i 0) 0):=wg _ ri
   have p2:W[row.getD j 0]?=some (W.getD (row.getD i 0) 0):=by rw[e];exact wg _ rj
   have q:=(V3 hW p1).symm.trans (V3 hW p2)
   have ij:=hr.step_inj hi hj q
   rw[ij,e3]at e1
   exact(Option.some.inj e1).symm
  ·obtain⟨i,hi,e1,e2⟩:=hin x a
   rw[hout y hy b]at h2
   rw[h1,←Option.some.inj h2]at e2
   exact absurd (by rw[Option.some.inj e2];exact wm _ (hr.step_lt hi)) b
  ·obtain⟨i,hi,e1,e2⟩:=hin y b
   rw[hout x hx a]at h1
   rw[h2,←Option.some.inj h1]at e2
   exact absurd (by rw[Option.some.inj e2];exact wm _ (hr.step_lt hi)) a
  ·rw[hout x hx a]at h1
   rw[hout y hy b]at h2
   exact(Option.some.inj h1).trans (Option.some.inj h2).symm
 refine⟨zo8 h.len ?_ λv hv=>?_,λx hx hn=>getD_of (hout x hx hn)⟩
 ·refine bD.mpr λi j hi hj hij e=>?_
  have:=inj i j g[i] (by rw[←h.len];exact hi) (by rw[←h.len];exact hj) (ae hi) (by rw[e];exact ae hj)
  lia
 ·obtain⟨x,hx,e⟩:=bg.mp hv
  have hxn:x<n:=by rw[←h.len];exact hx
  have e':g[x]?=some v:=by rw[ae hx,e]
  by_cases a:x∈W
  ·obtain⟨i,hi,e1,e2⟩:=hin x a
   rw[e']at e2
   rw[Option.some.inj e2]
   exact hlt _ (wm _ (hr.step_lt hi))
  ·rw[hout x hxn a]at e'
   rw[←Option.some.inj e']
   exact hxn
theorem Only.more (h:Only n W t)(hs:∀x∈W,x∈V):Only n V t:=λx hx hn=>h x hx λz=>hn (hs x z)
end TM
namespace TM
def Chn.Cos (n:Nat)(C:Chn)(j:Nat)(h x:List Nat):Prop:=∃g,Grp n (C.mv j) g/\x=beh g h
theorem xi9 {h:List Nat}(hT:IsT n h)(hp:p<n):h.idxOf (h.getD p 0)=p:=V3 hT.nodup (hT.get_step hp)
section
variable {n:Nat}{C:Chn}(ok:C.Ok n)
include ok
theorem Chn.Ok.cos (hj:j<n)(sh:C.Shut n j){h x:List Nat}(hT:IsT n h)(c:C.Cos n j h x):∃p,p∈C.ring j/\p<n/\x.getD j 0=h.getD p 0/\h.idxOf (x.getD j 0)=p/\IsT n (beh (C.up j p) h)/\C.Cos n (j+1) (beh (C.up j p) h) x:=by
 obtain⟨g,hg,rfl⟩:=c
 obtain⟨p,k,hp,hk,rfl⟩:=ok.parts hj sh hg
 have hkT:=hk.isT (ok.mvT _)
 have hu:=ok.upT hj hp
 have hpn:=ok.lt j p hj hp
 have e:(beh (beh k (C.up j p)) h).getD j 0=h.getD p 0:=by
  rw[beh_get (hkT.beh hu) hj,beh_get hkT hj,ok.genF (Nat.succ_le_of_lt hj) hk _ (cZ _),ok.upTo j p hj hp]
 refine⟨p,hp,hpn,e,?_,hu.beh hT,k,hk,p0 hkT hu hT⟩
 rw[e,xi9 hT hpn]
omit ok in
theorem Chn.Cos.isT (hS:∀s,C.mv j s->IsT n s)(hT:IsT n h)(c:C.Cos n j h x):IsT n x:=by
 obtain⟨g,hg,rfl⟩:=c
 exact(hg.isT hS).beh hT
theorem Chn.Ok.cos_up (hj:j<n)(hp:p∈C.ring j)(hT:IsT n h)(c:C.Cos n (j+1) (beh (C.up j p) h) x):C.Cos n j h x:=by
 obtain⟨g,hg,rfl⟩:=c
 have hgT:=hg.isT (ok.mvT _)
 refine⟨beh g (C.up j p),Grp.beh (ok.mvT j) (Grp.mono (ok.mvT j) (ok.down j) hg) (ok.upG j p hj hp),(p0 hgT (ok.upT hj hp) hT).symm⟩
theorem Chn.Ok.cos_ahead (hj:j<=n){h x:List Nat}(hT:IsT n h)(c:C.Cos n j h x)(hi:i<j):x.getD i 0=h.getD i 0:=by
 obtain⟨g,hg,rfl⟩:=c
 rw[beh_get (hg.isT (ok.mvT _)) (by lia),ok.genF hj hg _ hi]
omit ok in
theorem yo3 {a b u v m:Nat}(hu:u<m)(hv:v<m):(a*m+u=b*m+v->a=b/\u=v)/\(a*m+u<b*m+v->a<b∨(a=b/\u<v)):=by
 have key:∀a b u v:Nat,u<m->v<m->a<b->a*m+u<b*m+v:=λa b u v hu hv h=>by
  have:(a+1)*m<=b*m:=dE m h
  rw[eQ,eP]at this
  lia
 refine⟨λe=>?_,λe=>?_⟩
 ·rcases dL a b with c|c|c
  ·have:=key a b u v hu hv c;lia
  ·subst c;exact⟨rfl,by lia⟩
  ·have:=key b a v u hv hu c;lia
 ·rcases dL a b with c|c|c
  ·exact .inl c
  ·subst c;exact .inr ⟨rfl,by lia⟩
  ·have:=key b a v u hv hu c;lia
end
end TM
namespace TM
def Chn.LeastL (C:Chn):List Nat->List Nat->List Nat->Prop
 | [],h,u=>u=h
 | j::js,h,u=>∃p,p∈C.ring j/\(∀q,q∈C.ring j->h.getD p 0<=h.getD q 0)/\Chn.LeastL C js (beh (C.up j p) h) u
def Lx (n:Nat)(x y:List Nat):Prop:=∃i,i<n/\(∀q,q<i->x.getD q 0=y.getD q 0)/\x.getD i 0<y.getD i 0
theorem Lx.no (h:Lx n x y)(h':Lx n y x):False:=by
 obtain⟨i,_,h1,h2⟩:=h
 obtain⟨j,_,k1,k2⟩:=h'
 rcases dL i j with c|c|c
 ·have:=k1 i c
  lia
 ·subst c
  lia
 ·have:=h1 j c
  lia
section
variable {n:Nat}{C:Chn}(ok:C.Ok n)
include ok
theorem Chn.Ok.least:∀(d j:Nat) (h u:List Nat),j+d=n->(∀i,j<=i->i<n->C.Shut n i)->IsT n h->C.LeastL (List.range' j d) h u->C.Cos n j h u/\∀x,C.Cos n j h x->x=u∨Lx n u x
 | 0,j,h,u,e,sh,hT,hu=>by
  have e:j=n:=by lia
  subst e
  have hu:u=h:=hu
  subst hu
  refine⟨⟨List.range j,.one,(still_beh hT).symm⟩,λx hx=>.inl ?_⟩
  have xT:=hx.isT (ok.mvT j) hT
  exact P7 xT hT λi hi=>ok.cos_ahead (ag _) hT hx hi
 | d+1,j,h,u,e,sh,hT,hu=>by
  have hj:j<n:=by lia
  rw[dM]at hu
  obtain⟨p,hp,hmin,hu⟩:=hu
  have hpn:=ok.lt j p hj hp
  have hup:=ok.upT hj hp
  have hT':=hup.beh hT
  obtain⟨c1,c2⟩:=Chn.Ok.least d (j+1) (beh (C.up j p) h) u (by lia) (λi h1 h2=>sh i (by lia) h2) hT' hu
  have cu:=ok.cos_up hj hp hT c1
  have uj:u.getD j 0=h.getD p 0:=by
   rw[ok.cos_ahead (by lia) hT' c1 (cZ j),beh_get hup hj,ok.upTo j p hj hp]
  refine⟨cu,λx hx=>?_⟩
  obtain⟨p',hp',hpn',xj,_,_,cx⟩:=ok.cos hj (sh j (ag _) hj) hT hx
  by_cases ep:p'=p
  ·subst ep
   exact c2 x cx
  ·refine .inr ⟨j,hj,λq hq=>?_,?_⟩
   ·rw[ok.cos_ahead (bA hj) hT cu hq,ok.cos_ahead (bA hj) hT hx hq]
   ·rw[uj,xj]
    refine cN (hmin p' hp') λc=>ep ?_
    exact(hT.step_inj hpn hpn' c).symm
end
def Side (n:Nat)(S:List Nat->Prop)(t u:List Nat):Prop:=∃g,Grp n S g/\u=beh g t
def LeastOf (n:Nat)(S:List Nat->Prop)(t u:List Nat):Prop:=Side n S t u/\∀x,Side n S t x->x=u∨Lx n u x
section
variable {n:Nat}{S:List Nat->Prop}(hS:∀s,S s->IsT n s)
include hS
theorem Side.isT (tT:IsT n t)(h:Side n S t u):IsT n u:=by
 obtain⟨g,hg,rfl⟩:=h
 exact(hg.isT hS).beh tT
omit hS in
theorem Side.own (tT:IsT n t):Side n S t t:=⟨List.range n,.one,(still_beh tT).symm⟩
theorem Side.trans (tT:IsT n t)(h1:Side n S t u)(h2:Side n S u v):Side n S t v:=by
 obtain⟨g,hg,rfl⟩:=h1
 obtain⟨k,hk,rfl⟩:=h2
 exact⟨beh k g,hk.beh hS hg,(p0 (hk.isT hS) (hg.isT hS) tT).symm⟩
theorem Side.symm (tT:IsT n t)(h:Side n S t u):Side n S u t:=by
 obtain⟨g,hg,rfl⟩:=h
 have gT:=hg.isT hS
 refine⟨bk n g,hg.bk hS,?_⟩
 rw[←p0 gT.bk gT tT,zn5 gT,still_beh tT]
theorem LeastOf.uniq (tT:IsT n t)(tT':IsT n t')(s:Side n S t t')(h:LeastOf n S t u)(h':LeastOf n S t' u'):u=u':=by
 have a:Side n S t u':=s.trans hS tT h'.1
 have b:Side n S t' u:=Side.trans hS tT' (s.symm hS tT) h.1
 rcases h.2 _ a with c|c
 ·exact c.symm
 ·rcases h'.2 _ b with c'|c'
  ·exact c'
  ·exact(c.no c').elim
end
end TM
namespace TM
open Classical
section
variable (n:Nat)(G:List Nat->Prop)
end
section
variable {n:Nat}{C:Chn}{G:List Nat->Prop}(ok:C.Ok n)(sh:∀i,i<n->C.Shut n i)(hG:∀x,Grp n (C.mv 0) x↔G x)
include ok sh hG
end
end TM
namespace TM
open Classical
structure zm9 (n a b:Nat) (t:List Nat):Prop where
 isT:IsT n t
 to:t.getD a 0=b
 fro:t.getD b 0=a
 out:∀x,x<n->x≠a->x≠b->t.getD x 0=x
theorem zn8 {l t:List Nat}(lT:IsT n l)(tT:IsT n t)(hx:x<n):(beh (beh (bk n l) t) l).getD (l.getD x 0) 0=l.getD (t.getD x 0) 0:=by
 have hy:=lT.step_lt hx
 rw[beh_get (lT.bk.beh tT) hy,beh_get lT.bk hy,za8 lT hx]
theorem zm9.conj {t l:List Nat}(ha:a<n)(hb:b<n)(h:zm9 n a b t)(lT:IsT n l):zm9 n (l.getD a 0) (l.getD b 0) (beh (beh (bk n l) t) l):=by
 refine⟨(lT.bk.beh h.isT).beh lT,by rw[zn8 lT h.isT ha,h.to],by rw[zn8 lT h.isT hb,h.fro],λy hy ya yb=>?_⟩
 have hx:=lT.bk.step_lt hy
 have e:l.getD ((bk n l).getD y 0) 0=y:=by
  have:=za8 lT.bk hy
  rwa [yx3 lT]at this
 have:=zn8 lT h.isT hx
 rw[e,h.out _ hx (λz=>ya (by rw[←z,e])) (λz=>yb (by rw[←z,e])),e]at this
 exact this
theorem zm9.symm (h:zm9 n a b t):zm9 n b a t:=⟨h.isT,h.fro,h.to,λx hx h1 h2=>h.out x hx h2 h1⟩
def yo4 (n:Nat)(W:List Nat)(S:List Nat->Prop):Prop:=∀a,a∈W->∀b,b∈W->a≠b->∃t,zm9 n a b t/\Grp n S t
section
variable {n:Nat}{W:List Nat}{S:List Nat->Prop}(hS:∀s,S s->IsT n s)(hW:W.Nodup)(hlt:∀x∈W,x<n)
include hS hW hlt
theorem yk0 (h:∀k,k+1<W.length->∃t,zm9 n (W.getD k 0) (W.getD (k+1) 0) t/\Grp n S t):yo4 n W S:=by
 have wlt:∀k,k<W.length->W.getD k 0<n:=λk hk=>hlt _ (by rw[au,ae hk];exact bX hk)
 have wne:∀i k,i<W.length->k<W.length->i≠k->W.getD i 0≠W.getD k 0:=λi k hi hk hne e=>by
  have h1:W[i]?=some (W.getD i 0):=by rw[au,ae hi];rfl
  have h2:W[k]?=some (W.getD k 0):=by rw[au,ae hk];rfl
  rw[e]at h1
  exact hne ((V3 hW h1).symm.trans (V3 hW h2))
 have key:∀d i,i+(d+1)<W.length->∃t,zm9 n (W.getD i 0) (W.getD (i+(d+1)) 0) t/\Grp n S t:=λd=>by
  induction d with
  | zero=>exact λi hi=>h i hi
  | succ d ih =>
   intro i hi
   obtain⟨t,ht,hg⟩:=ih i (by lia)
   obtain⟨e,he,heg⟩:=h (i+(d+1)) hi
   have c:=ht.conj (wlt i (by lia)) (wlt _ (by lia)) he.isT
   rw[he.to,he.out _ (wlt i (by lia)) (wne _ _ (by lia) (by lia) (by lia)) (wne _ _ (by lia) (by lia) (by lia))]at c
   exact⟨_,c,Grp.beh hS (Grp.beh hS (heg.bk hS) hg) heg⟩
 intro a ha b hb hne
 obtain⟨i,hi,rfl⟩:=bg.mp ha
 obtain⟨k,hk,rfl⟩:=bg.mp hb
 have e1:W.getD i 0=W[i]:=by rw[au,ae hi];rfl
 have e2:W.getD k 0=W[k]:=by rw[au,ae hk];rfl
 rcases dL i k with c|c|c
 ·obtain⟨t,ht,hg⟩:=key (k-i-1) i (by lia)
  rw[show i+(k-i-1+1)=k by lia,e1,e2]at ht
  exact⟨t,ht,hg⟩
 ·subst c
  exact absurd rfl hne
 ·obtain⟨t,ht,hg⟩:=key (i-k-1) k (by lia)
  rw[show k+(i-k-1+1)=i by lia,e1,e2]at ht
  exact⟨t,ht.symm,hg⟩
theorem yj9 {l e:List Nat}(lG:Grp n S l)(hl:∀k,k+1<W.length->l.getD (W.getD k 0) 0=W.getD (k+1) 0)(he:zm9 n (W.getD 0 0) (W.getD 1 0) e)(eG:Grp n S e):yo4 n W S:=by
 refine yk0 hS hW hlt λk=>?_
 have wlt:∀k,k<W.length->W.getD k 0<n:=λk hk=>hlt _ (by rw[au,ae hk];exact bX hk)
 induction k with
 | zero=>exact λ_=>⟨e,he,eG⟩
 | succ k ih =>
  intro hk
  obtain⟨t,ht,hg⟩:=ih (by lia)
  have lT:=lG.isT hS
  have c:=ht.conj (wlt _ (by lia)) (wlt _ (by lia)) lT
  rw[hl k (by lia),hl (k+1) hk]at c
  exact⟨_,c,Grp.beh hS (Grp.beh hS (lG.bk hS) hg) lG⟩
omit hW in
theorem xm5 (hO:∀s,S s->Only n W s)(hE:yo4 n W S)(x:List Nat):Grp n S x↔IsT n x/\Only n W x:=by
 refine⟨λh=>⟨h.isT hS,Only.grp hS hO h⟩,λ⟨h1,h2⟩=>?_⟩
 have key:∀d j,j+d=n->∀x,IsT n x->Only n W x->Fix j x->Grp n S x:=λd=>by
  induction d with
  | zero =>
   intro j e x xT _ hf
   have:j=n:=by lia
   subst this
   rw[Fix.all xT hf]
   exact .one
  | succ d ih =>
   intro j e x xT xO hf
   have hj:j<n:=by lia
   by_cases ep:x.getD j 0=j
   ·refine ih (j+1) (by lia) x xT xO λy hy=>?_
    rcases bW (cT hy) with c|c
    ·exact hf y c
    ·rw[c];exact ep
   ·have hp:=xT.step_lt hj
    generalize eq:x.getD j 0=p at ep hp
    have jW:j∈W:=Decidable.byContradiction λc=>ep (by rw[←eq];exact xO j hj c)
    have pW:p∈W:=Decidable.byContradiction λc=>ep (xT.step_inj hp hj (by rw[xO p hp c,eq]))
    have pj:∀y,y<j->y≠p:=λy hy z=>ep (xT.step_inj hp hj (by rw[eq,←z];exact hf y hy))
    obtain⟨t,ht,hg⟩:=hE j jW p pW (Ne.symm ep)
    have xt:=xT.beh ht.isT
    have h':=ih (j+1) (by lia) (beh x t) xt (λy hy hyW=>?_) (λy hy=>?_)
    ·have:=Grp.beh hS h' (hg.bk hS)
     rwa [yl9 xT ht.isT]at this
    ·rw[beh_get xT hy,xO y hy hyW]
     exact ht.out y hy (λz=>hyW (z ▸ jW)) (λz=>hyW (z ▸ pW))
    ·rcases bW (cT hy) with c|c
     ·rw[beh_get xT (by lia),hf y c]
      exact ht.out y (by lia) (by lia) (pj y c)
     ·rw[c,beh_get xT hj,eq,ht.fro]
 exact key n 0 (by lia) x h1 h2 (Fix.zero x)
end
def fac:Nat->Nat
 | 0=>1
 | k+1=>(k+1)*fac k
noncomputable def cnt (W:List Nat) (j d:Nat):Nat:=((List.range' j d).filter λp=>decide (p∈W)).length
end TM
namespace TM
def cj (n:Nat)(b t:List Nat):List Nat:=beh (beh (bk n b) t) b
def sp (n:Nat)(W row:List Nat):List Nat:=(List.range n).map λx=>if x∈W then W.getD (row.getD (W.idxOf x) 0) 0 else x
section
variable {n:Nat}{W:List Nat}(hW:W.Nodup)(hlt:∀x∈W,x<n)
include hW hlt
end
end TM
namespace TM
end TM
namespace TM
theorem fresh (l:List Nat)(h:l.length<n):∃z,z<n/\z∉l:=by
 refine Classical.byContradiction λhno=>?_
 have hs:∀x,x∈List.range n->x∈l:=λx hx=>Classical.byContradiction λhx'=>hno ⟨x,bv.mp hx,hx'⟩
 have:=xj3 eF hs
 rw[aS]at this
 lia
def e7:List Nat:=[1,0,2,3,4,5,6]
end TM
namespace TM
structure Nrm (n:Nat) (N:List Nat->Prop):Prop where
 isT:∀x,N x->IsT n x
 two:∀x y,N x->N y->N (beh x y)
 back:∀x,N x->N (bk n x)
 one:N (List.range n)
 turn:∀g x,IsT n g->N x->N (cj n g x)
section
variable {n:Nat}{N:List Nat->Prop}(hN:Nrm n N)
include hN
end
end TM
namespace TM
open Classical
section
variable {n:Nat}{us ts:List (List Nat)}(hU:∀u∈us,IsT n u)(hT:∀t∈ts,IsT n t)
include hU hT
end
section
variable {n:Nat}{us ms ts:List (List Nat)}(hU:∀u∈us,IsT n u)(hT:∀t∈ts,IsT n t)(hM:∀m∈ms,IsT n m)(hMU:∀x,Grp n (λz=>z∈ms) x↔Grp n (λz=>z∈us) x)
include hU hT
include hM hMU
end
end TM
namespace TM
open Classical
section
variable {n:Nat}{a b c:List Nat}
end
end TM
namespace TM
open Classical
def Few (n:Nat)(S:List (List Nat))(N:Nat):Prop:=∀L:List (List Nat),L.Nodup->(∀x∈L,Grp n (λz=>z∈S) x)->L.length<=N
section
variable {s:Nat}(hs:0<s)
include hs
end
end TM
namespace TM
end TM
namespace TM
end TM
namespace TM
def yd1:List Nat->List Nat->Nat
 | _,[]=>0
 | W,x::l=>W.idxOf x*fac l.length+yd1 (W.erase x) l
theorem zl7:∀{l W:List Nat},l.Nodup->(∀x∈l,x∈W)->W.Nodup->W.length=l.length->yd1 W l<fac l.length
 | [],_,_,_,_,_=>Nat.zero_lt_one
 | x::l,W,hl,hs,hW,e=>by
  obtain⟨h1,h2⟩:=aV.mp hl
  have hx:=hs x ax
  have ih:=zl7 (W:=W.erase x) h2 (λy hy=>(dD (a:=y) (b:=x) λz=>h1 (z ▸ hy)).mpr (hs y (av _ hy))) (hW.erase x) (by rw[df hx,e];rfl)
  have hi:W.idxOf x<l.length+1:=by rw[←aC,←e];exact bL hx
  have hm:=dE (fac l.length) (cT hi)
  show W.idxOf x*fac l.length+yd1 (W.erase x) l<(l.length+1)*fac l.length
  rw[eQ,eP]
  lia
theorem yd2:∀{l l' W:List Nat},l.Nodup->l'.Nodup->(∀x∈l,x∈W)->(∀x∈l',x∈W)->W.Nodup->W.length=l.length->l.length=l'.length->yd1 W l=yd1 W l'->l=l'
 | [],[],_,_,_,_,_,_,_,_,_=>rfl
 | x::l,y::l',W,hl,hl',hs,hs',hW,e,e',h=>by
  obtain⟨h1,h2⟩:=aV.mp hl
  obtain⟨h1',h2'⟩:=aV.mp hl'
  have hx:=hs x ax
  have hy:=hs' y ax
  have len:l.length=l'.length:=Nat.succ.inj e'
  have sub:∀z∈l,z∈W.erase x:=λz hz=>(dD (a:=z) (b:=x) λq=>h1 (q ▸ hz)).mpr (hs z (av _ hz))
  have sub':∀z∈l',z∈W.erase y:=λz hz=>(dD (a:=z) (b:=y) λq=>h1' (q ▸ hz)).mpr (hs' z (av _ hz))
  have le:(W.erase x).length=l.length:=by rw[df hx,e];rfl
  have le':(W.erase y).length=l'.length:=by rw[df hy,e,←len];rfl
  have h:W.idxOf x*fac l.length+yd1 (W.erase x) l=W.idxOf y*fac l'.length+yd1 (W.erase y) l':=h
  rw[←len]at h
  obtain⟨i1,i2⟩:=(yo3 (zl7 h2 sub (hW.erase x) le) (by rw[len];exact zl7 h2' sub' (hW.erase y) le')).1 h
  obtain rfl:=yt8 hx i1
  rw[yd2 h2 h2' sub sub' (hW.erase x) le len i2]
theorem few_sym {W:List Nat}(hS:∀s∈S,IsT n s)(hO:∀s∈S,Only n W s)(hW:W.Nodup)(hlt:∀x∈W,x<n):Few n S (fac W.length):=λL hL hG=>by
 have hT:∀t∈L,IsT n t:=λt ht=>(hG t ht).isT hS
 have hO:∀t∈L,Only n W t:=λt ht=>Only.grp hS hO (hG t ht)
 have nd:∀t∈L,(W.map λx=>t.getD x 0).Nodup:=λt ht=>bB.mpr (List.Pairwise.imp_of_mem (λ{a b} ha hb hab e=>hab ((hT t ht).inj ((hT t ht).get_step (hlt a ha)) (e ▸ (hT t ht).get_step (hlt b hb)))) hW)
 have sub:∀t∈L,∀y∈W.map (λx=>t.getD x 0),y∈W:=λt ht y hy=>by
  obtain⟨x,hx,rfl⟩:=ay.mp hy
  exact(hO t ht).stay (hT t ht) hlt hx
 have h1:(L.map λt=>yd1 W (W.map λx=>t.getD x 0)).Nodup:=bB.mpr (List.Pairwise.imp_of_mem (λ{t u} ht hu hne z=>hne (by
  have e:=yd2 (nd t ht) (nd u hu) (sub t ht) (sub u hu) hW (by rw[aa]) (by rw[aa,aa]) z
  refine P7 (hT t ht) (hT u hu) λx hx=>?_
  by_cases hw:x∈W
  ·exact List.map_inj_left.mp e x hw
  ·rw[hO t ht x hx hw,hO u hu x hx hw])) hL)
 have h2:=nodup_below (M:=fac W.length) h1 λx hx=>by
  obtain⟨t,ht,rfl⟩:=ay.mp hx
  have:=zl7 (nd t ht) (sub t ht) hW (by rw[aa])
  rwa [aa]at this
 rwa [aa]at h2
theorem fac_le:∀{k:Nat},k<=6->fac k<=720:=λ{k} h=>by
 have:k=0∨k=1∨k=2∨k=3∨k=4∨k=5∨k=6:=by lia
 rcases this with h|h|h|h|h|h|h <;> rw[h] <;> decide
end TM
namespace TM
inductive Ways (n:Nat) (ts:List (List Nat)) (mv:List Nat->List Nat->List Nat) (o:List Nat):List Nat->List Nat->List Nat->Prop
 | own:Ways n ts mv o o [] (List.range n)
 | step {k w b t:List Nat} {i:Nat}:Ways n ts mv o k w b->ts[i]?=some t->Ways n ts mv o (mv k t) (w++[i]) (beh b t)
def Rch (n:Nat)(ts:List (List Nat))(mv:List Nat->List Nat->List Nat)(o k:List Nat):Prop:=∃w b,Ways n ts mv o k w b
variable {n:Nat}{ts:List (List Nat)}{mv:List Nat->List Nat->List Nat}{o:List Nat}
theorem Rch.own:Rch n ts mv o o:=⟨_,_,.own⟩
theorem Rch.step (h:Rch n ts mv o k)(ht:t∈ts):Rch n ts mv o (mv k t):=by
 obtain⟨w,b,h⟩:=h
 obtain⟨i,hi⟩:=bZ ht
 exact⟨_,_,.step h hi⟩
theorem Rch.in {P:List Nat->Prop}(ho:P o)(hc:∀k t,P k->t∈ts->P (mv k t))(h:Rch n ts mv o k):P k:=by
 obtain⟨w,b,h⟩:=h
 induction h with
 | own=>exact ho
 | step _ hi ih=>exact hc _ _ ih (aq hi)
theorem Ways.isT (hT:∀t∈ts,IsT n t)(h:Ways n ts mv o k w b):IsT n b:=by
 induction h with
 | own=>exact IsT.range n
 | step _ hi ih=>exact ih.beh (hT _ (aq hi))
end TM
namespace TM
def nxC:List (List Nat)->Nat->Nat
 | [],x=>x
 | l::r,x=>if x∈l then(l[(l.idxOf x+1) % l.length]?).getD x else nxC r x
def xy1 (n:Nat)(ls:List (List Nat)):List Nat:=(List.range n).map (nxC ls)
section
variable {n:Nat}{cs ts:List (List Nat)}{o:List Nat}(hn:cs.flatten.Nodup)(hlt:∀x∈cs.flatten,x<n)(h1:∀c∈cs,xy1 n [c]∈ts)
include hn hlt h1
end
end TM
namespace TM
section
variable {n:Nat}{ts:List (List Nat)}{o:List Nat}(hT:∀t∈ts,IsT n t)
include hT
end
section
variable {n:Nat}{ts:List (List Nat)}{o W:List Nat}(hT:∀t∈ts,IsT n t)(hlt:∀x∈W,x<n)(hE:yo4 n W (λz=>z∈ts))
include hT hlt hE
end
end TM
namespace TM
theorem zp4 {P:List Nat->Prop}(h0:∃x,P x):∀m,m<=n->∃x,P x/\∀y,P y->(∀q,q<m->x.getD q 0=y.getD q 0)∨Lx n x y
 | 0,_=>h0.elim λx hx=>⟨x,hx,λy _=>.inl λq hq=>absurd hq (cO q)⟩
 | m+1,hm=>by
  obtain⟨x,hx,hl⟩:=zp4 h0 m (Nat.le_of_succ_le hm)
  classical
  have low:∀k,(∃y,P y/\(∀q,q<m->x.getD q 0=y.getD q 0)/\y.getD m 0<=k)->∃z,P z/\(∀q,q<m->x.getD q 0=z.getD q 0)/\∀y,P y->(∀q,q<m->x.getD q 0=y.getD q 0)->z.getD m 0<=y.getD m 0:=by
   intro k
   induction k with
   | zero =>
    rintro⟨z,hz,ez,e⟩
    exact⟨z,hz,ez,λy _ _=>by lia⟩
   | succ k ih =>
    rintro⟨z,hz,ez,e⟩
    by_cases c:∃y,P y/\(∀q,q<m->x.getD q 0=y.getD q 0)/\y.getD m 0<=k
    ·exact ih c
    ·refine⟨z,hz,ez,λy hy ey=>?_⟩
     refine cH λlt=>c ⟨y,hy,ey,?_⟩
     lia
  obtain⟨z,hz,ez,lz⟩:=low (x.getD m 0) ⟨x,hx,λ_ _=>rfl,ag _⟩
  refine⟨z,hz,λy hy=>?_⟩
  rcases hl y hy with a|a
  ·rcases bW (lz y hy a) with c|c
   ·refine .inr ⟨m,hm,λq hq=>?_,c⟩
    rw[←ez q hq,a q hq]
   ·refine .inl λq hq=>?_
    rcases bW (cT hq) with d|d
    ·rw[←ez q d,a q d]
    ·rw[d];exact c
  ·obtain⟨i,hi,e,lt⟩:=a
   by_cases c:i<m
   ·refine .inr ⟨i,hi,λq hq=>?_,?_⟩
    ·rw[←ez q (by lia),e q hq]
    ·rw[←ez i c];exact lt
   ·have ey:∀q,q<m->x.getD q 0=y.getD q 0:=λq hq=>e q (by lia)
    rcases bW (lz y hy ey) with d|d
    ·refine .inr ⟨m,hm,λq hq=>?_,d⟩
     rw[←ez q hq,ey q hq]
    ·refine .inl λq hq=>?_
     rcases bW (cT hq) with f|f
     ·rw[←ez q f,ey q f]
     ·rw[f];exact d
section
variable {n:Nat}{S:List Nat->Prop}(hS:∀s,S s->IsT n s)
include hS
theorem LeastOf.ex (tT:IsT n t):∃u,LeastOf n S t u:=by
 obtain⟨u,hu,l⟩:=zp4 (n:=n) (P:=Side n S t) ⟨t,Side.own tT⟩ n (ag n)
 refine⟨u,hu,λx hx=>?_⟩
 rcases l x hx with e|e
 ·exact .inl (P7 (hx.isT hS tT) (hu.isT hS tT) λi hi=>(e i hi).symm)
 ·exact .inr e
end
noncomputable def lsd (n:Nat) (S:List Nat->Prop) (t:List Nat):List Nat :=
 open Classical in if h:∃u,LeastOf n S t u then Classical.choose h else t
section
variable {n:Nat}{S:List Nat->Prop}(hS:∀s,S s->IsT n s)
include hS
theorem zp6 (tT:IsT n t):LeastOf n S t (lsd n S t):=by
 have h:=LeastOf.ex hS tT
 unfold lsd
 rw[dif_pos h]
 exact Classical.choose_spec h
theorem lsd_eq (tT:IsT n t)(h:LeastOf n S t u):lsd n S t=u :=
 LeastOf.uniq hS tT tT (Side.own tT) (zp6 hS tT) h
theorem lsd_isT (tT:IsT n t):IsT n (lsd n S t):=(zp6 hS tT).1.isT hS tT
theorem lsd_side (tT:IsT n t):Side n S t (lsd n S t):=(zp6 hS tT).1
theorem lsd_iff (tT:IsT n t)(tT':IsT n t'):lsd n S t=lsd n S t'↔Side n S t t':=by
 constructor
 ·intro e
  have a:=lsd_side hS tT
  rw[e]at a
  exact a.trans hS tT ((lsd_side hS tT').symm hS tT')
 ·intro s
  exact LeastOf.uniq hS tT tT' s (zp6 hS tT) (zp6 hS tT')
theorem Side.beh (tT:IsT n t)(mT:IsT n m)(h:Side n S t u):Side n S (TM.beh t m) (TM.beh u m):=by
 obtain⟨g,hg,rfl⟩:=h
 exact⟨g,hg,p0 (hg.isT hS) tT mT⟩
theorem zm2 (tT:IsT n t)(mT:IsT n m):lsd n S (TM.beh (lsd n S t) m)=lsd n S (TM.beh t m) :=
 (lsd_iff hS ((lsd_isT hS tT).beh mT) (tT.beh mT)).2 (Side.symm hS (tT.beh mT) (Side.beh hS tT mT (lsd_side hS tT)))
theorem xj4 (tT:IsT n t):lsd n S (lsd n S t)=lsd n S t :=
 (lsd_iff hS (lsd_isT hS tT) tT).2 ((lsd_side hS tT).symm hS tT)
end
end TM
namespace TM
theorem Grp.ahead {S P:List Nat->Prop}(hS:∀s,S s->IsT n s)(h1:P (List.range n))(hm:∀a s,IsT n a->P a->S s->P (TM.beh a s))(ha:Grp n S a):P a:=by
 have key:∀{a},Grp n S a->IsT n a/\P a:=λ{a} ha=>by
  induction ha with
  | one=>exact⟨IsT.range n,h1⟩
  | mul hg hs ih=>exact⟨ih.1.beh (hS _ hs),hm _ _ ih.1 ih.2 hs⟩
  | @inv a s hg hs ih =>
   have sT:=hS s hs
   refine⟨ih.1.beh sT.bk,?_⟩
   have all:∀m:Nat,P (TM.beh a (pwT s (m:Int))):=λm=>by
    induction m with
    | zero =>
     rw[show((0:Nat):Int)=0 from rfl,←sT.pwT_zero,beh_still ih.1]
     exact ih.2
    | succ m im =>
     have e:pwT s ((m+1:Nat):Int)=TM.beh (pwT s (m:Int)) s:=by
      conv=>rhs;rhs;rw[sT.pwT_one]
      rw[sT.pwT_beh]
      rfl
     rw[e,←p0 ih.1 (sT.pwT_isT _) sT]
     exact hm _ _ (ih.1.beh (sT.pwT_isT _)) im hs
   have pos:=sT.ord_pos
   have e:TM.bk n s=pwT s ((ord s-1:Nat):Int):=by
    conv=>lhs;rw[sT.pwT_one]
    rw[sT.pwT_bk,←sT.pwT_mod]
    congr 1
    rw[show(-1:Int)=((ord s-1:Nat):Int)+(ord s:Int)*(-1) by lia,Int.add_mul_emod_self_left]
    exact Int.emod_eq_of_lt (by lia) (by lia)
   rw[e]
   exact all _
 exact(key ha).2
def Sd (n:Nat)(ts ps:List (List Nat))(k:List Nat):Prop:=∃g,Grp n (λz=>z∈ts) g/\k=lsd n (λz=>z∈ps) g
section
variable {n:Nat}{us ts ps:List (List Nat)}
theorem rch_sides (hu:∀u∈us,IsT n u)(hp:∀p∈ps,IsT n p)(k:List Nat):Rch n us (λl t=>lsd n (λz=>z∈ps) (beh l t)) (lsd n (λz=>z∈ps) (List.range n)) k↔Sd n us ps k:=by
 constructor
 ·intro h
  refine Rch.in (P:=Sd n us ps) ⟨_,.one,rfl⟩ (λk t hk ht=>?_) h
  obtain⟨g,hg,rfl⟩:=hk
  exact⟨_,.mul hg ht,zm2 hp (hg.isT hu) (hu t ht)⟩
 ·rintro⟨g,hg,rfl⟩
  refine Grp.ahead (P:=λg=>Rch n us (λl t=>lsd n (λz=>z∈ps) (beh l t)) (lsd n (λz=>z∈ps) (List.range n)) (lsd n (λz=>z∈ps) g)) hu .own (λa s aT ha hs=>?_) hg
  have:=Rch.step ha hs
  rw[show lsd n (λz=>z∈ps) (TM.beh a s)=lsd n (λz=>z∈ps) (TM.beh (lsd n (λz=>z∈ps) a) s) from(zm2 hp aT (hu s hs)).symm]
  exact this
theorem Sd.alike (e:∀x,Grp n (λz=>z∈us) x↔Grp n (λz=>z∈ts) x)(k:List Nat):Sd n us ps k↔Sd n ts ps k :=
 ⟨λ⟨g,hg,h⟩=>⟨g,(e g).1 hg,h⟩,λ⟨g,hg,h⟩=>⟨g,(e g).2 hg,h⟩⟩
theorem Sd.isT (ht:∀t∈ts,IsT n t)(hp:∀p∈ps,IsT n p)(h:Sd n ts ps k):IsT n k:=by
 obtain⟨g,hg,rfl⟩:=h
 exact lsd_isT hp (hg.isT ht)
theorem sd_iff (ht:∀t∈ts,IsT n t)(hp:∀p∈ps,IsT n p)(hi:∀p∈ps,Grp n (λz=>z∈ts) p)(k:List Nat):Sd n ts ps k↔Grp n (λz=>z∈ts) k/\lsd n (λz=>z∈ps) k=k:=by
 constructor
 ·rintro⟨g,hg,rfl⟩
  have gT:=hg.isT ht
  refine⟨?_,xj4 hp gT⟩
  obtain⟨q,hq,e⟩:=lsd_side hp gT
  rw[e]
  exact Grp.beh ht (Grp.mono ht hi hq) hg
 ·rintro⟨hg,e⟩
  exact⟨k,hg,e.symm⟩
end
end TM
namespace TM
theorem nodup_le {α:Type}[DecidableEq α]{t l:List α}(h:t.Nodup)(s:∀x∈t,x∈l):t.length<=l.length:=by
 rcases fu l.length t.length with c|c
 ·exact eE (zq6 h s c).length_eq
 ·exact c
end TM
namespace TM
noncomputable def shd (n:Nat) (ps L:List (List Nat)) (t:List Nat):List Nat:=L.map λs=>L.idxOf (lsd n (λz=>z∈ps) (beh s t))
section
variable {n:Nat}{ts ps L:List (List Nat)}(ht:∀t∈ts,IsT n t)(hp:∀p∈ps,IsT n p)(hL:∀k,k∈L↔Sd n ts ps k)
include ht hp
theorem xf5 (hk:Sd n ts ps k)(hg:Grp n (λz=>z∈ts) t):Sd n ts ps (lsd n (λz=>z∈ps) (beh k t)):=by
 obtain⟨g,h,rfl⟩:=hk
 exact⟨beh g t,Grp.beh ht h hg,zm2 hp (h.isT ht) (hg.isT ht)⟩
include hL
theorem shd_in (hs:s∈L)(hg:Grp n (λz=>z∈ts) t):lsd n (λz=>z∈ps) (beh s t)∈L:=(hL _).mpr (xf5 ht hp ((hL s).mp hs) hg)
theorem shd_beh (hg:Grp n (λz=>z∈ts) t)(hu:Grp n (λz=>z∈ts) u):beh (shd n ps L t) (shd n ps L u)=shd n ps L (beh t u):=by
 unfold beh shd
 rw[bx]
 refine bQ λs hs=>?_
 have hm:=shd_in ht hp hL hs hg
 have hi:=bL hm
 have sT:=Sd.isT ht hp ((hL s).mp hs)
 show(L.map λs=>L.idxOf (lsd n (λz=>z∈ps) (beh s u))).getD (L.idxOf (lsd n (λz=>z∈ps) (beh s t))) 0=L.idxOf (lsd n (λz=>z∈ps) (beh s (beh t u)))
 rw[au,af,ae hi,List.getElem_idxOf hi]
 show L.idxOf (lsd n (λz=>z∈ps) (beh (lsd n (λz=>z∈ps) (beh s t)) u))=_
 rw[zm2 hp (sT.beh (hg.isT ht)) (hu.isT ht),p0 sT (hg.isT ht) (hu.isT ht)]
end
theorem yu1:IsT 5 [1,2,3,4,0]:=zo8 rfl (by decide) (by decide)
theorem yu2:IsT 2 [1,0]:=zo8 rfl (by decide) (by decide)
theorem whole5 {W g e:List Nat}(hW:W.Nodup)(hlt:∀x∈W,x<n)(h5:W.length=5)(hg:Sprd n W [1,2,3,4,0] 5 g)(he:Sprd n (W.take 2) [1,0] 2 e) :
  (IsT n g/\Only n W g)/\(IsT n e/\Only n W e)/\∀S:List Nat->Prop,S g->S e->(∀s,S s->IsT n s)->(∀s,S s->Only n W s)->∀x,IsT n x->Only n W x->Grp n S x:=by
 have h2:(W.take 2).length=2:=by rw[bo];lia
 have gg:=Sprd.done hW hlt (by rw[h5];exact yu1) (by rw[h5];exact hg)
 have hW2:(W.take 2).Nodup:=hW.sublist (cz _ _)
 have ee:=Sprd.done hW2 (λx hx=>hlt x (bC hx)) (by rw[h2];exact yu2) (by rw[h2];exact he)
 have eO:Only n W e:=ee.2.more λx hx=>bC hx
 have wat:∀k,k<5->W[k]?=some (W.getD k 0):=λk hk=>by rw[au,ae (by lia)];rfl
 have w2:∀k,k<2->(W.take 2)[k]?=some (W.getD k 0):=λk hk=>by rw[cq hk];exact wat k (by lia)
 have g2:∀k,k<2->(W.take 2).getD k 0=W.getD k 0:=λk hk=>getD_of (w2 k hk)
 refine⟨gg,⟨ee.1,eO⟩,λS Sg Se hS hO x xT xO=>?_⟩
 have ex:zm9 n (W.getD 0 0) (W.getD 1 0) e:=by
  refine⟨ee.1,?_,?_,λx hx h0 h1=>?_⟩
  ·have:=he.at' 0 _ (by decide) (w2 0 (by decide))
   rw[show([1,0]:List Nat).getD 0 0=1 from rfl,g2 1 (by decide)]at this
   exact getD_of this
  ·have:=he.at' 1 _ (by decide) (w2 1 (by decide))
   rw[show([1,0]:List Nat).getD 1 0=0 from rfl,g2 0 (by decide)]at this
   exact getD_of this
  ·refine getD_of (he.out x hx λz=>?_)
   rw[bO (by lia)]at z
   obtain⟨j,hj,ej⟩:=bg.mp z
   have ej:(W.take 2)[j]?=some x:=by rw[ae hj,ej]
   rw[w2 j (by lia)]at ej
   have:j=0∨j=1:=by lia
   rcases this with z|z <;> subst z
   ·exact h0 (Option.some.inj ej).symm
   ·exact h1 (Option.some.inj ej).symm
 refine(xm5 hS hlt hO (yj9 hS hW hlt (Grp.of hS Sg) (λk hk=>?_) ex (Grp.of hS Se)) x).mpr ⟨xT,xO⟩
 have:=hg.at' k _ (by lia) (wat k (by lia))
 rw[show([1,2,3,4,0]:List Nat).getD k 0=k+1 by
  have:k=0∨k=1∨k=2∨k=3:=by lia
  rcases this with z|z|z|z <;> subst z <;> rfl]at this
 exact getD_of this
end TM
namespace Tb
open PySem L2
def tI (t:List Nat):List V:=t.map λ(x:Nat)=>V.int x
theorem u6 (t:List Nat):(tI t).length=t.length:=aa _
theorem yc0 (t:List Nat)(i:Nat):(tI t)[i]?=(t[i]?).map λ(x:Nat)=>V.int x:=af ..
theorem F9 {i:Nat}(h:(tI t)[i]?=some x):∃p,t[i]?=some p/\x=V.int p:=by
 rw[yc0]at h
 cases q:t[i]? with
 | none=>rw[q]at h;cases h
 | some p=>rw[q]at h;exact⟨p,rfl,(Option.some.inj h).symm⟩
theorem ys2 {i p:Nat}(h:t[i]?=some p):(tI t)[i]?=some (V.int p):=by rw[yc0,h];rfl
theorem zf5 {i p:Nat}(h:t[i]?=some p):atI (tI t) ((i:Nat):Int)=some (V.int p):=l9 (ys2 h)
theorem A4 (s t:List Nat):tI (s++t)=tI s++tI t:=aH
theorem yi7:∀(t:List Nat) (i:Nat),(tI t).eraseIdx i=tI (t.eraseIdx i)
 | [],_=>rfl
 | _::_,0=>rfl
 | a::r,i+1=>by
  have ih:=yi7 r i
  show V.int a::(tI r).eraseIdx i=V.int a::tI (r.eraseIdx i)
  rw[ih]
theorem zj0:∀(t:List Nat) (i x:Nat),(tI t).set i (V.int x)=tI (t.set i x)
 | [],_,_=>rfl
 | _::_,0,_=>rfl
 | a::r,i+1,x=>by
  have ih:=zj0 r i x
  show V.int a::(tI r).set i (V.int x)=V.int a::tI (r.set i x)
  rw[ih]
theorem N5 (n:Nat):U8 0 n=tI (List.range n):=by
 unfold U8 tI
 apply bQ
 intro x _
 rw[Int.zero_add]
theorem small (h:n<=1000):n<=ge:=bA (zi6 h)
theorem B8 (h:i<n):ixN n ((i:Nat):Int)=some i:=by
 unfold ixN
 rw[if_pos (dY i),if_pos (by lia)]
 rfl
theorem xm0 (h:i<n):seqIndex? ((i:Nat):Int) n=some i:=(zy4 (B8 h)).1
theorem z8 (h:H p=none)(o:HO):y6 H (upd H p o):=λb u q=>by rw[z6 (y0 q h)];exact q
theorem p4 (s:y6 H H')(h:H p=none)(o:HO):y6 H (upd H' p o):=λb u q=>by rw[z6 (y0 q h)];exact s b u q
def c8 (T U:String):Option Bool:=if (Value.type T==Value.type U)=true then some true else if W.kitMeta U=true then(PySem.fastBuiltinMro T).map (·.contains (Value.type U)) else none
theorem K8 (h:c8 T U=some b):W.kitOne K (.type T) (.type U)=some b:=h
theorem yk9:c8 "int" "int"=some true:=by decide +kernel
theorem yf0:c8 "int" "bool"=some false:=by decide +kernel
theorem zd1:c8 "list" "list"=some true:=by decide +kernel
theorem X6 :decide (V.int i=V.int j)=decide (i=j):=decide_eq_decide.mpr ⟨λz=>by injection z,λz=>by rw[z]⟩
theorem zp3:c8 "tuple" "tuple"=some true:=by decide +kernel
structure Blt (mg:Str->Option Value):Prop where
 len:mg "len"=none
 range:mg "range"=none
 list:mg "list"=none
 tuple:mg "tuple"=none
 isinstance:mg "isinstance"=none
 int:mg "int"=none
 bool:mg "bool"=none
 str:mg "str"=none
 enumerate:mg "enumerate"=none
 sorted:mg "sorted"=none
 sum:mg "sum"=none
 all:mg "all"=none
 set:mg "set"=none
 reversed:mg "reversed"=none
 divmod:mg "divmod"=none
 max:mg "max"=none
 min:mg "min"=none
theorem Y1:gz "len"=some (.builtin "len"):=by decide +kernel
theorem O1:gz "range"=some (.type "range"):=by decide +kernel
theorem P5:gz "list"=some (.type "list"):=by decide +kernel
theorem d0:gz "tuple"=some (.type "tuple"):=by decide +kernel
theorem l8:gz "isinstance"=some (.builtin "isinstance"):=by decide +kernel
theorem yx4:gz "int"=some (.type "int"):=by decide +kernel
theorem yo7:gz "bool"=some (.type "bool"):=by decide +kernel
theorem zg2:gz "sorted"=some (.builtin "sorted"):=by decide +kernel
theorem zx7:gz "all"=some (.builtin "all"):=by decide +kernel
theorem ys6:gz "divmod"=some (.builtin "divmod"):=by decide +kernel
theorem xp0:gz "min"=some (.builtin "min"):=by decide +kernel
def zk4 (mg:Str->Option Value)(x:Str)(v:V):Prop:=∃u,mg x=some u/\p9 v u
theorem ze2 {X:Cx}(g:zk4 X.mg x v)(hg:Gl X x)(hd:(x==("__debug__":Str))=false:=by decide):PE X (.Name x pos) (tC v):=by
 obtain⟨u,hm,r⟩:=g
 exact ya1 hg hm r hd
def o9 (P:gf)(w:gq)(K:W.Frag)(mg:Str->Option Value)(base:Heap)(k:Nat)(x:Str)(ps:List Str)(sp:Sp):Prop :=
 ∃f fd,u8 P w K mg base CX0 k f fd ps sp/\W.keepIn K (.ref f)=true/\mg x=some (.ref f)/\W3 K fd ps []
structure Def (K:W.Frag) (mg:Str->Option Value) (x:Str) (st:Stmt) (ps:List Str) (f:Addr) (fd:gB):Prop where
 F:Fun K x x st f fd
 b:W3 K fd ps []
 m:mg x=some (.ref f)
theorem Def.known {mg:Str->Option Value}(D:Def K mg x st ps f fd)(G:u8 P w K mg base CX0 k f fd ps sp):o9 P w K mg base k x ps sp :=
 ⟨f,fd,G,D.F.kp,D.m,D.b⟩
section
variable {X:Cx}{x:Str}{p pos:Pos}{e:Expr}{es:List Expr}{t:TA}{ps:List Str}{sp:Sp}{k j:Nat}
theorem p6 (kn:o9 X.prog X.w X.K X.mg X.base k x ps sp)(hr:Z8 j X.A)(hg:Gl X x)(ha:PA X (e::es) t)(hj:k<=j:=by decide)(hdb:(x==("__debug__":Str))=false:=by decide)
  (he:gl (e::es) X.env=(false,eval e X.env)::gl es X.env:=by rfl) (hpl:(backTo pos (gl es X.env)).any (·.1)=false:=by rfl):PE X (.Call (.Name x p) (e::es) [] pos) (zw9 sp [] E0 t):=by
 obtain⟨f,fd,G,hk,hm,hb⟩:=kn
 exact zm3 G (hr.mono hj) hg hm hk hb .nil zw3 ha hdb he hpl
end
theorem xj5 (z:Int):∃n:Nat,1+z % 60=(n:Int)/\1<=n/\n<=60:=by
 have h1:=cP z (show(60:Int)≠0 by decide)
 have h2:=dI z (show(0:Int)<60 by decide)
 exact⟨(1+z % 60).toNat,by lia,by lia,by lia⟩
theorem ys1 (t:List Nat):tI t=(t.map λ(x:Nat)=>(x:Int)).map V.int:=by
 unfold tI
 rw[bx]
 rfl
theorem xi3 {ns:List Int}{i:Nat}(hi:(ns.map V.int)[i]?=some y):∃z,z∈ns/\y=V.int z:=by
 rw[af]at hi
 cases e:ns[i]? with
 | none=>rw[e]at hi;cases hi
 | some z=>rw[e]at hi;exact⟨z,aq e,(Option.some.inj hi).symm⟩
def yr5 (K:W.Frag):Sp:=λvs H Q _=>∃(a:Addr) (ns:List Int),vs=[.ref a]/\SqL K H a (ns.map V.int)/\ns.length<=63/\(∀z∈ns,Builtin.Int.intBits z<=2 ^ 20)/\∀H',Q (.bl true) H'
theorem walk {l:W.OpenLaw}{XP:(Str->Option Value)->Heap->Prop}{YP:gq->Heap->Prop}{d:DefRec}{K:Params->W.Frag}(hn:l.most=some 63)(hdf:d.params.defaults=[])(hr:Z8 k callerA)
  (hY:∀(w:gq) (h:Heap),YP w h->(K w.params).In h)
  (F:∀(w:gq) (mg:Str->Option Value) (fa:Addr) (h:Heap),(K w.params).In h->h.Ns mainGlobals mg->mg d.name=some (.ref fa) ->
   ∃fd:gB,(∀(s:fZ) (u:Value),BindsTo s fd ⟨[u],[]⟩ [(x,u)])/\∀base:Heap,(K w.params).In base->base.Ns mainGlobals mg->u8 l.prog w (K w.params) mg base CX0 k fa fd [x] (yr5 (K w.params))) :
  W.WalkO q loose XP YP l.row.toRowW d [] (λf vs=>PySem.call f vs) :=
 L2.walk_ofB (n:=63) (k:=k) (x:=x) (CX:=CX0) (sp:=yr5) hn (by decide) hdf hr hY F (λ_ _ a ns hl hb _ hS=>⟨a,ns,rfl,hS,hl,hb,λ_=>rfl⟩) λ_ _ _ _ z=>z
def lnV:TM.Ln->List V
 | .still=>[.str "still"]
 | .told k=>[.str "told",.int k]
 | .behind i j=>[.str "behind",.int i,.int j]
 | .back i=>[.str "back",.int i]
def zn0 (H:Hp)(as:List Addr)(ls:List TM.Ln):Prop:=Paired (λa l=>H a=some (.tup (lnV l))) as ls
def i5 (H:Hp)(as:List Addr)(ts:List (List Nat)):Prop:=Paired (λa t=>H a=some (.tup (tI t))) as ts
theorem zn0.same (h:zn0 H as ls)(s:y6 H H'):zn0 H' as ls:=Paired.imp' (λ_ _ e=>s _ _ e) h
theorem i5.same (h:i5 H as ls)(s:y6 H H'):i5 H' as ls:=Paired.imp' (λ_ _ e=>s _ _ e) h
theorem n6 {α β:Type}{F:α->β->Prop}:∀{as:List α} {bs:List β},Paired F as bs->∀(i:Nat) (b:β),bs[i]?=some b->∃a,as[i]?=some a/\F a b
 | _,_,.nil,i,b,h=>by cases i <;> cases h
 | _,_,.cons f _,0,b,h=>by
  cases h
  exact⟨_,rfl,f⟩
 | _,_,.cons _ r,i+1,b,h=>by
  obtain⟨a,ha,f⟩:=n6 r i b (by simpa using h)
  exact⟨a,by simpa using ha,f⟩
theorem u0 {α β:Type}{F:α->β->Prop}:∀{as:List α} {bs:List β},Paired F as bs->∀(i:Nat) (a:α),as[i]?=some a->∃b,bs[i]?=some b/\F a b
 | _,_,.nil,i,a,h=>by cases i <;> cases h
 | _,_,.cons f _,0,a,h=>by
  cases h
  exact⟨_,rfl,f⟩
 | _,_,.cons _ r,i+1,a,h=>by
  obtain⟨b,hb,f⟩:=u0 r i a (by simpa using h)
  exact⟨b,by simpa using hb,f⟩
theorem Y8 {as:List Addr}{i:Nat}(h:(as.map V.ref)[i]?=some y):∃b,as[i]?=some b/\y=V.ref b:=by
 rw[af]at h
 cases e:as[i]? with
 | none=>rw[e]at h;cases h
 | some b=>rw[e]at h;exact⟨b,rfl,(Option.some.inj h).symm⟩
end Tb
namespace Tb
open PySem L2
def top (i:Nat):Stmt:=PySem.Challenge.pw_turnbase_k56_shadow.main.body.getD i (.Pass ⟨0,0,0,0⟩)
abbrev zb7:Stmt:=top 11
abbrev J8:Stmt:=top 12
abbrev P1:Stmt:=top 13
abbrev yb0:Stmt:=top 14
abbrev zr5:Stmt:=top 15
abbrev ym9:Stmt:=top 16
abbrev J9:Stmt:=top 28
abbrev N2:Stmt:=top 18
abbrev zh9:Stmt:=top 34
abbrev B0:Stmt:=top 35
abbrev P2:Stmt:=top 36
abbrev I0:Stmt:=top 37
abbrev M1:Stmt:=top 38
abbrev C8:Stmt:=top 41
abbrev J7:Stmt:=top 42
abbrev J6:Stmt:=top 43
abbrev J5:Stmt:=top 44
abbrev L0:Stmt:=top 45
abbrev zb6:Stmt:=top 46
abbrev ze5:Stmt:=top 39
abbrev T5:Stmt:=top 47
abbrev N1:Stmt:=top 48
abbrev C9:Stmt:=top 49
abbrev W9:Stmt:=top 50
abbrev zj9:Stmt:=top 51
def d9 (i j:Nat):Stmt:=match top i with | .ClassDef _ _ _ b _ _ _ _ _ _ _=>b.getD j (.Pass ⟨0,0,0,0⟩)|s=>s
abbrev Q9:Stmt:=d9 23 0
abbrev zb5:Stmt:=d9 23 1
abbrev T2:Stmt:=d9 23 2
abbrev V7:Stmt:=d9 23 3
abbrev P0:Stmt:=d9 24 0
abbrev R8:Stmt:=d9 24 1
abbrev W2:Stmt:=d9 24 2
abbrev R7:Stmt:=d9 24 3
abbrev R0:Stmt:=d9 25 0
abbrev T4:Stmt:=d9 25 4
abbrev M6:Stmt:=d9 25 5
abbrev Z5:Stmt:=d9 25 3
abbrev O9:Stmt:=d9 25 2
abbrev J3:Stmt:=d9 25 1
abbrev R3:Stmt:=d9 29 0
abbrev J4:Stmt:=d9 29 1
abbrev C6:Stmt:=d9 29 8
abbrev Y3:Stmt:=d9 25 6
abbrev R1:Stmt:=d9 25 10
abbrev M7:Stmt:=d9 29 10
abbrev T3:Stmt:=d9 25 9
abbrev W8:Stmt:=d9 29 2
abbrev h9:Stmt:=d9 31 0
abbrev C7:Stmt:=d9 31 1
abbrev R4:Stmt:=d9 31 2
abbrev R5:Stmt:=d9 31 3
abbrev M8:Stmt:=d9 31 4
abbrev O8:Stmt:=d9 19 0
abbrev R6:Stmt:=d9 20 0
abbrev N0:Stmt:=d9 20 1
abbrev M9:Stmt:=d9 20 2
section
variable {P:gf}{w:gq}{K:W.Frag}{mg:Str->Option Value}{base:Heap}{f:Addr}{fd:gB}
def xp8:PyData->Bool
 | .int _=>true
 | .bool _=>true
 | _=>false
def xj1:PyData->Bool
 | .bool _=>true
 | _=>false
def xp9:PyData->Bool
 | .tuple _=>true
 | _=>false
def isW:PyData->Bool
 | .int _=>true
 | _=>false
theorem xq4:∀d:PyData,c8 (tyD d) "int"=some (xp8 d)
 | .none=>(by decide +kernel:c8 "NoneType" "int"=some false)
 | .bool _=>(by decide +kernel:c8 "bool" "int"=some true)
 | .int _=>(by decide +kernel:c8 "int" "int"=some true)
 | .str _=>(by decide +kernel:c8 "str" "int"=some false)
 | .list _=>(by decide +kernel:c8 "list" "int"=some false)
 | .tuple _=>(by decide +kernel:c8 "tuple" "int"=some false)
 | .dict _=>(by decide +kernel:c8 "dict" "int"=some false)
theorem yp7:∀d:PyData,c8 (tyD d) "bool"=some (xj1 d)
 | .none=>(by decide +kernel:c8 "NoneType" "bool"=some false)
 | .bool _=>(by decide +kernel:c8 "bool" "bool"=some true)
 | .int _=>(by decide +kernel:c8 "int" "bool"=some false)
 | .str _=>(by decide +kernel:c8 "str" "bool"=some false)
 | .list _=>(by decide +kernel:c8 "list" "bool"=some false)
 | .tuple _=>(by decide +kernel:c8 "tuple" "bool"=some false)
 | .dict _=>(by decide +kernel:c8 "dict" "bool"=some false)
theorem xq5:∀d:PyData,c8 (tyD d) "tuple"=some (xp9 d)
 | .none=>(by decide +kernel:c8 "NoneType" "tuple"=some false)
 | .bool _=>(by decide +kernel:c8 "bool" "tuple"=some false)
 | .int _=>(by decide +kernel:c8 "int" "tuple"=some false)
 | .str _=>(by decide +kernel:c8 "str" "tuple"=some false)
 | .list _=>(by decide +kernel:c8 "list" "tuple"=some false)
 | .tuple _=>(by decide +kernel:c8 "tuple" "tuple"=some true)
 | .dict _=>(by decide +kernel:c8 "dict" "tuple"=some false)
theorem scq {N P:List Str}{sc:Scope}(a:sc.kind=.function:=by rfl)(b:sc.isCoroutine=false:=by rfl)(c:sc.isGenerator=false:=by rfl)(d:N.Nodup:=by decide +kernel)(e:N.take P.length=P:=by rfl)(f:∀x∈P,sc.names.lookup x=some .local∨sc.names.lookup x=some .cell:=by decide +kernel)(g:∀y∈sc.names,y.2≠.free:=by decide +kernel):x9 N P sc:=⟨a,b,c,d,e,f,g⟩
theorem yh2:x9 ["thing"] ["thing"] (z9 zb7):=scq
def zs6:Sp:=λvs H Q _=>∃(x:V) (d:PyData),vs=[x]/\Dt H x d/\Q (.bl (isW d)) H
theorem yf9 (D:Def K mg "is_whole" zb7 ["thing"] f fd)(B:Blt mg):u8 P w K mg base CX0 1 f fd ["thing"] zs6:=by
 refine D.F.ok yh2 (λvs H Q E h=>?_) (λcdv A outer s H vs Q E hr h=>?_)
 ·obtain⟨x,d,rfl,_⟩:=h
  rfl
 obtain⟨x,d,rfl,hd,q⟩:=h
 refine⟨_,z7 (v1 (zq3 (v9 Z7 rfl B.isinstance l8 (z0 (pv 0) (z0 (N8 (v:=.ty "int") rfl B.int yx4 rfl) z5)))
  (zq5 (xd7 (v9 Z7 rfl B.isinstance l8 (z0 (pv 0) (z0 (N8 (v:=.ty "bool") rfl B.bool yo7 rfl) z5))))))),?_⟩
 refine⟨_,rfl,_,_,_,_,rfl,hd.ty,K8 (xq4 d),_,rfl,?_⟩
 cases d with
 | int i=>exact Y2 ⟨_,rfl,_,_,_,_,rfl,hd.ty,K8 (yp7 _),_,rfl,q⟩
 | bool b=>exact Y2 ⟨_,rfl,_,_,_,_,rfl,hd.ty,K8 (yp7 _),_,rfl,q⟩
 | none=>exact g7 q
 | str _=>exact g7 q
 | list _=>exact g7 q
 | tuple _=>exact g7 q
 | dict _=>exact g7 q
def za2:List PyData->List Int
 | .int i::r=>i::za2 r
 | _::r=>za2 r
 | []=>[]
def yr1 (l:List Int):List Int:=l.mergeSort λa b=>decide (a<=b)
theorem yh5 {l m:List Int}(p:m.Perm l)(h:m.Pairwise (·<=·)):m=yr1 l:=by
 refine List.Perm.eq_of_pairwise (λa b _ _ h1 h2=>eS h1 h2) h ?_ (p.trans (List.mergeSort_perm l _).symm)
 exact(List.pairwise_mergeSort (le:=λa b:Int=>decide (a<=b)) (λa b c h1 h2=>decide_eq_true (cv (of_decide_eq_true h1) (of_decide_eq_true h2))) (λa b=>by
  show(decide (a<=b) || decide (b<=a))=true
  rw[Bool.or_eq_true,decide_eq_true_eq,decide_eq_true_eq]
  exact Int.le_total a b) l).imp λh=>of_decide_eq_true h
def yg8 (n:Nat):List Int:=(List.range n).map λ(i:Nat)=>(i:Int)
theorem xs2 (n:Nat):tI (List.range n)=(yg8 n).map V.int:=ys1 _
theorem D5:∀(ms rs:List Int),PyData.eqvAll (ms.map PyData.int) (rs.map PyData.int)=decide (ms=rs)
 | [],[]=>by simp[PyData.eqvAll]
 | [],_::_=>by simp[PyData.eqvAll]
 | _::_,[]=>by simp[PyData.eqvAll]
 | a::as,b::bs=>by
  rw[aQ,aQ,PyData.eqvAll,D5 as bs]
  by_cases h:a=b
  ·subst h;simp[PyData.eqv]
  ·simp[PyData.eqv,h]
theorem yt4 (ms rs:List Int):PyData.eqv (.list (ms.map PyData.int)) (.list (rs.map PyData.int))=decide (ms=rs):=by rw[PyData.eqv,D5]
theorem yf1:∀ns:List Int,PyData.canLayAll0 (ns.map PyData.int)=true/\PyData.depthAll (ns.map PyData.int)<=1
 | []=>by simp[PyData.canLayAll0,PyData.depthAll]
 | n::r=>by
  obtain⟨h1,h2⟩:=yf1 r
  refine⟨by simp[PyData.canLayAll0,PyData.canLay0,h1],?_⟩
  simp only[aQ,PyData.depthAll,PyData.depth]
  lia
theorem zk0 (ns:List Int):PySem.SeqAt.shaped (.list (ns.map PyData.int))=true:=by
 obtain⟨h1,h2⟩:=yf1 ns
 unfold PySem.SeqAt.shaped
 rw[cf]
 refine⟨by simp only[PyData.canLay0];exact h1,decide_eq_true ?_⟩
 simp only[PyData.depth]
 lia
def c5:PyData->Bool
 | .tuple ds=>(decide (1<=ds.length)&&decide (ds.length<=60))&&(ds.all isW&&decide (yr1 (za2 ds)=yg8 ds.length))
 | _=>false
theorem yp6 :∀{xs:List V} {ds:List PyData},Dts H xs ds->ds.all isW=true->xs=(za2 ds).map V.int/\(za2 ds).length=ds.length
 | _,_,.nil,_=>⟨rfl,rfl⟩
 | _,_,.cons h r,e=>by
  rw[fQ,cf]at e
  obtain⟨h1,h2⟩:=yp6 r e.2
  cases h with
  | int i=>exact⟨by rw[h1];rfl,by show(i::za2 _).length=_;rw[aC,h2];rfl⟩
  | non=>cases e.1
  | bl _=>cases e.1
  | str _=>cases e.1
  | lst _ _=>cases e.1
  | tup _ _=>cases e.1
  | dct _=>cases e.1
def ys0:Sp:=λvs H Q _=>∃(x:V) (d:PyData),vs=[x]/\Dt H x d/\(∀ds,d=.tuple ds->ds.length<=100)/\∀H':Hp,y6 H H'->Q (.bl (c5 d)) H'
theorem zu9:x9 ["thing"] ["thing"] (z9 J8):=scq
theorem zu3 (D:Def K mg "is_turning" J8 ["thing"] f fd)(B:Blt mg)(KW:o9 P w K mg base 1 "is_whole" ["thing"] zs6)(GM:zk4 mg "MOST_PLACES" (.int 60)):u8 P w K mg base CX0 2 f fd ["thing"] ys0:=by
 refine D.F.ok zu9 (λvs H Q E h=>?_) (λcdv A outer s H vs Q E hr h=>?_)
 ·obtain⟨x,d,rfl,_⟩:=h
  rfl
 obtain⟨x,d,rfl,hd,hlen,q⟩:=h
 refine⟨_,y4 (i7 (PW.pt (yg6 (U2 (W7 (v9 Z7 rfl B.isinstance l8 (z0 (pv 0) (z0 (N8 (v:=.ty "tuple") rfl B.tuple d0 rfl) z5))))) (zr2 (U2 (yg4 yq0 yq0 w8 (v9 q9 rfl B.len Y1 (z0 (pv 0) z5)) (ze2 GM rfl)))))) (z7 (v1 W4)) r6)
  (y4 (i7 (U2 (W7 (v9 (B6 rfl) rfl B.all zx7 (z0 (Z6 [] ["place"] rfl (ya2 (pv 0)) (λ_ _ _ _=>p6 KW hr rfl (z0 (pv 0) z5))) z5)))) (z7 (v1 W4)) r6)
  (z7 (v1 (B9 (ym0 hr.units) (v9 zx9 rfl B.sorted zg2 (z0 (pv 0) z5)) (u5 (V2 rfl) rfl B.list P5 (z0 (u5 S9 rfl B.range O1 (z0 (v9 q9 rfl B.len Y1 (z0 (pv 0) z5)) z5)) z5)) (l5 _))))),?_⟩
 refine⟨_,rfl,_,_,_,_,rfl,hd.ty,K8 (xq5 d),_,rfl,?_⟩
 cases hd with
 | non=>exact Y2 (q H (y6.refl _))
 | bl b=>exact Y2 (q H (y6.refl _))
 | int i=>exact Y2 (q H (y6.refl _))
 | str t=>exact Y2 (q H (y6.refl _))
 | lst _ _=>exact Y2 (q H (y6.refl _))
 | dct _=>exact Y2 (q H (y6.refl _))
 | @tup b xs ds hb hs =>
 have hxl:=hs.length
 have hl100:=hlen ds rfl
 refine g7 ⟨_,rfl,b,_,rfl,.inr (SqT.of hb),_,_,rfl,rfl,_,rfl,?_⟩
 by_cases h1:1<=ds.length
 case neg =>
  rw[decide_eq_false (show ¬(1:Int)<=((xs.length:Nat):Int) by lia)]
  refine g7 ⟨_,rfl,Y2 ?_⟩
  have e:c5 (.tuple ds)=false:=by simp only[c5];rw[decide_eq_false h1];rfl
  exact e ▸ q H (y6.refl _)
 rw[decide_eq_true (show(1:Int)<=((xs.length:Nat):Int) by lia)]
 refine Y2 ⟨_,_,rfl,rfl,_,rfl,?_⟩
 by_cases h2:ds.length<=60
 case neg =>
  rw[decide_eq_false (show ¬((xs.length:Nat):Int)<=(60:Int) by lia)]
  refine Y2 ?_
  have e:c5 (.tuple ds)=false:=by simp only[c5];rw[decide_eq_false h2,eX];rfl
  exact e ▸ q H (y6.refl _)
 rw[decide_eq_true (show((xs.length:Nat):Int)<=(60:Int) by lia)]
 refine g7 ?_
 refine⟨_,rfl,b,rfl,⟨_,SqT.of hb⟩,zc5 (SqT.of hb) ((ds.map isW).map V.bl) (by rw[aa,aa,hxl]) (by rw[hxl];exact small (by lia)) ?_ ?_⟩
 ·intro j H' x hx s' _ _ _ _
  obtain⟨dj,hdj,hxj⟩:=hs.get hx
  refine⟨_,rfl,_,dj,rfl,hxj.same s',y6.refl _,?_⟩
  rw[af,af,hdj]
  rfl
 intro nm H4 _ s4 hnm
 refine⟨nm,_,rfl,SqL.of hnm,_,rfl,?_⟩
 have eall:(ds.map isW).all id=ds.all isW:=by rw[fR];rfl
 rw[eall]
 cases hall:ds.all isW with
 | false =>
  have e:c5 (.tuple ds)=false:=by simp only[c5];rw[hall,eW,eX]
  exact Y2 (e ▸ q H4 s4)
 | true =>
  refine g7 ?_
  obtain⟨ex,el⟩:=yp6 hs hall
  have hb4:=s4 _ _ hb
  refine⟨_,rfl,b,za2 ds,rfl,SqT.of (by rw[←ex];exact hb4),by lia,λl ms hl hp hw=>?_⟩
  have s5:=z8 hl (.lst (ms.map V.int))
  have e5:(upd H4 l (.lst (ms.map V.int))) l=some (.lst (ms.map V.int)):=z4
  generalize upd H4 l (.lst (ms.map V.int))=H5 at s5 e5 ⊢
  refine⟨_,rfl,b,_,rfl,.inr (SqT.of (s5 _ _ hb4)),_,rfl,λp hp'=>⟨p,0,_,rfl,z4,⟨by lia,by lia,by lia,by lia,by lia⟩,λr hr'=>?_⟩⟩
  have s6:y6 H5 (upd (upd H5 p (.rng 0 ((xs.length:Nat):Int))) r (.lst (U8 0 (((xs.length:Nat):Int)-0).toNat))):=(z8 hp' _).trans (z8 hr' _)
  have e6:(upd (upd H5 p (.rng 0 ((xs.length:Nat):Int))) r (.lst (U8 0 (((xs.length:Nat):Int)-0).toNat))) r=some (.lst ((yg8 ds.length).map V.int)):=by
   rw[z4,show(((xs.length:Nat):Int)-0).toNat=ds.length by lia,N5,xs2]
  generalize upd (upd H5 p (.rng 0 ((xs.length:Nat):Int))) r (.lst (U8 0 (((xs.length:Nat):Int)-0).toNat))=H6 at s6 e6 ⊢
  refine⟨.list (ms.map PyData.int),.list ((yg8 ds.length).map PyData.int),.lst (SqL.of (s6 _ _ e5)) (D1.ints _),.lst (SqL.of e6) (D1.ints _),zk0 _,zk0 _,?_⟩
  have e:c5 (.tuple ds)=PyData.eqv (.list (ms.map PyData.int)) (.list ((yg8 ds.length).map PyData.int)):=by
   simp only[c5]
   rw[yt4,hall,decide_eq_true h1,decide_eq_true h2,yh5 hp hw]
   rfl
  rw[←e]
  exact q H6 (s4.trans (s5.trans s6))
def N4:Sp:=λvs H Q _=>∃(x:V) (d:PyData) (n:Nat),vs=[x,.int n]/\Dt H x d/\(∀ds,d=.tuple ds->ds.length<=100)/\∀H':Hp,y6 H H'->Q (.bl (c5 d&&match d with | .tuple ds=>decide (ds.length=n)|_=>false)) H'
theorem zi4:x9 ["thing","many"] ["thing","many"] (z9 P1):=scq
theorem yw3 (h:c5 d=true):∃ds,d=.tuple ds:=by
 cases d with
 | tuple ds=>exact⟨ds,rfl⟩
 | _=>cases h
theorem zh5 (D:Def K mg "is_turning_of" P1 ["thing","many"] f fd)(B:Blt mg)(KT:o9 P w K mg base 2 "is_turning" ["thing"] ys0):u8 P w K mg base CX0 3 f fd ["thing","many"] N4:=by
 refine D.F.ok zi4 (λvs H Q E h=>?_) (λcdv A outer s H vs Q E hr h=>?_)
 ·obtain⟨x,d,n,rfl,_⟩:=h
  rfl
 obtain⟨x,d,n,rfl,hd,hl,q⟩:=h
 refine⟨_,z7 (v1 (zq3 (p6 KT hr rfl (z0 (pv 0) z5)) (zq5 (B9 zj8 (v9 q9 rfl B.len Y1 (z0 (pv 0) z5)) (pv 1) (l5 _))))),?_⟩
 refine⟨_,rfl,x,d,rfl,hd,hl,λH1 s1=>?_⟩
 cases ht:c5 d with
 | false =>
  have:=q H1 s1
  rw[ht,eW]at this
  exact⟨_,rfl,g7 this⟩
 | true =>
  obtain⟨ds,rfl⟩:=yw3 ht
  have q':=q H1 s1
  rw[ht,Bool.true_and]at q'
  have hd1:=hd.same s1
  cases hd1 with
  | @tup a xs _ e r =>
   refine⟨_,rfl,Y2 ⟨_,rfl,a,_,rfl,.inr (SqT.of e),_,rfl,rfl,?_⟩⟩
   rw[X6,r.length]
   rw[show decide (((ds.length:Nat):Int)=(n:Int))=decide (ds.length=n) from decide_eq_decide.mpr (by lia)]
   exact q'
def zf4:Sp:=λvs H Q _=>∃n:Nat,vs=[.int n]/\n<=1000/\∀(r:Addr) (H':Hp),H r=none->y6 H H'->H' r=some (.tup (tI (List.range n)))->Q (.ref r) H'
theorem xf4:x9 ["many"] ["many"] (z9 yb0):=scq
theorem xd2 (D:Def K mg "still" yb0 ["many"] f fd)(B:Blt mg):u8 P w K mg base CX0 1 f fd ["many"] zf4:=by
 refine D.F.ok xf4 (λvs H Q E h=>?_) (λcdv A outer s H vs Q E hr h=>?_)
 ·obtain⟨n,rfl,_⟩:=h
  rfl
 obtain⟨n,rfl,hn,q⟩:=h
 refine⟨_,z7 (v1 (u5 (D3 rfl) rfl B.tuple d0 (z0 (u5 S9 rfl B.range O1 (z0 (pv 0) z5)) z5))),?_⟩
 refine⟨_,rfl,_,rfl,λp hp=>⟨p,0,(n:Int),rfl,z4,⟨by lia,by lia,by lia,by lia,by lia⟩,λr hr'=>?_⟩⟩
 rw[show((n:Int)-0).toNat=n by lia,N5]
 have pr:p≠r:=y0 z4 hr'
 have hr0:H r=none:=by
  have:=hr'
  rwa [z6 (Ne.symm pr)]at this
 exact q r _ hr0 (p4 (z8 hp _) hr0 _) z4
def N3 (K:W.Frag):Sp:=λvs H Q _=>∃(a b:Addr) (one other:List Nat),vs=[.ref a,.ref b]/\SqT K H a (tI one)/\SqT K H b (tI other)/\one.length<=1000/\(∀x∈one,x<other.length) /\
 ∀(r:Addr) (H':Hp),H r=none->y6 H H'->H' r=some (.tup (tI (one.map λx=>other.getD x 0)))->Q (.ref r) H'
theorem yw0:x9 ["one","other"] ["one","other"] (z9 zr5):=scq
theorem yv2 (D:Def K mg "behind" zr5 ["one","other"] f fd)(B:Blt mg):u8 P w K mg base CX0 1 f fd ["one","other"] (N3 K):=by
 refine D.F.ok yw0 (λvs H Q E h=>?_) (λcdv A outer s H vs Q E hr h=>?_)
 ·obtain⟨a,b,one,other,rfl,_⟩:=h
  rfl
 obtain⟨a,b,one,other,rfl,ha,hb,hl,hlt,q⟩:=h
 refine⟨_,z7 (v1 (u5 o7 rfl B.tuple d0 (z0 (Z6 [1] ["place","other"] rfl (ya2 (pv 0)) (λ_ _ _ _=>k9 D6 (pv 1) (pv 0) (λ_ _=>rfl))) z5))),?_⟩
 refine⟨_,rfl,a,rfl,⟨_,ha⟩,zc5 ha (tI (one.map λx=>other.getD x 0)) (by rw[u6,u6,aa]) (by rw[u6];exact small hl) ?_ ?_⟩
 ·intro i H1 x hx s1 _ _ _ _
  obtain⟨p,hp,rfl⟩:=F9 hx
  have hpl:p<other.length:=hlt p (aq hp)
  have hg:other[p]?=some other[p]:=ae hpl
  refine⟨_,rfl,_,rfl,b,_,_,_,rfl,rfl,s1.seqT hb,zf5 hg,y6.refl _,?_⟩
  rw[yc0,af,hp]
  simp[au,hg]
 ·intro Dl H1 hD s1 hl1
  exact⟨Dl,_,rfl,.inl ⟨SqL.of hl1,λl hl2=>q l _ (s1.free hl2) (p4 s1 (s1.free hl2) _) z4⟩⟩
def yn4 (K:W.Frag):Sp:=λvs H Q _=>∃(a:Addr) (n:Nat) (one:List Nat),vs=[.ref a]/\SqT K H a (tI one)/\TM.IsT n one/\n<=1000 /\
 ∀(r:Addr) (H':Hp) (b:List Nat),H r=none->y6 H H'->TM.Back n one n b->H' r=some (.tup (tI b))->Q (.ref r) H'
theorem zm4:x9 ["one","goes","place","to"] ["one"] (z9 ym9):=scq
theorem xk3 (D:Def K mg "back" ym9 ["one"] f fd)(B:Blt mg):u8 P w K mg base CX0 1 f fd ["one"] (yn4 K):=by
 refine D.F.ok zm4 (λvs H Q E h=>?_) (λcdv A outer s H vs Q E hr h=>?_)
 ·obtain⟨a,n,one,rfl,_⟩:=h
  rfl
 obtain⟨a,n,one,rfl,ha,hT,hn,q⟩:=h
 refine⟨_,y4 (u4 (i:=1) zm4.nd rfl (Or.inl rfl) (u5 zc4 rfl B.list P5 (z0 (pv 0) z5)))
  (y4 (U1 PassesOwn.never rfl (yg2 rfl B.enumerate (z0 (pv 0) z5)) (zb4 rfl (Z0 (o5 (i:=2) zm4.nd rfl (Or.inl rfl)) (Z0 (o5 (i:=3) zm4.nd rfl (Or.inl rfl)) J1)))
   (z7 (zh7 (pv 2) (zq7 (pv 1) (pv 3) B2))))
  (z7 (v1 (u5 o7 rfl B.tuple d0 (z0 (pv 1) z5))))),?_⟩
 refine⟨_,rfl,a,tI one,rfl,.inr ha,λg hg=>?_⟩
 have s0:y6 H (upd H g (.lst (tI one))):=z8 hg _
 refine⟨_,rfl,a,rfl,⟨_,s0.seqT ha⟩,L7 (xs:=tI one) (λi σ H2=>∃(b:List Nat) (v2 v3:Option V),σ=[some (.ref a),some (.ref g),v2,v3]/\y6 H H2/\H2 g=some (.lst (tI b))/\TM.Back n one i b)
  ⟨one,none,none,rfl,s0,z4,TM.Back.start hT.length⟩ (λi σ H2 _ ⟨_,_,_,_,s2,_⟩=>s2.seqT ha) ?_ ?_⟩
 ·rintro i x σ H2 T hx ⟨b,v2,v3,rfl,s2,hg2,bk⟩ hT2
  obtain⟨y,hy,rfl⟩:=F9 hx
  have hTg:g≠T:=y0 hg2 hT2
  have hyn:y<b.length:=by rw[bk.len];exact hT.get_lt hy
  refine⟨T,_,rfl,SqT.of z4,rfl,_,_,rfl,_,_,rfl,rfl,?_⟩
  refine⟨_,rfl,_,rfl,_,rfl,g,tI b,_,y,rfl,rfl,by rw[z6 hTg];exact hg2,by rw[u6];exact B8 hyn,?_⟩
  refine⟨b.set y i,_,_,rfl,p4 (p4 s2 (s2.free hT2) _) hg _,by rw[z4,zj0],bk.step hT hy⟩
 ·rintro σ H2 ⟨b,v2,v3,rfl,s2,hg2,bk⟩
  rw[u6,hT.length]at bk
  exact⟨_,rfl,g,tI b,rfl,.inl ⟨SqL.of hg2,λl hl=>q l _ b (s2.free hl) (p4 s2 (s2.free hl) _) bk z4⟩⟩
structure n4 (K:W.Frag) (C:Addr) (xs:List Str):Prop where
 cls:Cls K C
 no:∀x∈xs,E7 K C x
def y8 (F:List Addr)(H H':Hp):Prop:=∀b o,b∉F->H b=some o->H' b=some o
theorem y8.refl :y8 F H H:=λ_ _ _ h=>h
theorem y8.trans (a:y8 F H H1)(b:y8 F H1 H2):y8 F H H2:=λc o hc h=>b c o hc (a c o hc h)
theorem y6.frame (s:y6 H H'):y8 F H H':=λb o _ h=>s b o h
theorem y8.upd (s:y8 F H H')(ha:a∈F)(o:HO):y8 F H (L2.upd H' a o):=λb u hb h=>by
 rw[z6 (λe=>hb (by rw[e];exact ha))]
 exact s b u hb h
theorem y8.more (s:y8 F H H')(h:∀a∈F,a∈G):y8 G H H':=λb o hb e=>s b o (λz=>hb (h b z)) e
def kI (l:List (Nat×Nat)):List (Key×V):=l.map λx=>(Sum.inl (x.1:Int),V.int (x.2:Int))
theorem zh0 (l:List (Nat×Nat)):(kI l).length=l.length:=aa _
def atN {α:Type}(l:List (Nat×α))(k:Nat):Option α:=(l.find? λx=>decide (x.1=k)).map (·.2)
theorem Q5 (l:List (Nat×Nat))(k:Nat):V4 (kI l) (Sum.inl (k:Int))=(atN l k).map λx=>V.int x:=by
 induction l with
 | nil=>rfl
 | cons x r ih =>
  by_cases h:x.1=k
  ·have e:atN (x::r) k=some x.2:=by unfold atN;rw[dw (by simpa using h)];rfl
   rw[e]
   exact c4 (p:=(Sum.inl (x.1:Int),V.int (x.2:Int))) (by show(Sum.inl (x.1:Int):Key)=Sum.inl (k:Int);rw[h])
  ·have e:atN (x::r) k=atN r k:=by unfold atN;rw[dz (by simpa using h)]
   rw[e,←ih]
   exact i8 (p:=(Sum.inl (x.1:Int),V.int (x.2:Int))) λz=>h (by have:=Sum.inl.inj z;lia)
structure StS where
 mv:List Nat
 to:List (Nat×Nat)
 wt:List (Nat×Nat)
 lk:Nat
structure ChS where
 ln:List TM.Ln
 md:List (List Nat)
 bl:List (Nat×Nat)
 st:List StS
 src:Nat->List Nat
structure StA where
 a:Addr
 m:Addr
 lt:Addr
 bf:Addr
 w:Addr
structure ChA where
 c:Addr
 b:Addr
 ll:Addr
 lm:Addr
 d:Addr
 l:Addr
 st:List StA
def StA.all (s:StA):List Addr:=[s.a,s.m,s.lt,s.bf,s.w]
def ChA.all (A:ChA):List Addr:=[A.c,A.b,A.ll,A.lm,A.d,A.l]++(A.st.map StA.all).flatten
structure S0 (cB:Addr) (H:Hp) (A:ChA) (S:ChS):Prop where
 b:∃dx,H A.b=some (.ins cB dx [("lines",.ref A.ll),("made",.ref A.lm),("back_lines",.ref A.d)])
 ll:∃as,H A.ll=some (.lst (as.map V.ref))/\zn0 H as S.ln
 lm:∃as,H A.lm=some (.lst (as.map V.ref))/\i5 H as S.md
 d:H A.d=some (.dK (kI S.bl))
 len:S.ln.length=S.md.length
theorem i5.upd (h:i5 H as ts)(ha:∀xs,H a≠some (.tup xs)):i5 (L2.upd H a o) as ts:=Paired.imp' (λb t e=>by
 rw[z6 (λz=>by subst z;exact ha _ e)];exact e) h
theorem zn0.upd (h:zn0 H as ls)(ha:∀xs,H a≠some (.tup xs)):zn0 (L2.upd H a o) as ls:=Paired.imp' (λb t e=>by
 rw[z6 (λz=>by subst z;exact ha _ e)];exact e) h
def ChS.put (S:ChS)(l:TM.Ln)(t:List Nat):ChS:={ S with ln:=S.ln++[l],md:=S.md++[t] }
def zc3:List Str:=["lines","made","back_lines"]
def yr8 (cB:Addr):Sp:=λvs H Q _=>∃(A:ChA) (S:ChS) (lr tr:Addr) (l:TM.Ln) (t:List Nat),vs=[.ref A.b,.ref lr,.ref tr]/\S0 cB H A S/\A.ll≠A.lm/\H lr=some (.tup (lnV l))/\H tr=some (.tup (tI t))/\S.ln.length<10000000 /\
 ∀H':Hp,y8 [A.ll,A.lm] H H'->S0 cB H' A (S.put l t)->Q (.int (S.ln.length:Int)) H'
theorem yh1:x9 ["self","line","turning"] ["self","line","turning"] (z9 zb5):=scq
theorem V9:10000000<ge:=by decide
theorem yf7 (F:Fun K "put" "Book.put" zb5 f fd)(B:Blt mg)(cb:n4 K cB zc3):u8 P w K mg base CX0 1 f fd ["self","line","turning"] (yr8 cB):=by
 refine F.ok yh1 (λvs H Q E h=>?_) (λcdv Ar outer s H vs Q E hr h=>?_)
 ·obtain⟨A,S,lr,tr,l,t,rfl,_⟩:=h
  rfl
 obtain⟨A,S,lr,tr,l,t,rfl,bk,hne,hl,ht,hlen,q⟩:=h
 obtain⟨⟨dx,hb⟩,⟨las,hll,hln⟩,⟨mas,hlm,hmd⟩,hd,hlen2⟩:=bk
 have hz:=V9
 have nL:=cb.no "lines" (by decide)
 have nM:=cb.no "made" (by decide)
 refine⟨_,y4 (i6 (E4 PySem.F.plainAttrs_list PySem.F.slot_list_append PySem.F.type_list_append X2 (y9 (pv 0) rfl) (z0 (pv 1) z5)))
  (y4 (i6 (E4 PySem.F.plainAttrs_list PySem.F.slot_list_append PySem.F.type_list_append X2 (y9 (pv 0) rfl) (z0 (pv 2) z5)))
  (z7 (v1 (e9 ym2 (v9 q9 rfl B.len Y1 (z0 (y9 (pv 0) rfl) z5)) w8)))),?_⟩
 have las_l:las.length=S.ln.length:=Paired.length hln
 have mas_l:mas.length=S.md.length:=Paired.length hmd
 refine⟨_,rfl,A.b,cB,dx,_,_,rfl,hb,cb.cls,nL,rfl,.inl ⟨rfl,_,SqL.of hll⟩,_,rfl,A.ll,_,_,rfl,rfl,hll,by rw[aa];lia,?_⟩
 have b1:A.b≠A.ll:=i9 hb hll (by intro z;cases z)
 have e1:(upd H A.ll (.lst (las.map V.ref++[V.ref lr]))) A.b=some (.ins cB dx [("lines",.ref A.ll),("made",.ref A.lm),("back_lines",.ref A.d)]):=by rw[z6 b1];exact hb
 have e2:(upd H A.ll (.lst (las.map V.ref++[V.ref lr]))) A.lm=some (.lst (mas.map V.ref)):=by rw[z6 (Ne.symm hne)];exact hlm
 refine⟨_,rfl,A.b,cB,dx,_,_,rfl,e1,cb.cls,nM,rfl,.inl ⟨rfl,_,SqL.of e2⟩,_,rfl,A.lm,_,_,rfl,rfl,e2,by rw[aa];lia,?_⟩
 have b2:A.b≠A.lm:=i9 hb hlm (by intro z;cases z)
 have e3:(upd (upd H A.ll (.lst (las.map V.ref++[V.ref lr]))) A.lm (.lst (mas.map V.ref++[V.ref tr]))) A.b=some (.ins cB dx [("lines",.ref A.ll),("made",.ref A.lm),("back_lines",.ref A.d)]):=by rw[z6 b2];exact e1
 have e4:(upd (upd H A.ll (.lst (las.map V.ref++[V.ref lr]))) A.lm (.lst (mas.map V.ref++[V.ref tr]))) A.ll=some (.lst ((las++[lr]).map V.ref)):=by rw[z6 hne,z4,aH];rfl
 refine⟨_,rfl,A.b,cB,dx,_,_,rfl,e3,cb.cls,nL,rfl,A.ll,_,rfl,.inl (SqL.of e4),_,_,rfl,rfl,?_⟩
 have hv:((((las++[lr]).map V.ref).length:Nat):Int)-1=(S.ln.length:Int):=by
  rw[aa,ah,bI,las_l]
  lia
 show Q (.int _) _
 rw[hv]
 have nt1:∀xs,H A.ll≠some (.tup xs):=λxs z=>by rw[hll]at z;cases z
 have nt2:∀xs,(upd H A.ll (.lst (las.map V.ref++[V.ref lr]))) A.lm≠some (.tup xs):=λxs z=>by rw[e2]at z;cases z
 have d1:A.d≠A.ll:=i9 hd hll (by intro z;cases z)
 have d2:A.d≠A.lm:=i9 hd hlm (by intro z;cases z)
 refine q _ (y8.upd (y8.upd y8.refl (by simp) _) (by simp) _) ⟨⟨dx,e3⟩,⟨las++[lr],e4,?_⟩,⟨mas++[tr],by rw[z4,aH];rfl,?_⟩,by rw[z6 d2,z6 d1];exact hd,by show(S.ln++[l]).length=(S.md++[t]).length;rw[ah,ah,hlen2];rfl⟩
 ·refine Paired.snoc ((hln.upd nt1).upd nt2) ?_
  rw[z6 (i9 hl hlm (by intro z;cases z)),z6 (i9 hl hll (by intro z;cases z))]
  exact hl
 ·refine Paired.snoc ((hmd.upd nt1).upd nt2) ?_
  rw[z6 (i9 ht hlm (by intro z;cases z)),z6 (i9 ht hll (by intro z;cases z))]
  exact ht
theorem S0.same (h:S0 cB H A S)(s:y6 H H'):S0 cB H' A S :=
 ⟨h.b.imp λ_ e=>s _ _ e,h.ll.imp λ_ e=>⟨s _ _ e.1,e.2.same s⟩,h.lm.imp λ_ e=>⟨s _ _ e.1,e.2.same s⟩,s _ _ h.d,h.len⟩
def ChS.putB (S:ChS)(i j:Nat):Nat×ChS:=if i=0 then(j,S) else if j=0 then(i,S) else(S.ln.length,S.put (.behind i j) (TM.beh (S.md.getD i []) (S.md.getD j [])))
def xg3 (cB:Addr):Sp:=λvs H Q _=>∃(A:ChA) (S:ChS) (n i j:Nat),vs=[.ref A.b,.int i,.int j]/\S0 cB H A S/\A.ll≠A.lm/\i<S.md.length/\j<S.md.length/\(∀t∈S.md,TM.IsT n t)/\n<=60/\S.ln.length<10000000 /\
 ∀H':Hp,y8 [A.ll,A.lm] H H'->S0 cB H' A (S.putB i j).2->Q (.int ((S.putB i j).1:Int)) H'
theorem zb8:x9 ["self","one","other"] ["self","one","other"] (z9 T2):=scq
theorem V6 {α:Type}{l:List α}(d:α)(h:i<l.length):l[i]?=some (l.getD i d):=by
 rw[au,ae h];rfl
theorem zb1 (F:Fun K "put_behind" "Book.put_behind" T2 f fd)(B:Blt mg)(cb:n4 K cB zc3)(MP:Y5 P w K mg base 1 cB "put" ["self","line","turning"] (yr8 cB))(KB:o9 P w K mg base 1 "behind" ["one","other"] (N3 K))(GS:zk4 mg "STILL_LINE" (.int 0)):u8 P w K mg base CX0 2 f fd ["self","one","other"] (xg3 cB):=by
 refine F.ok zb8 (λvs H Q E h=>?_) (λcdv Ar outer s H vs Q E hr h=>?_)
 ·obtain⟨A,S,n,i,j,rfl,_⟩:=h
  rfl
 obtain⟨A,S,n,i,j,rfl,bk,hne,hi,hj,hT,hn,hlen,q⟩:=h
 refine⟨_,y4 (i7 (m9 zj8 (pv 1) (ze2 GS rfl) (l5 _)) (z7 (v1 (pv 2))) r6)
  (y4 (i7 (m9 zj8 (pv 2) (ze2 GS rfl) (l5 _)) (z7 (v1 (pv 1))) r6)
  (z7 (v1 (Y7 cb.cls MP hr (pv 0) (z0 (C3 (z0 zb3 (z0 (pv 1) (z0 (pv 2) z5)))) (z0 (p6 KB hr rfl (z0 (k9 p5 (y9 (pv 0) rfl) (pv 1) (λ_ _=>rfl)) (z0 (k9 p5 (y9 (pv 0) rfl) (pv 2) (λ_ _=>rfl)) z5))) z5)))))),?_⟩
 refine⟨_,rfl,rfl,_,rfl,ye7 (λc=>?_) (λc=>⟨_,rfl,rfl,_,rfl,ye7 (λc2=>?_) (λc2=>?_)⟩)⟩
 ·rw[X6]at c
  have e:i=0:=by have:=of_decide_eq_true c;lia
  have r:=q H y8.refl
  unfold ChS.putB at r
  rw[if_pos e]at r
  exact⟨_,rfl,r bk⟩
 ·rw[X6]at c c2
  have e:¬i=0:=by have:=of_decide_eq_false (cQ.mpr c);lia
  have e2:j=0:=by have:=of_decide_eq_true c2;lia
  have r:=q H y8.refl
  unfold ChS.putB at r
  rw[if_neg e,if_pos e2]at r
  exact⟨_,rfl,r bk⟩
 ·rw[X6]at c c2
  have e:¬i=0:=by have:=of_decide_eq_false (cQ.mpr c);lia
  have e2:¬j=0:=by have:=of_decide_eq_false (cQ.mpr c2);lia
  unfold ChS.putB at q
  rw[if_neg e,if_neg e2]at q
  obtain⟨dx,hb⟩:=bk.b
  obtain⟨mas,hlm,hmd⟩:=bk.lm
  have hz:=V9
  refine⟨_,rfl,A.b,dx,_,rfl,hb,rfl,_,rfl,_,rfl,(by show 3<=ge;lia),λlr hlr=>?_⟩
  have s1:=z8 hlr (.tup [V.str "behind",V.int i,V.int j])
  have el:(upd H lr (.tup [V.str "behind",V.int i,V.int j])) lr=some (.tup (lnV (.behind i j))):=z4
  generalize upd H lr (.tup [V.str "behind",V.int i,V.int j])=H1 at s1 el ⊢
  have ti:TM.IsT n (S.md.getD i []):=hT _ (aq (V6 [] hi))
  have tj:TM.IsT n (S.md.getD j []):=hT _ (aq (V6 [] hj))
  obtain⟨ai,hai,hti⟩:=n6 hmd i _ (V6 [] hi)
  obtain⟨aj,haj,htj⟩:=n6 hmd j _ (V6 [] hj)
  have gi:atI (mas.map V.ref) ((i:Nat):Int)=some (V.ref ai):=l9 (by rw[af,hai];rfl)
  have gj:atI (mas.map V.ref) ((j:Nat):Int)=some (V.ref aj):=l9 (by rw[af,haj];rfl)
  refine⟨_,rfl,A.b,cB,dx,_,_,rfl,s1 _ _ hb,cb.cls,cb.no "made" (by decide),rfl,_,rfl,A.lm,_,_,_,rfl,rfl,SqL.of (s1 _ _ hlm),gi,_,rfl,A.b,cB,dx,_,_,rfl,s1 _ _ hb,cb.cls,cb.no "made" (by decide),rfl,_,rfl,A.lm,_,_,_,rfl,rfl,SqL.of (s1 _ _ hlm),gj,ai,aj,_,_,rfl,SqT.of (s1 _ _ hti),SqT.of (s1 _ _ htj),by rw[ti.length];lia,λx hx=>?_,λtr H2 htr s2 ht2=>?_⟩
  ·rw[tj.length]
   exact ti.lt hx
  exact⟨A,S,lr,tr,.behind i j,_,rfl,bk.same (s1.trans s2),hne,s2 _ _ el,ht2,hlen,λH3 fr bk3=>q H3 (λb o hb' e=>fr b o hb' ((s1.trans s2) _ _ e)) bk3⟩
def ChS.putK (n:Nat)(S:ChS)(i:Nat):Nat×ChS:=match atN S.bl i with
 | some k=>(k,S)
 | none=>(S.ln.length,{ S.put (.back i) (TM.bk n (S.md.getD i [])) with bl:=S.bl++[(i,S.ln.length)] })
def xg4 (cB:Addr):Sp:=λvs H Q _=>∃(A:ChA) (S:ChS) (n i:Nat),vs=[.ref A.b,.int i]/\S0 cB H A S/\A.ll≠A.lm/\i<S.md.length/\(∀t∈S.md,TM.IsT n t)/\n<=60/\S.ln.length<10000000/\S.bl.length<10000000 /\
 ∀H':Hp,y8 [A.ll,A.lm,A.d] H H'->S0 cB H' A (S.putK n i).2->Q (.int ((S.putK n i).1:Int)) H'
theorem zi1:x9 ["self","one"] ["self","one"] (z9 V7):=scq
theorem yc2 (h:atN l k=none):V4 (kI l) (Sum.inl (k:Int))=none:=by rw[Q5,h];rfl
theorem zr1 {l:List (Nat×Nat)}{k v:Nat}(h:atN l k=none):putK (kI l) (Sum.inl (k:Int)) (V.int v)=kI (l++[(k,v)]):=by
 have e:=yc2 h
 unfold putK
 rw[T7,e]
 show kI l++[(Sum.inl (k:Int),V.int v)]=kI (l++[(k,v)])
 unfold kI
 rw[aH]
 rfl
theorem zn4 {k v:Nat}(h:atN l k=none):atN (l++[(k,v)]) k=some v:=by
 have h':l.find? (λx=>decide (x.1=k))=none:=by
  unfold atN at h
  cases e:l.find? (λx=>decide (x.1=k)) with
  | none=>rfl
  | some x=>rw[e]at h;cases h
 unfold atN
 rw[eg,h']
 simp
theorem zh4 (F:Fun K "put_back" "Book.put_back" V7 f fd)(B:Blt mg)(cb:n4 K cB zc3)(MP:Y5 P w K mg base 1 cB "put" ["self","line","turning"] (yr8 cB))(KB:o9 P w K mg base 1 "back" ["one"] (yn4 K)):u8 P w K mg base CX0 2 f fd ["self","one"] (xg4 cB):=by
 refine F.ok zi1 (λvs H Q E h=>?_) (λcdv Ar outer s H vs Q E hr h=>?_)
 ·obtain⟨A,S,n,i,rfl,_⟩:=h
  rfl
 obtain⟨A,S,n,i,rfl,bk,hne,hi,hT,hn,hlen,hbl,q⟩:=h
 have hu:(Ar.deeper (PyProof.Rows.envOfC "Book.put_back" (z9 V7) s.heap.objs.size f cdv)).units+1<cLine:=by have:=hr.units;lia
 refine⟨_,y4 (i7 (zh8 (K1 hu (pv 1) (y9 (pv 0) rfl))) (z7 (J2 hu (y9 (pv 0) rfl) (pv 1) (Y7 cb.cls MP hr (pv 0) (z0 (C3 (z0 zb3 (z0 (pv 1) z5))) (z0 (p6 KB hr rfl (z0 (k9 p5 (y9 (pv 0) rfl) (pv 1) (λ_ _=>rfl)) z5)) z5))) rfl)) r6)
  (z7 (v1 (Q3 hu (y9 (pv 0) rfl) (pv 1) (λ_ _=>rfl)))),?_⟩
 obtain⟨dx,hb⟩:=bk.b
 obtain⟨mas,hlm,hmd⟩:=bk.lm
 have hz:=V9
 have nB:=cb.no "back_lines" (by decide)
 refine⟨_,rfl,_,rfl,A.b,cB,dx,_,_,rfl,hb,cb.cls,nB,rfl,A.d,_,rfl,V1.k (k:=Sum.inl (i:Int)) bk.d,_,rfl,?_⟩
 rw[Q5]
 cases ea:atN S.bl i with
 | some k =>
  have e1:S.putK n i=(k,S):=by unfold ChS.putK;rw[ea]
  rw[e1]at q
  refine g7 ⟨_,rfl,A.b,cB,dx,_,_,rfl,hb,cb.cls,nB,rfl,_,rfl,A.d,V.int k,rfl,?_,q H y8.refl bk⟩
  have g:=V1.k (k:=Sum.inl (i:Int)) bk.d
  rwa [Q5,ea]at g
 | none =>
  have e1:S.putK n i=(S.ln.length,{ S.put (.back i) (TM.bk n (S.md.getD i [])) with bl:=S.bl++[(i,S.ln.length)] }):=by unfold ChS.putK;rw[ea]
  rw[e1]at q
  refine Y2 ?_
  refine⟨_,rfl,A.b,dx,_,rfl,hb,rfl,_,rfl,(by show 2<=ge;lia),λlr hlr=>?_⟩
  have s1:=z8 hlr (.tup [V.str "back",V.int i])
  have el:(upd H lr (.tup [V.str "back",V.int i])) lr=some (.tup (lnV (.back i))):=z4
  generalize upd H lr (.tup [V.str "back",V.int i])=H1 at s1 el ⊢
  have ti:TM.IsT n (S.md.getD i []):=hT _ (aq (V6 [] hi))
  obtain⟨ai,hai,hti⟩:=n6 hmd i _ (V6 [] hi)
  have gi:atI (mas.map V.ref) ((i:Nat):Int)=some (V.ref ai):=l9 (by rw[af,hai];rfl)
  refine⟨_,rfl,A.b,cB,dx,_,_,rfl,s1 _ _ hb,cb.cls,cb.no "made" (by decide),rfl,_,rfl,A.lm,_,_,_,rfl,rfl,SqL.of (s1 _ _ hlm),gi,ai,n,_,rfl,SqT.of (s1 _ _ hti),ti,by lia,λtr H2 bq htr s2 hbq ht2=>?_⟩
  have ebq:bq=TM.bk n (S.md.getD i []):=hbq.uniq ti (TM.bk_back ti)
  subst ebq
  refine⟨A,S,lr,tr,.back i,_,rfl,bk.same (s1.trans s2),hne,s2 _ _ el,ht2,hlen,λH3 fr bk3=>?_⟩
  obtain⟨dx3,hb3⟩:=bk3.b
  have hd3:H3 A.d=some (.dK (kI S.bl)):=bk3.d
  have kd:(kI S.bl).length<ge:=by rw[zh0];lia
  refine⟨_,rfl,A.b,cB,dx3,_,_,rfl,hb3,cb.cls,nB,rfl,_,rfl,A.d,_,rfl,zm8.k (k:=Sum.inl (i:Int)) hd3 kd,?_⟩
  rw[zr1 ea]
  have b3:A.b≠A.d:=i9 hb3 hd3 (by intro z;cases z)
  have eb4:(upd H3 A.d (.dK (kI (S.bl++[(i,S.ln.length)])))) A.b=some (.ins cB dx3 [("lines",.ref A.ll),("made",.ref A.lm),("back_lines",.ref A.d)]):=by rw[z6 b3];exact hb3
  refine⟨_,rfl,A.b,cB,dx3,_,_,rfl,eb4,cb.cls,nB,rfl,_,rfl,A.d,V.int (S.ln.length:Int),rfl,?_,?_⟩
  ·have g:=V1.k (k:=Sum.inl (i:Int)) (kvs:=kI (S.bl++[(i,S.ln.length)])) (H:=upd H3 A.d (.dK (kI (S.bl++[(i,S.ln.length)])))) z4
   rwa [Q5,zn4 ea]at g
  ·obtain⟨las3,hll3,hln3⟩:=bk3.ll
   obtain⟨mas3,hlm3,hmd3⟩:=bk3.lm
   have nt:∀xs,H3 A.d≠some (.tup xs):=λxs z=>by rw[hd3]at z;cases z
   refine q _ ?_ ⟨⟨dx3,eb4⟩,⟨las3,by rw[z6 (i9 hll3 hd3 (by intro z;cases z))];exact hll3,hln3.upd nt⟩,⟨mas3,by rw[z6 (i9 hlm3 hd3 (by intro z;cases z))];exact hlm3,hmd3.upd nt⟩,z4,bk3.len⟩
   exact y8.upd (y8.trans (y6.frame (s1.trans s2)) (fr.more (λa ha=>by simp at ha ⊢;rcases ha with h|h <;> simp[h]))) (by simp) _
theorem K0 {α β:Type}{F G:α->β->Prop}:∀{as:List α} {bs:List β},Paired F as bs->(∀a∈as,∀b,F a b->G a b)->Paired G as bs
 | _,_,.nil,_=>.nil
 | _,_,.cons f r,h=>.cons (h _ ax _ f) (K0 r λa ha b q=>h a (av _ ha) b q)
theorem yt0 {xs:List V}{fr:List Nat}{te:CT TE}{Q:Addr->Hp->Prop}{α:Type}(g:α->HO)(ys:List α)(hS:SqL K H1 a xs)(hn:ys.length=xs.length)(hz:xs.length<=ge)
  (turn:∀(i:Nat) H x y,xs[i]?=some x->ys[i]?=some y->y6 H1 H->∀C₀ s₀ H₀ fp,te C₀ s₀ H₀ fp (some x::fr.map λj=>(σ[j]?).getD none) H λv H4=>y6 H H4/\∃b,v=.ref b/\H b=none/\H4 b=some (g y))
  (fin:∀D H as,H1 D=none->y6 H1 H->H D=some (.lst (as.map V.ref))->Paired (λb y=>H b=some (g y)) as ys->(∀b∈as,H1 b=none)->Q D H) :
  ∀D,H1 D=none->∃W:Nat->Nat->St->Hp->Prop,(∃m,W 0 m (P3 1 fr σ) (upd H1 D (.lst [])))/\∀i m σ' H',W i m σ' H' ->
  ((Itl K a).stop i H'/\Q D H')∨((Itl K a).go i H'/\∀x H2,(Itl K a).yld i H' x H2->∀C₀ s₀ H₀ fp,Q8 0 x σ' H2 λσ3 H3=>∃N:VK,te C₀ s₀ H₀ fp σ3 H3 N/\∀y H4,N y H4 ->
   ∃ys m',H4 D=some (.lst ys)/\ys.length<ge/\m'<m/\W (i+1) m' σ3 (upd H4 D (.lst (ys++[y])))):=by
 intro D hD
 refine⟨λi m σ' H'=>m=xs.length-i/\i<=xs.length/\y6 H1 H'/\(∃as:List Addr,H' D=some (.lst (as.map V.ref))/\Paired (λb y=>H' b=some (g y)) as (ys.take i)/\(∀b∈as,b≠D)/\∀b∈as,H1 b=none)/\∃z,σ'=z::fr.map λj=>(σ[j]?).getD none,
  ⟨xs.length,rfl,aP _,z8 hD _,⟨[],z4,.nil,λ_ h=>(by cases h),λ_ h=>(by cases h)⟩,none,rfl⟩,?_⟩
 rintro i m σ' H' ⟨rfl,hi,sm,⟨as,hl,hP,hne,hnw⟩,z,rfl⟩
 by_cases hlt:i<xs.length
 ·refine .inr ⟨⟨xs,xs[i],sm.seq hS,by simp[hlt]⟩,λx H2 yl C₀ s₀ H₀ fp=>?_⟩
  obtain⟨e,hx⟩:=yl
  subst e
  have hxi:=hx xs (sm.seq hS)
  have hyi:ys[i]?=some ys[i]:=ae (by lia)
  refine⟨_,turn i _ x _ hxi hyi sm C₀ s₀ H₀ fp,λv H4 ⟨s4,b,hv,hb0,hG⟩=>?_⟩
  subst hv
  have hasl:as.length=i:=by rw[Paired.length hP,bo];lia
  have hD4:=s4 _ _ hl
  have hbD:b≠D:=Ne.symm (y0 hl hb0)
  refine⟨as.map V.ref,xs.length-(i+1),hD4,by rw[aa,hasl];lia,by lia,rfl,hlt,λc o e=>?_,⟨as++[b],by rw[z4,aH];rfl,?_,λc hc=>?_,λc hc=>?_⟩,_,rfl⟩
  ·rw[z6 (y0 e hD)]
   exact s4 _ _ (sm _ _ e)
  ·rw[bJ,hyi]
   refine Paired.snoc (K0 hP λc hc y e=>by rw[z6 (hne c hc)];exact s4 _ _ e) ?_
   rw[z6 hbD]
   exact hG
  ·rcases aF.mp hc with w|w
   ·exact hne c w
   ·rw[ar.mp w];exact hbD
  ·rcases aF.mp hc with w|w
   ·exact hnw c w
   ·rw[ar.mp w];exact sm.free hb0
 ·have e:i=xs.length:=by lia
  subst e
  refine .inl ⟨⟨xs,sm.seq hS,ag _⟩,fin D H' as hD sm hl ?_ hnw⟩
  rw[bO (by lia)]at hP
  exact hP
theorem yk3 {J:It}{fr:List Nat}{te:CT TE}{Q:Addr->Hp->Prop}{α:Type}(g:α->HO)(ys:List α)(hn:ys.length=n)(hz:n<=ge)
  (hstop:∀H,y6 H1 H->J.stop n H) (hgo:∀i H,i<n->y6 H1 H->J.go i H)
  (turn:∀(i:Nat) H x H2 y,i<n->y6 H1 H->J.yld i H x H2->ys[i]?=some y->H2=H/\∀C₀ s₀ H₀ fp,te C₀ s₀ H₀ fp (some x::fr.map λj=>(σ[j]?).getD none) H λv H4=>y6 H H4/\∃b,v=.ref b/\H b=none/\H4 b=some (g y))
  (fin:∀D H as,H1 D=none->y6 H1 H->H D=some (.lst (as.map V.ref))->Paired (λb y=>H b=some (g y)) as ys->(∀b∈as,H1 b=none)->(∀b∈as,b≠D)->Q D H) :
  ∀D,H1 D=none->∃W:Nat->Nat->St->Hp->Prop,(∃m,W 0 m (P3 1 fr σ) (upd H1 D (.lst [])))/\∀i m σ' H',W i m σ' H' ->
  (J.stop i H'/\Q D H')∨(J.go i H'/\∀x H2,J.yld i H' x H2->∀C₀ s₀ H₀ fp,Q8 0 x σ' H2 λσ3 H3=>∃N:VK,te C₀ s₀ H₀ fp σ3 H3 N/\∀y H4,N y H4 ->
   ∃ys m',H4 D=some (.lst ys)/\ys.length<ge/\m'<m/\W (i+1) m' σ3 (upd H4 D (.lst (ys++[y])))):=by
 intro D hD
 refine⟨λi m σ' H'=>m=n-i/\i<=n/\y6 H1 H'/\(∃as:List Addr,H' D=some (.lst (as.map V.ref))/\Paired (λb y=>H' b=some (g y)) as (ys.take i)/\(∀b∈as,b≠D)/\∀b∈as,H1 b=none)/\∃z,σ'=z::fr.map λj=>(σ[j]?).getD none,
  ⟨n,rfl,aP _,z8 hD _,⟨[],z4,.nil,λ_ h=>(by cases h),λ_ h=>(by cases h)⟩,none,rfl⟩,?_⟩
 rintro i m σ' H' ⟨rfl,hi,sm,⟨as,hl,hP,hne,hnw⟩,z,rfl⟩
 by_cases hlt:i<n
 ·refine .inr ⟨hgo i H' hlt sm,λx H2 yl C₀ s₀ H₀ fp=>?_⟩
  have hyi:ys[i]?=some ys[i]:=ae (by lia)
  obtain⟨e,tn⟩:=turn i H' x H2 _ hlt sm yl hyi
  subst e
  refine⟨_,tn C₀ s₀ H₀ fp,λv H4 ⟨s4,b,hv,hb0,hG⟩=>?_⟩
  subst hv
  have hasl:as.length=i:=by rw[Paired.length hP,bo];lia
  have hD4:=s4 _ _ hl
  have hbD:b≠D:=Ne.symm (y0 hl hb0)
  refine⟨as.map V.ref,n-(i+1),hD4,by rw[aa,hasl];lia,by lia,rfl,hlt,λc o e=>?_,⟨as++[b],by rw[z4,aH];rfl,?_,λc hc=>?_,λc hc=>?_⟩,_,rfl⟩
  ·rw[z6 (y0 e hD)]
   exact s4 _ _ (sm _ _ e)
  ·rw[bJ,hyi]
   refine Paired.snoc (K0 hP λc hc y e=>by rw[z6 (hne c hc)];exact s4 _ _ e) ?_
   rw[z6 hbD]
   exact hG
  ·rcases aF.mp hc with w|w
   ·exact hne c w
   ·rw[ar.mp w];exact hbD
  ·rcases aF.mp hc with w|w
   ·exact hnw c w
   ·rw[ar.mp w];exact sm.free hb0
 ·have e:i=n:=by lia
  subst e
  refine .inl ⟨hstop H' sm,fin D H' as hD sm hl ?_ hnw hne⟩
  rw[bO (by lia)]at hP
  exact hP
abbrev zn3 (H:Hp) (ws:List Addr) (ps:List (Nat×Nat)):Prop:=Paired (λa (x:Nat×Nat)=>H a=some (.tup [.int (x.1:Int),.int (x.2:Int)])) ws ps
theorem zn3.same (h:zn3 H ws ps)(s:y6 H H'):zn3 H' ws ps:=Paired.imp' (λ_ _ e=>s _ _ e) h
theorem zn3.upd (h:zn3 H ws ps)(ha:∀xs,H a≠some (.tup xs)):zn3 (L2.upd H a o) ws ps:=Paired.imp' (λb t e=>by
 rw[z6 (λz=>by subst z;exact ha _ e)];exact e) h
theorem O5 {α β:Type}{F:α->β->Prop}:∀{as cs:List α} {bs ds:List β},Paired F as bs->Paired F cs ds->Paired F (as++cs) (bs++ds)
 | _,_,_,_,.nil,q=>q
 | _,_,_,_,.cons f r,q=>.cons f (O5 r q)
def kR (to:List (Nat×Nat))(bs:List Addr):List (Key×V):=(to.zip bs).map λp=>(Sum.inl (p.1.1:Int),V.ref p.2)
structure Y0 (cS:Addr) (n:Nat) (md:List (List Nat)) (H:Hp) (A:StA) (i:Nat) (s:StS):Prop where
 a:∃dx,H A.a=some (.ins cS dx [("place",.int i),("movers",.ref A.m),("line_to",.ref A.lt),("back_from",.ref A.bf),("waiting",.ref A.w),("looked_at",.int (s.lk:Int))])
 m:H A.m=some (.lst (tI s.mv))
 lt:H A.lt=some (.dK (kI s.to))
 bf:∃bs:List Addr,H A.bf=some (.dK (kR s.to bs))/\Paired (λ(x:Nat×Nat) b=>H b=some (.tup (tI (TM.bk n (md.getD x.2 []))))) s.to bs
 w:∃ws:List Addr,H A.w=some (.lst (ws.map V.ref))/\zn3 H ws s.wt
def E5:List Str:=["place","movers","line_to","back_from","waiting","looked_at"]
theorem zw5 (hd:H d=some u)(s:y6 (upd H d o) H'):y6 H (upd H' d u):=λb v h=>by
 by_cases e:b=d
 ·subst e
  rw[z4,←hd,h]
 ·rw[z6 e]
  exact s _ _ (by rw[z6 e];exact h)
def StS.putM (s:StS)(k:Nat):StS:={ s with mv:=s.mv++[k],wt:=s.wt++s.to.map λx=>(x.1,k) }
def yn5 (cS:Addr):Sp:=λvs H Q _=>∃(A:StA) (n:Nat) (md:List (List Nat)) (i k:Nat) (s:StS),vs=[.ref A.a,.int k]/\Y0 cS n md H A i s/\A.m≠A.w/\s.mv.length<1000000/\s.to.length<=1000000/\s.wt.length<=1000000 /\
 ∀H':Hp,y8 [A.m,A.w] H H'->Y0 cS n md H' A i (s.putM k)->Q .non H'
theorem zf0:x9 ["self","mover"] ["self","mover"] (z9 R8):=scq
theorem ze0 (F:Fun K "put_mover" "Step.put_mover" R8 f fd)(B:Blt mg)(cs:n4 K cS E5):u8 P w K mg base CX0 1 f fd ["self","mover"] (yn5 cS):=by
 refine F.ok zf0 (λvs H Q E h=>?_) (λcdv Ar outer s H vs Q E hr h=>?_)
 ·obtain⟨A,n,md,i,k,s,rfl,_⟩:=h
  rfl
 obtain⟨A,n,md,i,k,s,rfl,⟨⟨dx,ha⟩,hm,hlt,⟨bs,hbf,hbs⟩,⟨ws,hw,hws⟩⟩,hne,hml,htl,hwl,q⟩:=h
 have hz:=V9
 have hwsl:ws.length=s.wt.length:=Paired.length hws
 refine⟨_,y4 (i6 (E4 PySem.F.plainAttrs_list PySem.F.slot_list_append PySem.F.type_list_append X2 (y9 (pv 0) rfl) (z0 (pv 1) z5)))
  (z7 (i6 (E4 PySem.F.plainAttrs_list PySem.F.slot_list_extend PySem.F.type_list_extend zw2 (y9 (pv 0) rfl) (z0 (yq6 (Z6 [1] ["place","mover"] rfl (yq7 (y9 (pv 0) rfl)) (λ_ _ _ _=>C3 (z0 (pv 0) (z0 (pv 1) z5))))) z5)))),?_⟩
 refine⟨_,rfl,A.a,cS,dx,_,_,rfl,ha,cs.cls,cs.no "movers" (by decide),rfl,.inl ⟨rfl,_,SqL.of hm⟩,_,rfl,A.m,_,_,rfl,rfl,hm,by rw[u6];lia,?_⟩
 have am:A.a≠A.m:=i9 ha hm (by intro z;cases z)
 have lm:A.lt≠A.m:=i9 hlt hm (by intro z;cases z)
 have bm:A.bf≠A.m:=i9 hbf hm (by intro z;cases z)
 have nt1:∀xs,H A.m≠some (.tup xs):=λxs z=>by rw[hm]at z;cases z
 have ha1:(upd H A.m (.lst (tI s.mv++[V.int k]))) A.a=some (.ins cS dx [("place",.int i),("movers",.ref A.m),("line_to",.ref A.lt),("back_from",.ref A.bf),("waiting",.ref A.w),("looked_at",.int (s.lk:Int))]):=by rw[z6 am];exact ha
 have hm1:(upd H A.m (.lst (tI s.mv++[V.int k]))) A.m=some (.lst (tI (s.mv++[k]))):=by rw[z4,A4];rfl
 have hlt1:(upd H A.m (.lst (tI s.mv++[V.int k]))) A.lt=some (.dK (kI s.to)):=by rw[z6 lm];exact hlt
 have hbf1:(upd H A.m (.lst (tI s.mv++[V.int k]))) A.bf=some (.dK (kR s.to bs)):=by rw[z6 bm];exact hbf
 have hw1:(upd H A.m (.lst (tI s.mv++[V.int k]))) A.w=some (.lst (ws.map V.ref)):=by rw[z6 (Ne.symm hne)];exact hw
 have hws1:=zn3.upd (o:=.lst (tI s.mv++[V.int k])) hws nt1
 have hbs1:Paired (λ(x:Nat×Nat) b=>(upd H A.m (.lst (tI s.mv++[V.int k]))) b=some (.tup (tI (TM.bk n (md.getD x.2 []))))) s.to bs:=Paired.imp' (λx b e=>by rw[z6 (λz=>by subst z;exact nt1 _ e)];exact e) hbs
 have fr1:y8 [A.m,A.w] H (upd H A.m (.lst (tI s.mv++[V.int k]))):=y8.upd y8.refl (by simp) _
 generalize upd H A.m (.lst (tI s.mv++[V.int k]))=H1 at ha1 hm1 hlt1 hbf1 hw1 hws1 hbs1 fr1 ⊢
 refine⟨_,rfl,A.a,cS,dx,_,_,rfl,ha1,cs.cls,cs.no "waiting" (by decide),rfl,.inl ⟨rfl,_,SqL.of hw1⟩,?_⟩
 refine⟨A.lt,kI s.to,hlt1,_,rfl,A.a,cS,dx,_,_,rfl,ha1,cs.cls,cs.no "line_to" (by decide),rfl,A.lt,_,rfl,hlt1,λob=>?_⟩
 refine yk3 (λ(y:Nat×Nat)=>HO.tup [.int (y.1:Int),.int (y.2:Int)]) (s.to.map λx=>(x.1,k)) (n:=(kI s.to).length) (by rw[aa,zh0]) (by rw[zh0];lia) (λH2 s2=>⟨s2 _ _ z4,ag _⟩) (λj H2 hj s2=>⟨s2 _ _ z4,hj⟩) ?_ ?_
 ·rintro j H2 x H3 y hj s2 ⟨rfl,kk,vv,hk,rfl⟩ hy
  refine⟨rfl,λ_ _ _ _=>?_⟩
  rw[af]at hy
  unfold kI at hk
  rw[af]at hk
  cases e:s.to[j]? with
  | none=>rw[e]at hk;cases hk
  | some p =>
   rw[e]at hk hy
   cases hk
   cases hy
   exact⟨_,rfl,_,rfl,(by show 2<=ge;lia),λr hr'=>⟨z8 hr' _,r,rfl,hr',z4⟩⟩
 ·intro Dl H2 as hD s2 hl2 hP hnw hnD
  have s3:=zw5 hlt1 s2
  have hDl:H1 Dl=none:=by
   cases e:H1 Dl with
   | none=>rfl
   | some u=>exact absurd hD (by rw[z6 (λz=>by subst z;rw[z4]at hD;cases hD),e];intro z;cases z)
  have dne:Dl≠A.lt:=λz=>by subst z;rw[hlt1]at hDl;cases hDl
  refine⟨⟨ob,s2 _ _ z4⟩,?_⟩
  have hl3:(upd H2 A.lt (.dK (kI s.to))) Dl=some (.lst (as.map V.ref)):=by rw[z6 dne];exact hl2
  have hP3:zn3 (upd H2 A.lt (.dK (kI s.to))) as (s.to.map λx=>(x.1,k)):=K0 hP λb hb y e=>by
   rw[z6 (λz=>by
    have:=hnw b hb
    rw[z,z4]at this
    cases this)]
   exact e
  generalize upd H2 A.lt (.dK (kI s.to))=H3 at s3 hl3 hP3 ⊢
  refine⟨A.w,Dl,_,_,rfl,rfl,s3 _ _ hw1,hl3,?_,?_⟩
  ·rw[aa,aa,hwsl,Paired.length hP3,aa]
   lia
  ·have wa:A.a≠A.w:=i9 ha1 hw1 (by intro z;cases z)
   have wm:A.m≠A.w:=hne
   have wl:A.lt≠A.w:=i9 hlt1 hw1 (by intro z;cases z)
   have wb:A.bf≠A.w:=i9 hbf1 hw1 (by intro z;cases z)
   have nt3:∀xs,H3 A.w≠some (.tup xs):=λxs z=>by rw[s3 _ _ hw1]at z;cases z
   refine q _ (y8.upd (y8.trans fr1 (y6.frame s3)) (by simp) _) ⟨⟨dx,by rw[z6 wa];exact s3 _ _ ha1⟩,by rw[z6 wm];exact s3 _ _ hm1,by rw[z6 wl];exact s3 _ _ hlt1,⟨bs,by rw[z6 wb];exact s3 _ _ hbf1,?_⟩,⟨ws++as,by rw[z4,aH],?_⟩⟩
   ·exact Paired.imp' (λx b e=>by
     have e':=s3 _ _ e
     rw[z6 (λz=>by subst z;exact nt3 _ e')];exact e') hbs1
   ·exact O5 ((hws1.same s3).upd nt3) (hP3.upd nt3)
def StS.putP (s:StS)(p k:Nat):StS:={ s with to:=s.to++[(p,k)],wt:=s.wt++s.mv.map λm=>(p,m) }
def xg5 (cS:Addr):Sp:=λvs H Q _=>∃(A:StA) (n:Nat) (md:List (List Nat)) (i p k:Nat) (s:StS) (tr:Addr) (t:List Nat),vs=[.ref A.a,.int p,.int k,.ref tr]/\Y0 cS n md H A i s/\H tr=some (.tup (tI t))/\md.getD k []=t/\TM.IsT n t/\n<=60/\atN s.to p=none/\A.m≠A.w/\A.lt≠A.bf/\s.mv.length<1000000/\s.to.length<1000000/\s.wt.length<=1000000 /\
 ∀H':Hp,y8 [A.lt,A.bf,A.w] H H'->Y0 cS n md H' A i (s.putP p k)->Q .non H'
theorem zf1:x9 ["self","place","line","turning"] ["self","place","line","turning"] (z9 W2):=scq
theorem xq1 {to:List (Nat×Nat)}{bs:List Addr}(h:to.length=bs.length):(kR to bs).length=to.length:=by
 unfold kR
 rw[aa,List.length_zip,←h,Nat.min_self]
theorem ys4:∀{to:List (Nat×Nat)} {bs:List Addr},to.length=bs.length->∀{p:Nat},atN to p=none->V4 (kR to bs) (Sum.inl (p:Int))=none
 | [],[],_,p,_=>rfl
 | x::to,b::bs,hl,p,h=>by
  have hx:¬x.1=p:=λe=>by unfold atN at h;rw[dw (by simpa using e)]at h;cases h
  have h':atN to p=none:=by unfold atN at h ⊢;rwa [dz (by simpa using hx)]at h
  have e:kR (x::to) (b::bs)=(Sum.inl (x.1:Int),V.ref b)::kR to bs:=rfl
  rw[e,i8 (λz=>hx (by have:=Sum.inl.inj z;lia))]
  exact ys4 (by simpa using hl) h'
theorem xl2 {to:List (Nat×Nat)}{bs:List Addr}(hl:to.length=bs.length)(h:atN to p=none):putK (kR to bs) (Sum.inl (p:Int)) (V.ref r)=kR (to++[(p,k)]) (bs++[r]):=by
 have e:=ys4 hl h
 unfold putK
 rw[T7,e]
 show kR to bs++[(Sum.inl (p:Int),V.ref r)]=_
 unfold kR
 rw[List.zip_append hl,aH]
 rfl
theorem zz9 {α β:Type}{F:α->β->Prop}{as:List α}{bs:List β}{a:α}{b:β}(h:Paired F as bs)(f:F a b):Paired F (as++[a]) (bs++[b]):=O5 h (.cons f .nil)
theorem ze1 (F:Fun K "put_place" "Step.put_place" W2 f fd)(B:Blt mg)(cs:n4 K cS E5)(KB:o9 P w K mg base 1 "back" ["one"] (yn4 K)):u8 P w K mg base CX0 2 f fd ["self","place","line","turning"] (xg5 cS):=by
 refine F.ok zf1 (λvs H Q E h=>?_) (λcdv Ar outer sh H vs Q E hr h=>?_)
 ·obtain⟨A,n,md,i,p,k,s,tr,t,rfl,_⟩:=h
  rfl
 obtain⟨A,n,md,i,p,k,s,tr,t,rfl,⟨⟨dx,ha⟩,hm,hlt,⟨bs,hbf,hbs⟩,⟨ws,hw,hws⟩⟩,htr,hmd,hT,hn,hp,hne,hne2,hml,htl,hwl,q⟩:=h
 have hz:=V9
 have hwsl:ws.length=s.wt.length:=Paired.length hws
 have hbsl:s.to.length=bs.length:=Paired.length hbs
 have hu:(Ar.deeper (PyProof.Rows.envOfC "Step.put_place" (z9 W2) sh.heap.objs.size f cdv)).units+1<cLine:=by have:=hr.units;lia
 refine⟨_,y4 (J2 hu (y9 (pv 0) rfl) (pv 1) (pv 2) rfl)
  (y4 (J2 hu (y9 (pv 0) rfl) (pv 1) (p6 KB hr rfl (z0 (pv 3) z5)) rfl)
  (z7 (i6 (E4 PySem.F.plainAttrs_list PySem.F.slot_list_extend PySem.F.type_list_extend zw2 (y9 (pv 0) rfl) (z0 (Z6 [1] ["mover","place"] rfl (W0 (y9 (pv 0) rfl)) (λ_ _ _ _=>C3 (z0 (pv 1) (z0 (pv 0) z5)))) z5))))),?_⟩
 refine⟨_,rfl,_,rfl,A.a,cS,dx,_,_,rfl,ha,cs.cls,cs.no "line_to" (by decide),rfl,_,rfl,A.lt,_,rfl,zm8.k (k:=Sum.inl (p:Int)) hlt (by rw[zh0];lia),?_⟩
 rw[zr1 hp]
 have k1:∀{b:Addr} {o:HO},H b=some o->o≠.dK (kI s.to)->(upd H A.lt (.dK (kI (s.to++[(p,k)])))) b=some o:=λ{b o} h d=>by rw[z6 (i9 h hlt d)];exact h
 have ha1:=k1 ha (by intro z;cases z)
 have hm1:=k1 hm (by intro z;cases z)
 have htr1:=k1 htr (by intro z;cases z)
 have hw1:=k1 hw (by intro z;cases z)
 have hbf1:(upd H A.lt (.dK (kI (s.to++[(p,k)])))) A.bf=some (.dK (kR s.to bs)):=by rw[z6 (Ne.symm hne2)];exact hbf
 have hlt1:(upd H A.lt (.dK (kI (s.to++[(p,k)])))) A.lt=some (.dK (kI (s.to++[(p,k)]))):=z4
 have hws1:zn3 (upd H A.lt (.dK (kI (s.to++[(p,k)])))) ws s.wt:=Paired.imp' (λx b e=>k1 e (by intro z;cases z)) hws
 have hbs1:Paired (λ(x:Nat×Nat) b=>(upd H A.lt (.dK (kI (s.to++[(p,k)])))) b=some (.tup (tI (TM.bk n (md.getD x.2 []))))) s.to bs:=Paired.imp' (λx b e=>k1 e (by intro z;cases z)) hbs
 have fr1:y8 [A.lt,A.bf,A.w] H (upd H A.lt (.dK (kI (s.to++[(p,k)])))):=y8.upd y8.refl (by simp) _
 clear k1
 generalize upd H A.lt (.dK (kI (s.to++[(p,k)])))=H1 at ha1 hm1 htr1 hw1 hbf1 hlt1 hws1 hbs1 fr1 ⊢
 refine⟨_,rfl,tr,n,t,rfl,SqT.of htr1,hT,by lia,λr H2 b hr2 s2 hb hrr=>?_⟩
 have eb:b=TM.bk n t:=hb.uniq hT (TM.bk_back hT)
 subst eb
 have hbf2:=s2 _ _ hbf1
 refine⟨_,rfl,A.a,cS,dx,_,_,rfl,s2 _ _ ha1,cs.cls,cs.no "back_from" (by decide),rfl,_,rfl,A.bf,_,rfl,zm8.k (k:=Sum.inl (p:Int)) hbf2 (by rw[xq1 hbsl];lia),?_⟩
 rw[xl2 (k:=k) hbsl hp]
 have k2:∀{b:Addr} {o:HO},H1 b=some o->b≠A.bf->(upd H2 A.bf (.dK (kR (s.to++[(p,k)]) (bs++[r])))) b=some o:=λ{b o} h d=>by rw[z6 d];exact s2 _ _ h
 have nbf:∀{b:Addr} {o:HO},H1 b=some o->o≠.dK (kR s.to bs)->b≠A.bf:=λ{b o} h d=>i9 h hbf1 d
 have ha3:=k2 ha1 (nbf ha1 (by intro z;cases z))
 have hm3:=k2 hm1 (nbf hm1 (by intro z;cases z))
 have hw3:=k2 hw1 (nbf hw1 (by intro z;cases z))
 have hlt3:=k2 hlt1 hne2
 have hbf3:(upd H2 A.bf (.dK (kR (s.to++[(p,k)]) (bs++[r])))) A.bf=some (.dK (kR (s.to++[(p,k)]) (bs++[r]))):=z4
 have hws3:zn3 (upd H2 A.bf (.dK (kR (s.to++[(p,k)]) (bs++[r])))) ws s.wt:=Paired.imp' (λx b e=>k2 e (nbf e (by intro z;cases z))) hws1
 have hr3:(upd H2 A.bf (.dK (kR (s.to++[(p,k)]) (bs++[r])))) r=some (.tup (tI (TM.bk n t))):=by rw[z6 (i9 hrr hbf2 (by intro z;cases z))];exact hrr
 have hbs3:Paired (λ(x:Nat×Nat) b=>(upd H2 A.bf (.dK (kR (s.to++[(p,k)]) (bs++[r])))) b=some (.tup (tI (TM.bk n (md.getD x.2 []))))) (s.to++[(p,k)]) (bs++[r]) :=
  zz9 (Paired.imp' (λx b e=>k2 e (nbf e (by intro z;cases z))) hbs1) (by show _=some (HO.tup (tI (TM.bk n (md.getD k []))));rw[hmd];exact hr3)
 have fr3:y8 [A.lt,A.bf,A.w] H (upd H2 A.bf (.dK (kR (s.to++[(p,k)]) (bs++[r])))):=y8.upd (y8.trans fr1 (y6.frame s2)) (by simp) _
 clear k2 nbf
 generalize upd H2 A.bf (.dK (kR (s.to++[(p,k)]) (bs++[r])))=H3 at ha3 hm3 hw3 hlt3 hbf3 hws3 hr3 hbs3 fr3 ⊢
 refine⟨_,rfl,A.a,cS,dx,_,_,rfl,ha3,cs.cls,cs.no "waiting" (by decide),rfl,.inl ⟨rfl,_,SqL.of hw3⟩,?_⟩
 refine⟨_,rfl,A.a,cS,dx,_,_,rfl,ha3,cs.cls,cs.no "movers" (by decide),rfl,A.m,rfl,⟨_,SqL.of hm3⟩,?_⟩
 refine yt0 (λ(y:Nat×Nat)=>HO.tup [.int (y.1:Int),.int (y.2:Int)]) (s.mv.map λm=>(p,m)) (SqL.of hm3) (by rw[aa,u6]) (by rw[u6];lia) ?_ ?_
 ·intro j H4 x y hx hy s4 _ _ _ _
  obtain⟨m,hm',rfl⟩:=F9 hx
  rw[af,hm']at hy
  cases hy
  exact⟨_,rfl,_,rfl,(by show 2<=ge;lia),λr' hr'=>⟨z8 hr' _,r',rfl,hr',z4⟩⟩
 ·intro Dl H4 as hD s4 hl4 hP4 hnw
  refine⟨A.w,Dl,_,_,rfl,rfl,s4 _ _ hw3,hl4,?_,?_⟩
  ·rw[aa,aa,hwsl,Paired.length hP4,aa]
   lia
  ·have hw4:=s4 _ _ hw3
   have k4:∀{b:Addr} {o:HO},H4 b=some o->b≠A.w->(upd H4 A.w (.lst (ws.map V.ref++as.map V.ref))) b=some o:=λ{b o} h d=>by rw[z6 d];exact h
   have nw:∀{b:Addr} {o:HO},H4 b=some o->o≠.lst (ws.map V.ref)->b≠A.w:=λ{b o} h d=>i9 h hw4 d
   refine q _ (y8.upd (y8.trans fr3 (y6.frame s4)) (by simp) _) ⟨⟨dx,k4 (s4 _ _ ha3) (nw (s4 _ _ ha3) (by intro z;cases z))⟩,k4 (s4 _ _ hm3) hne,k4 (s4 _ _ hlt3) (nw (s4 _ _ hlt3) (by intro z;cases z)),⟨bs++[r],k4 (s4 _ _ hbf3) (nw (s4 _ _ hbf3) (by intro z;cases z)),Paired.imp' (λx b e=>k4 (s4 _ _ e) (nw (s4 _ _ e) (by intro z;cases z))) hbs3⟩,⟨ws++as,by rw[z4,aH],?_⟩⟩
   exact O5 (Paired.imp' (λx b e=>k4 (s4 _ _ e) (nw (s4 _ _ e) (by intro z;cases z))) hws3) (Paired.imp' (λx b e=>k4 e (nw e (by intro z;cases z))) hP4)
def xg2 (cS:Addr):Sp:=λvs H Q _=>∃(A:StA) (n:Nat) (md:List (List Nat)) (i:Nat) (s:StS),vs=[.ref A.a]/\Y0 cS n md H A i s/\s.lk<=s.wt.length/\s.wt.length<=1000000 /\
 (s.lk=s.wt.length->Q .non H)/\∀(x:Nat×Nat) (r:Addr) (H':Hp),s.wt[s.lk]?=some x->H' r=some (.tup [.int (x.1:Int),.int (x.2:Int)])->y8 [A.a] H H'->Y0 cS n md H' A i { s with lk:=s.lk+1 }->Q (.ref r) H'
theorem ze9:x9 ["self"] ["self"] (z9 R7):=scq
theorem zd9 (F:Fun K "next_pair" "Step.next_pair" R7 f fd)(B:Blt mg)(cs:n4 K cS E5):u8 P w K mg base CX0 1 f fd ["self"] (xg2 cS):=by
 refine F.ok ze9 (λvs H Q E h=>?_) (λcdv Ar outer s H vs Q E hr h=>?_)
 ·obtain⟨A,n,md,i,s,rfl,_⟩:=h
  rfl
 obtain⟨A,n,md,i,s,rfl,st,hlk,hwl,q1,q2⟩:=h
 obtain⟨⟨dx,ha⟩,hm,hlt,⟨bs,hbf,hbs⟩,⟨ws,hw,hws⟩⟩:=id st
 have hz:=V9
 have hwsl:ws.length=s.wt.length:=Paired.length hws
 refine⟨_,y4 (i7 (m9 zj8 (y9 (pv 0) rfl) (v9 q9 rfl B.len Y1 (z0 (y9 (pv 0) rfl) z5)) (l5 _)) (z7 (v1 ym3)) r6)
  (y4 (yv7 (pv 0) w8 xj0)
  (z7 (v1 (k9 p5 (y9 (pv 0) rfl) (e9 ym2 (y9 (pv 0) rfl) w8) (λ_ _=>rfl))))),?_⟩
 refine⟨_,rfl,A.a,cS,dx,_,_,rfl,ha,cs.cls,cs.no "looked_at" (by decide),rfl,_,rfl,A.a,cS,dx,_,_,rfl,ha,cs.cls,cs.no "waiting" (by decide),rfl,A.w,_,rfl,.inl (SqL.of hw),rfl,_,rfl,ye7 (λc=>?_) (λc=>?_)⟩
 ·rw[X6,aa,hwsl]at c
  exact q1 (by have:=of_decide_eq_true c;lia)
 ·rw[X6,aa,hwsl]at c
  have hlt':s.lk<s.wt.length:=by have:=of_decide_eq_false (cQ.mpr c);lia
  refine⟨_,rfl,A.a,cS,dx,_,_,rfl,ha,cs.cls,cs.no "looked_at" (by decide),rfl,_,_,rfl,rfl,dx,_,ha,(by show 6<1000;decide),?_⟩
  have e1:(upd H A.a (.ins cS dx (W1 "looked_at" (V.int ((s.lk:Int)+1)) [("place",.int i),("movers",.ref A.m),("line_to",.ref A.lt),("back_from",.ref A.bf),("waiting",.ref A.w),("looked_at",.int (s.lk:Int))]))) A.a=some (.ins cS dx [("place",.int i),("movers",.ref A.m),("line_to",.ref A.lt),("back_from",.ref A.bf),("waiting",.ref A.w),("looked_at",.int ((s.lk+1:Nat):Int))]):=by
   rw[z4,show((s.lk+1:Nat):Int)=(s.lk:Int)+1 by lia]
   rfl
  have fr:y8 [A.a] H (upd H A.a (.ins cS dx (W1 "looked_at" (V.int ((s.lk:Int)+1)) [("place",.int i),("movers",.ref A.m),("line_to",.ref A.lt),("back_from",.ref A.bf),("waiting",.ref A.w),("looked_at",.int (s.lk:Int))]))):=y8.upd y8.refl (by simp) _
  generalize upd H A.a (.ins cS dx (W1 "looked_at" (V.int ((s.lk:Int)+1)) [("place",.int i),("movers",.ref A.m),("line_to",.ref A.lt),("back_from",.ref A.bf),("waiting",.ref A.w),("looked_at",.int (s.lk:Int))]))=H1 at e1 fr ⊢
  have k:∀{b:Addr} {o:HO},H b=some o->o≠.ins cS dx [("place",.int i),("movers",.ref A.m),("line_to",.ref A.lt),("back_from",.ref A.bf),("waiting",.ref A.w),("looked_at",.int (s.lk:Int))]->H1 b=some o:=λ{b o} h d=>fr b o (by simpa using i9 h ha d) h
  have hx:s.wt[s.lk]?=some s.wt[s.lk]:=ae hlt'
  obtain⟨r,hr1,hr2⟩:=n6 hws s.lk _ hx
  have hw1:=k hw (by intro z;cases z)
  have gi:atI (ws.map V.ref) ((s.lk:Nat):Int)=some (V.ref r):=l9 (by rw[af,hr1];rfl)
  refine⟨_,rfl,A.a,cS,dx,_,_,rfl,e1,cs.cls,cs.no "waiting" (by decide),rfl,_,rfl,A.a,cS,dx,_,_,rfl,e1,cs.cls,cs.no "looked_at" (by decide),rfl,_,_,rfl,rfl,A.w,_,_,_,rfl,rfl,SqL.of hw1,?_,q2 _ r H1 hx (k hr2 (by intro z;cases z)) fr ⟨⟨dx,e1⟩,k hm (by intro z;cases z),k hlt (by intro z;cases z),⟨bs,k hbf (by intro z;cases z),Paired.imp' (λx b e=>k e (by intro z;cases z)) hbs⟩,⟨ws,hw1,Paired.imp' (λx b e=>k e (by intro z;cases z)) hws⟩⟩⟩
  rw[show((s.lk+1:Nat):Int)-1=((s.lk:Nat):Int) by lia]
  exact gi
structure u9 (cC cB cS:Addr) (n:Nat) (H:Hp) (A:ChA) (S:ChS):Prop where
 nd:A.all.Nodup
 c:∃dx,H A.c=some (.ins cC dx [("book",.ref A.b),("steps",.ref A.l)])
 bk:S0 cB H A S
 l:H A.l=some (.lst (A.st.map λs=>V.ref s.a))
 len:A.st.length=n/\S.st.length=n
 st:∀i a s,A.st[i]?=some a->S.st[i]?=some s->Y0 cS n S.md H a i s
def U6:List Str:=["book","steps"]
theorem Y0.same (h:Y0 cS n md H A i s)(k:y6 H H'):Y0 cS n md H' A i s :=
 ⟨h.a.imp λ_ e=>k _ _ e,k _ _ h.m,k _ _ h.lt,h.bf.imp λ_ e=>⟨k _ _ e.1,Paired.imp' (λ_ _ z=>k _ _ z) e.2⟩,h.w.imp λ_ e=>⟨k _ _ e.1,e.2.same k⟩⟩
theorem u9.same (h:u9 cC cB cS n H A S)(k:y6 H H'):u9 cC cB cS n H' A S :=
 ⟨h.nd,h.c.imp λ_ e=>k _ _ e,h.bk.same k,k _ _ h.l,h.len,λi a s ha hs=>(h.st i a s ha hs).same k⟩
def K4 (n:Nat)(md:List (List Nat)):List StS->Nat->List Nat->List Nat->Option (List Nat)
 | [],_,_,acc=>some acc
 | s::r,j,x,acc=>match atN s.to (x.getD j 0) with
  | none=>none
  | some k=>if x.getD j 0=j then K4 n md r (j+1) x acc else K4 n md r (j+1) (TM.beh x (TM.bk n (md.getD k []))) (acc++[k])
structure ChS.Well (n:Nat) (S:ChS):Prop where
 md:∀t∈S.md,TM.IsT n t
 to:∀s∈S.st,∀x∈s.to,x.1<n/\x.2<S.md.length
 mv:∀s∈S.st,∀k∈s.mv,k<S.md.length
theorem R9 {α:Type}{l:List (Nat×α)}{k:α}(h:atN l p=some k):(p,k)∈l:=by
 unfold atN at h
 cases e:l.find? (λx=>decide (x.1=p)) with
 | none=>rw[e]at h;cases h
 | some x =>
  rw[e]at h
  have h1:=List.find?_some e
  have h2:=List.mem_of_find?_eq_some e
  have e1:x.1=p:=by simpa using h1
  have e2:x.2=k:=by simpa using h
  rw[←e1,←e2]
  exact h2
theorem ChS.Well.at {S:ChS}(h:S.Well n)(hk:k<S.md.length):TM.IsT n (S.md.getD k []):=h.md _ (aq (V6 [] hk))
theorem E3 {F:Nat×Nat->Addr->Prop}:∀{to:List (Nat×Nat)} {bs:List Addr},Paired F to bs->∀{p k:Nat},atN to p=some k->∃b,V4 (kR to bs) (Sum.inl (p:Int))=some (V.ref b)/\F (p,k) b
 | _,_,.nil,p,k,h=>by cases h
 | x::to,b::bs,.cons f r,p,k,h=>by
  by_cases hx:x.1=p
  ·have e:atN (x::to) p=some x.2:=by unfold atN;rw[dw (by simpa using hx)];rfl
   rw[e]at h
   have hk:x.2=k:=Option.some.inj h
   refine⟨b,c4 (p:=(Sum.inl (x.1:Int),V.ref b)) (by show(Sum.inl (x.1:Int):Key)=_;rw[hx]),?_⟩
   rw[←hx,←hk]
   exact f
  ·have e:atN (x::to) p=atN to p:=by unfold atN;rw[dz (by simpa using hx)]
   rw[e]at h
   obtain⟨b',h1,h2⟩:=E3 r h
   refine⟨b',?_,h2⟩
   rw[←h1]
   exact i8 (p:=(Sum.inl (x.1:Int),V.ref b)) λz=>hx (by have:=Sum.inl.inj z;lia)
def yn6 (cC cB cS:Addr):Sp:=λvs H Q _=>∃(A:ChA) (S:ChS) (n lv:Nat) (tr:Addr) (x:List Nat),vs=[.ref A.c,.ref tr,.int lv]/\u9 cC cB cS n H A S/\S.Well n/\H tr=some (.tup (tI x))/\TM.IsT n x/\lv<=n/\n<=60 /\
 (K4 n S.md (S.st.drop lv) lv x []=none->∀H':Hp,y6 H H'->Q .non H')/\∀(ls:List Nat) (r:Addr) (H':Hp),K4 n S.md (S.st.drop lv) lv x []=some ls->H r=none->y6 H H'->H' r=some (.lst (tI ls))->Q (.ref r) H'
theorem c7:x9 ["self","turning","level","lines","here","step","to"] ["self","turning","level"] (z9 T4):=scq
theorem yd7 {xs:List V}(hk:k<=xs.length):zg7 xs (some (k:Int)) none=xs.drop k:=by
 unfold zg7
 rw[HT.sIx_none,HT.sIx_nat,fK hk,bO (by rw[bP];exact ag _)]
theorem zk9 (F:Fun K "sifted" "Chain.sifted" T4 f fd)(B:Blt mg)(cc:n4 K cC U6)(cs:n4 K cS E5)(KB:o9 P w K mg base 1 "behind" ["one","other"] (N3 K)):u8 P w K mg base CX0 2 f fd ["self","turning","level"] (yn6 cC cB cS):=by
 refine F.ok c7 (λvs H Q E h=>?_) (λcdv Ar outer sh H vs Q E hr h=>?_)
 ·obtain⟨A,S,n,lv,tr,x,rfl,_⟩:=h
  rfl
 obtain⟨A,S,n,lv,tr,x,rfl,ch,wl,htr,hx,hlv,hn,q1,q2⟩:=h
 have hz:=V9
 have hu:(Ar.deeper (PyProof.Rows.envOfC "Chain.sifted" (z9 T4) sh.heap.objs.size f cdv)).units+1<cLine:=by have:=hr.units;lia
 obtain⟨dx,hc⟩:=ch.c
 refine⟨_,y4 (u4 (i:=3) c7.nd rfl (Or.inl rfl) (c0 z5))
  (y4 (u4 (i:=4) c7.nd rfl (Or.inl rfl) (pv 1))
  (y4 (U1 PassesOwn.never rfl (W0 (O7 F7 (y9 (pv 0) rfl) (N9 (pv 2)) A1)) (o5 (i:=5) c7.nd rfl (Or.inl rfl))
   (y4 (u4 (i:=6) c7.nd rfl (Or.inl rfl) (k9 D6 (pv 4) (y9 (pv 5) rfl) (λ_ _=>rfl)))
   (y4 (i7 (zh8 (K1 hu (pv 6) (y9 (pv 5) rfl))) (z7 (v1 ym3)) r6)
   (z7 (i7 (m9 yq2 (pv 6) (y9 (pv 5) rfl) (l5 _))
    (y4 (i6 (E4 PySem.F.plainAttrs_list PySem.F.slot_list_append PySem.F.type_list_append X2 (pv 3) (z0 (Q3 hu (y9 (pv 5) rfl) (pv 6) (λ_ _=>rfl)) z5)))
    (z7 (u4 (i:=4) c7.nd rfl (Or.inl rfl) (p6 KB hr rfl (z0 (pv 4) (z0 (Q3 hu (y9 (pv 5) rfl) (pv 6) (λ_ _=>rfl)) z5)))))) r6)))))
  (z7 (v1 (pv 3))))),?_⟩
 refine⟨(by show 0<=ge;lia),λl hl=>?_⟩
 have s0:=z8 hl (.lst [])
 have el:(upd H l (.lst [])) l=some (.lst (tI [])):=z4
 generalize upd H l (.lst [])=H1 at s0 el ⊢
 have hstl:(A.st.map λs=>V.ref s.a).length=n:=by rw[aa];exact ch.len.1
 refine⟨_,rfl,_,rfl,A.c,cC,dx,_,_,rfl,s0 _ _ hc,cc.cls,cc.no "steps" (by decide),rfl,_,rfl,_,rfl,A.l,_,rfl,SqL.of (s0 _ _ ch.l),λp hp=>?_⟩
 rw[yd7 (by rw[hstl];exact hlv)]
 have s1:=s0.trans (z8 hp (.lst ((A.st.map λs=>V.ref s.a).drop lv)))
 have ep:(upd H1 p (.lst ((A.st.map λs=>V.ref s.a).drop lv))) p=some (.lst ((A.st.map λs=>V.ref s.a).drop lv)):=z4
 have el1:=z8 hp (.lst ((A.st.map λs=>V.ref s.a).drop lv)) _ _ el
 generalize upd H1 p (.lst ((A.st.map λs=>V.ref s.a).drop lv))=H2 at s1 ep el1 ⊢
 have hpl:p≠l:=λz=>by
  subst z
  rw[el]at hp
  cases hp
 have hplace:∀j,j<n->∃a s,A.st[j]?=some a/\S.st[j]?=some s:=λj hj=>⟨_,_,ae (by rw[ch.len.1];exact hj),ae (by rw[ch.len.2];exact hj)⟩
 refine⟨p,rfl,⟨_,SqL.of ep⟩,L8 (xs:=(A.st.map λs=>V.ref s.a).drop lv) (λi σ Hh=>∃(ls:List Nat) (ha:Addr) (y:List Nat) (v5 v6:Option V),σ=[some (.ref A.c),some (.ref tr),some (.int lv),some (.ref l),some (.ref ha),v5,v6]/\y6 H Hh/\Hh p=some (.lst ((A.st.map λs=>V.ref s.a).drop lv))/\Hh l=some (.lst (tI ls))/\Hh ha=some (.tup (tI y))/\TM.IsT n y/\K4 n S.md (S.st.drop (lv+i)) (lv+i) y ls=K4 n S.md (S.st.drop lv) lv x []/\ls.length<=i)
  ⟨[],tr,x,none,none,rfl,s1,ep,el1,s1 _ _ htr,hx,rfl,ag _⟩ (λi σ Hh _ ⟨_,_,_,_,_,_,_,hpp,_⟩=>SqL.of hpp) ?_ ?_⟩
 ·rintro i v σ Hh hv ⟨ls,ha,y,v5,v6,rfl,ss,hpp,hll,hha,hy,hsf,hls⟩
  rw[cM,af]at hv
  have hj:lv+i<n:=by
   cases e:A.st[lv+i]? with
   | none=>rw[e]at hv;cases hv
   | some a=>have:=(al.mp e).1;rwa [ch.len.1]at this
  obtain⟨a,s,hA,hs⟩:=hplace (lv+i) hj
  rw[hA]at hv
  cases hv
  have st:=(ch.st _ _ _ hA hs).same ss
  obtain⟨dxs,hsa⟩:=st.a
  obtain⟨bs,hbf,hbs⟩:=st.bf
  have hsm:s∈S.st:=aq hs
  have hdrop:S.st.drop (lv+i)=s::S.st.drop (lv+i+1):=by
   have:=cy (l:=S.st) (i:=lv+i) (by rw[ch.len.2];exact hj)
   rw[this]
   congr 1
   exact Option.some.inj ((ae (by rw[ch.len.2];exact hj)).symm.trans hs)
  rw[hdrop,K4]at hsf
  refine⟨_,rfl,_,rfl,a.a,cS,dxs,_,_,rfl,hsa,cs.cls,cs.no "place" (by decide),rfl,ha,_,_,_,rfl,rfl,SqT.of hha,zf5 (hy.get_step hj),?_⟩
  refine⟨_,rfl,_,rfl,a.a,cS,dxs,_,_,rfl,hsa,cs.cls,cs.no "line_to" (by decide),rfl,a.lt,_,rfl,V1.k (k:=Sum.inl ((y.getD (lv+i) 0:Nat):Int)) st.lt,_,rfl,?_⟩
  rw[Q5]
  cases ea:atN s.to (y.getD (lv+i) 0) with
  | none =>
   rw[ea]at hsf
   refine Y2 ?_
   exact q1 hsf.symm Hh ss
  | some k =>
   rw[ea]at hsf
   dsimp only at hsf
   refine g7 ?_
   have hk:k<S.md.length:=(wl.to s hsm _ (R9 ea)).2
   have hkT:=wl.at hk
   refine⟨_,rfl,_,rfl,a.a,cS,dxs,_,_,rfl,hsa,cs.cls,cs.no "place" (by decide),rfl,rfl,_,rfl,?_⟩
   rw[X6]
   by_cases hto:y.getD (lv+i) 0=lv+i
   ·rw[decide_eq_true (by rw[hto])]
    rw[if_pos hto]at hsf
    exact g7 ⟨ls,ha,y,_,_,rfl,ss,hpp,hll,hha,hy,hsf,by lia⟩
   ·rw[decide_eq_false (by lia)]
    rw[if_neg hto]at hsf
    refine Y2 ?_
    have g1:V1 Hh a.lt (kV (Sum.inl ((y.getD (lv+i) 0:Nat):Int))) (some (V.int k)):=by
     have g:=V1.k (k:=Sum.inl ((y.getD (lv+i) 0:Nat):Int)) st.lt
     rwa [Q5,ea]at g
    refine⟨_,rfl,.inl ⟨rfl,_,SqL.of hll⟩,_,rfl,a.a,cS,dxs,_,_,rfl,hsa,cs.cls,cs.no "line_to" (by decide),rfl,_,rfl,a.lt,_,rfl,g1,l,_,_,rfl,rfl,hll,by rw[u6];lia,?_⟩
    have kk:∀{b:Addr} {o:HO},H b=some o->(upd Hh l (.lst (tI ls++[V.int k]))) b=some o:=λ{b o} h=>by rw[z6 (y0 h hl)];exact ss _ _ h
    have ss2:y6 H (upd Hh l (.lst (tI ls++[V.int k]))):=λb o h=>kk h
    have hll2:(upd Hh l (.lst (tI ls++[V.int k]))) l=some (.lst (tI (ls++[k]))):=by rw[z4,A4];rfl
    have hpp2:(upd Hh l (.lst (tI ls++[V.int k]))) p=some (.lst ((A.st.map λs=>V.ref s.a).drop lv)):=by rw[z6 hpl];exact hpp
    have hha2:(upd Hh l (.lst (tI ls++[V.int k]))) ha=some (.tup (tI y)):=by rw[z6 (i9 hha hll (by intro z;cases z))];exact hha
    generalize upd Hh l (.lst (tI ls++[V.int k]))=H4 at ss2 hll2 hpp2 hha2 ⊢
    have st2:=(ch.st _ _ _ hA hs).same ss2
    obtain⟨dxs2,hsa2⟩:=st2.a
    obtain⟨bs2,hbf2,hbs2⟩:=st2.bf
    obtain⟨bb,hv2,hbb⟩:=E3 hbs2 ea
    have g2:V1 H4 a.bf (kV (Sum.inl ((y.getD (lv+i) 0:Nat):Int))) (some (V.ref bb)):=by
     have g:=V1.k (k:=Sum.inl ((y.getD (lv+i) 0:Nat):Int)) hbf2
     rwa [hv2]at g
    refine⟨_,rfl,_,rfl,a.a,cS,dxs2,_,_,rfl,hsa2,cs.cls,cs.no "back_from" (by decide),rfl,_,rfl,a.bf,_,rfl,g2,ha,bb,y,_,rfl,SqT.of hha2,SqT.of hbb,by rw[hy.length];lia,λz hz'=>by rw[hkT.bk.length];exact hy.lt hz',λr H5 hr5 s5 hrr=>?_⟩
    exact⟨ls++[k],r,_,_,_,rfl,ss2.trans s5,s5 _ _ hpp2,s5 _ _ hll2,hrr,hy.beh hkT.bk,hsf,by rw[ah,bI];lia⟩
 ·rintro σ Hh ⟨ls,ha,y,v5,v6,rfl,ss,hpp,hll,hha,hy,hsf,hls⟩
  rw[bP,hstl,show lv+(n-lv)=n by lia,dA (by rw[ch.len.2];exact ag _),K4]at hsf
  exact⟨_,rfl,q2 ls l Hh hsf.symm hl ss hll⟩
def zm5 (cC cB cS:Addr):Sp:=λvs H Q _=>∃(A:ChA) (S:ChS) (n lv:Nat) (tr:Addr) (x:List Nat),vs=[.ref A.c,.ref tr,.int lv]/\u9 cC cB cS n H A S/\S.Well n/\H tr=some (.tup (tI x))/\TM.IsT n x/\lv<=n/\n<=60 /\
 ∀H':Hp,y6 H H'->Q (.bl (K4 n S.md (S.st.drop lv) lv x []).isSome) H'
theorem zr6:x9 ["self","turning","level"] ["self","turning","level"] (z9 M6):=scq
theorem zp8 (F:Fun K "holds" "Chain.holds" M6 f fd)(B:Blt mg)(cc:n4 K cC U6)(MS:Y5 P w K mg base 2 cC "sifted" ["self","turning","level"] (yn6 cC cB cS)):u8 P w K mg base CX0 3 f fd ["self","turning","level"] (zm5 cC cB cS):=by
 refine F.ok zr6 (λvs H Q E h=>?_) (λcdv Ar outer sh H vs Q E hr h=>?_)
 ·obtain⟨A,S,n,lv,tr,x,rfl,_⟩:=h
  rfl
 obtain⟨A,S,n,lv,tr,x,rfl,ch,wl,htr,hx,hlv,hn,q⟩:=h
 obtain⟨dx,hc⟩:=ch.c
 refine⟨_,z7 (v1 (B9 xk6 (Y7 cc.cls MS hr (pv 0) (z0 (pv 1) (z0 (pv 2) z5))) ym3 (l5 _))),?_⟩
 refine⟨_,rfl,A.c,dx,_,rfl,hc,rfl,_,rfl,_,rfl,A,S,n,lv,tr,x,rfl,ch,wl,htr,hx,hlv,hn,λe H' s'=>⟨rfl,?_⟩,λls r H' e hr' s' hrr=>⟨rfl,?_⟩⟩
 ·have:=q H' s'
  rw[e]at this
  exact this
 ·have:=q H' s'
  rw[e]at this
  exact this
theorem ChA.head_ne {A:ChA}(h:A.all.Nodup){i:Nat}{a:StA}(ha:A.st[i]?=some a)(hx:x∈[A.c,A.b,A.ll,A.lm,A.d,A.l])(hy:y∈a.all):x≠y:=by
 unfold ChA.all at h
 exact(bK.mp h).2.2 x hx y (cV.mpr ⟨a.all,ay.mpr ⟨a,aq ha,rfl⟩,hy⟩)
theorem ChA.step_nd {A:ChA}(h:A.all.Nodup){i:Nat}{a:StA}(ha:A.st[i]?=some a):a.all.Nodup:=by
 unfold ChA.all at h
 exact(List.pairwise_flatten.mp (bK.mp h).2.1).1 a.all (ay.mpr ⟨a,aq ha,rfl⟩)
theorem ChA.step_ne {A:ChA}(h:A.all.Nodup){i j:Nat}{a b:StA}(ha:A.st[i]?=some a)(hb:A.st[j]?=some b)(hij:i≠j)(hx:x∈a.all)(hy:y∈b.all):x≠y:=by
 unfold ChA.all at h
 have p:=(List.pairwise_flatten.mp (bK.mp h).2.1).2
 have hai:(A.st.map StA.all)[i]?=some a.all:=by rw[af,ha];rfl
 have hbj:(A.st.map StA.all)[j]?=some b.all:=by rw[af,hb];rfl
 obtain⟨li,ei⟩:=al.mp hai
 obtain⟨lj,ej⟩:=al.mp hbj
 rcases Nat.lt_or_gt_of_ne hij with q|q
 ·have r:=bD.mp p i j li lj q
  rw[ei,ej]at r
  exact r x hx y hy
 ·have r:=bD.mp p j i lj li q
  rw[ei,ej]at r
  exact Ne.symm (r y hy x hx)
theorem ChA.head_nd {A:ChA}(h:A.all.Nodup):[A.c,A.b,A.ll,A.lm,A.d,A.l].Nodup:=by
 unfold ChA.all at h
 exact(bK.mp h).1
theorem Y0.frame {a:StA}(h:Y0 cS n md H a i s)(fr:y8 F H H')(hF:∀x∈F,x∉a.all/\∀xs,H x≠some (.tup xs)):Y0 cS n md H' a i s:=by
 have k:∀{b:Addr} {o:HO},H b=some o->b∈a.all->H' b=some o:=λ{b o} e hb=>fr b o (λz=>(hF b z).1 hb) e
 have kt:∀{b:Addr} {xs:List V},H b=some (.tup xs)->H' b=some (.tup xs):=λ{b xs} e=>fr b _ (λz=>(hF b z).2 xs e) e
 exact⟨h.a.imp λ_ e=>k e (by simp[StA.all]),k h.m (by simp[StA.all]),k h.lt (by simp[StA.all]),h.bf.imp λ_ e=>⟨k e.1 (by simp[StA.all]),Paired.imp' (λ_ _ z=>kt z) e.2⟩,h.w.imp λ_ e=>⟨k e.1 (by simp[StA.all]),Paired.imp' (λ_ _ z=>kt z) e.2⟩⟩
theorem Y0.more {md md':List (List Nat)}{a:StA}{s:StS}(h:Y0 cS n md H a i s)(hm:∀x∈s.to,md'.getD x.2 []=md.getD x.2 []):Y0 cS n md' H a i s:=by
 obtain⟨ha,hm',hlt,⟨bs,hbf,hbs⟩,hw⟩:=h
 refine⟨ha,hm',hlt,⟨bs,hbf,?_⟩,hw⟩
 have all:∀{to:List (Nat×Nat)} {bs:List Addr},(∀x∈to,md'.getD x.2 []=md.getD x.2 [])->Paired (λ(x:Nat×Nat) b=>H b=some (.tup (tI (TM.bk n (md.getD x.2 []))))) to bs->Paired (λ(x:Nat×Nat) b=>H b=some (.tup (tI (TM.bk n (md'.getD x.2 []))))) to bs:=by
  intro to bs hx p
  induction p with
  | nil=>exact .nil
  | cons f _ ih=>exact .cons (by rw[hx _ ax];exact f) (ih λx h=>hx x (av _ h))
 exact all hm hbs
theorem u9.book {A:ChA}{S S':ChS}(h:u9 cC cB cS n H A S)(fr:y8 [A.ll,A.lm,A.d] H H')(bk:S0 cB H' A S')(hst:S'.st=S.st)(hmd:∀s∈S.st,∀x∈s.to,S'.md.getD x.2 []=S.md.getD x.2 []):u9 cC cB cS n H' A S':=by
 obtain⟨las,hll,_⟩:=h.bk.ll
 obtain⟨mas,hlm,_⟩:=h.bk.lm
 have hd:=h.bk.d
 obtain⟨dx,hc⟩:=h.c
 have nd:=ChA.head_nd h.nd
 simp only[aV,aw,aZ,not_or,or_false]at nd
 have nt:∀x∈[A.ll,A.lm,A.d],∀xs,H x≠some (.tup xs):=λx hx xs z=>by
  rcases aw.mp hx with e|hx
  ·rw[e,hll]at z;cases z
  ·rcases aw.mp hx with e|hx
   ·rw[e,hlm]at z;cases z
   ·rw[ar.mp hx,hd]at z;cases z
 refine⟨h.nd,⟨dx,fr _ _ (λz=>by
   rcases aw.mp z with e|z
   ·exact i9 hc hll (by intro q;cases q) e
   ·rcases aw.mp z with e|z
    ·exact i9 hc hlm (by intro q;cases q) e
    ·exact i9 hc hd (by intro q;cases q) (ar.mp z)) hc⟩,bk,fr _ _ ?_ h.l,⟨h.len.1,by rw[hst];exact h.len.2⟩,λi a s ha hs=>?_⟩
 ·intro z
  rcases aw.mp z with e|z
  ·exact nd.2.2.1.2.2 e.symm
  ·rcases aw.mp z with e|z
   ·exact nd.2.2.2.1.2 e.symm
   ·exact nd.2.2.2.2.1 (ar.mp z).symm
 ·rw[hst]at hs
  refine((h.st i a s ha hs).more (hmd s (aq hs))).frame fr λx hx=>⟨λhy=>?_,nt x hx⟩
  refine ChA.head_ne h.nd ha (x:=x) (y:=x) ?_ hy rfl
  simp at hx ⊢
  rcases hx with e|e|e <;> simp[e]
theorem u9.step {A:ChA}{S:ChS}{aj:StA}(h:u9 cC cB cS n H A S)(ha:A.st[j]?=some aj)(hF:∀x∈F,x∈aj.all/\∀xs,H x≠some (.tup xs))(fr:y8 F H H')(st:Y0 cS n S.md H' aj j s'):u9 cC cB cS n H' A { S with st:=S.st.set j s' }:=by
 have kh:∀{b:Addr} {o:HO},H b=some o->b∈[A.c,A.b,A.ll,A.lm,A.d,A.l]->H' b=some o:=λ{b o} e hb=>fr b o (λz=>ChA.head_ne h.nd ha hb (hF b z).1 rfl) e
 have kt:∀{b:Addr} {xs:List V},H b=some (.tup xs)->H' b=some (.tup xs):=λ{b xs} e=>fr b _ (λz=>(hF b z).2 xs e) e
 obtain⟨dx,hc⟩:=h.c
 refine⟨h.nd,⟨dx,kh hc (by simp)⟩,⟨h.bk.b.imp λ_ e=>kh e (by simp),h.bk.ll.imp λ_ e=>⟨kh e.1 (by simp),Paired.imp' (λ_ _ z=>kt z) e.2⟩,h.bk.lm.imp λ_ e=>⟨kh e.1 (by simp),Paired.imp' (λ_ _ z=>kt z) e.2⟩,kh h.bk.d (by simp),h.bk.len⟩,kh h.l (by simp),⟨h.len.1,by show(S.st.set j s').length=n;rw[bV];exact h.len.2⟩,λi a s hi hs=>?_⟩
 have hs:(S.st.set j s')[i]?=some s:=hs
 by_cases e:i=j
 ·subst e
  rw[ha]at hi
  cases hi
  rw[cw (by rw[h.len.2,←h.len.1];exact(al.mp ha).1)]at hs
  cases hs
  exact st
 ·rw[bY (Ne.symm e)]at hs
  exact(h.st i a s hi hs).frame fr λx hx=>⟨λhy=>ChA.step_ne h.nd hi ha e hy (hF x hx).1 rfl,(hF x hx).2⟩
structure ChS.Fine (n:Nat) (S:ChS):Prop where
 wl:S.Well n
 md0:S.md.getD 0 []=List.range n
 pos:0<S.md.length
 lnl:S.ln.length=S.md.length
def ChS.atS (S:ChS)(j:Nat):StS:=S.st.getD j ⟨[],[],[],0⟩
def ChS.found (n:Nat)(S:ChS)(j p m:Nat):ChS×Bool :=
 let s:=S.atS j
 let k:=(atN s.to p).getD 0
 let t:=TM.beh (S.md.getD k []) (S.md.getD m [])
 match atN s.to (t.getD j 0) with
 | none=>({ (S.putB k m).2 with st:=S.st.set j (s.putP (t.getD j 0) (S.putB k m).1) },false)
 | some k2=>if (K4 n S.md (S.st.drop (j+1)) (j+1) (TM.beh t (TM.bk n (S.md.getD k2 []))) []).isSome then(S,false)
  else
   let S1:=(S.putB k m).2
   let S2:=(S1.putK n k2).2
   let S3:=(S2.putB (S.putB k m).1 (S1.putK n k2).1).2
   ({ S3 with st:=S.st.set (j+1) ((S.atS (j+1)).putM (S2.putB (S.putB k m).1 (S1.putK n k2).1).1) },true)
structure M5 (n:Nat) (S S':ChS) (k:Nat) (t:List Nat):Prop where
 st:S'.st=S.st
 md:∃l,S'.md=S.md++l
 fine:S'.Fine n
 lt:k<S'.md.length
 at':S'.md.getD k []=t
 len:S'.ln.length<=S.ln.length+1
theorem d6 {α:Type}{l m:List α}{d:α}(h:i<l.length):(l++m).getD i d=l.getD i d:=by
 rw[au,au,aN h]
theorem ChS.Fine.put {S:ChS}(f:S.Fine n)(ht:TM.IsT n t):M5 n S (S.put l t) S.ln.length t:=by
 have el:(S.put l t).md=S.md++[t]:=rfl
 refine⟨rfl,⟨[t],rfl⟩,⟨⟨λx hx=>?_,λs hs x hx=>?_,λs hs k hk=>?_⟩,?_,?_,?_⟩,?_,?_,?_⟩
 ·rw[el]at hx
  rcases aF.mp hx with h|h
  ·exact f.wl.md x h
  ·rw[ar.mp h];exact ht
 ·have:=f.wl.to s hs x hx
  rw[el,ah]
  exact⟨this.1,by lia⟩
 ·have:=f.wl.mv s hs k hk
  rw[el,ah]
  lia
 ·rw[el,d6 f.pos];exact f.md0
 ·rw[el,ah];have:=f.pos;lia
 ·show(S.ln++[l]).length=(S.md++[t]).length
  rw[ah,ah,f.lnl]
  rfl
 ·rw[el,ah,f.lnl]
  show S.md.length<S.md.length+1
  lia
 ·rw[el,f.lnl,au,aX (ag _),cX]
  rfl
 ·show(S.ln++[l]).length<=_
  rw[ah]
  exact ag _
theorem M5.refl {S:ChS}(f:S.Fine n)(hk:k<S.md.length):M5 n S S k (S.md.getD k []):=⟨rfl,⟨[],(bF _).symm⟩,f,hk,rfl,bU _⟩
theorem ChS.Fine.putB {S:ChS}(f:S.Fine n)(hi:i<S.md.length)(hj:j<S.md.length):M5 n S (S.putB i j).2 (S.putB i j).1 (TM.beh (S.md.getD i []) (S.md.getD j [])):=by
 have ti:=f.wl.at hi
 have tj:=f.wl.at hj
 unfold ChS.putB
 by_cases e1:i=0
 ·rw[if_pos e1]
  have r:=M5.refl f hj
  rw[e1,f.md0,TM.still_beh tj]
  exact r
 ·rw[if_neg e1]
  by_cases e2:j=0
  ·rw[if_pos e2]
   have r:=M5.refl f hi
   rw[e2,f.md0,TM.beh_still ti]
   exact r
  ·rw[if_neg e2]
   exact f.put (ti.beh tj)
def yw9 (n:Nat)(S:ChS)(i:Nat):TM.Ln->List Nat->Prop
 | .still,t=>t=List.range n
 | .told k,t=>t=S.src k
 | .back a,t=>a<i/\t=TM.bk n (S.md.getD a [])
 | .behind a b,t=>a<i/\b<i/\t=TM.beh (S.md.getD a []) (S.md.getD b [])
def ChS.Mks (n:Nat)(S:ChS):Prop:=∀(i:Nat) (l:TM.Ln) (t:List Nat),S.ln[i]?=some l->S.md[i]?=some t->yw9 n S i l t
theorem yw9.more {S S':ChS}(h:yw9 n S i l t)(hi:i<=S.md.length)(hs:S'.src=S.src)(hm:∃m,S'.md=S.md++m):yw9 n S' i l t:=by
 obtain⟨m,hm⟩:=hm
 cases l with
 | still=>exact h
 | told k=>exact h.trans (by rw[hs])
 | back a=>exact⟨h.1,by rw[hm,d6 (aR h.1 hi)];exact h.2⟩
 | behind a b=>exact⟨h.1,h.2.1,by rw[hm,d6 (aR h.1 hi),d6 (aR h.2.1 hi)];exact h.2.2⟩
theorem ChS.Mks.put {S:ChS}(h:S.Mks n)(f:S.ln.length=S.md.length)(hl:yw9 n S S.md.length l t):(S.put l t).Mks n:=by
 intro i l' t' h1 h2
 have h1:(S.ln++[l])[i]?=some l':=h1
 have h2:(S.md++[t])[i]?=some t':=h2
 by_cases c:i<S.md.length
 ·rw[aN (by lia)]at h1
  rw[aN c]at h2
  exact(h i l' t' h1 h2).more (bA c) rfl ⟨[t],rfl⟩
 ·have hi:i<(S.md++[t]).length:=(al.mp h2).1
  rw[ah,bI]at hi
  have e:i=S.md.length:=by lia
  subst e
  rw[aX (by lia),show S.md.length-S.ln.length=0 by lia]at h1
  rw[aX (ag _),cX]at h2
  cases h1
  cases h2
  exact hl.more (ag _) rfl ⟨[t],rfl⟩
structure ChS.Backs (n:Nat) (S:ChS):Prop where
 bk:∀i k,atN S.bl i=some k->i<S.md.length/\k<S.md.length/\S.md.getD k []=TM.bk n (S.md.getD i [])
 mks:S.Mks n
theorem ChS.Backs.of {S S':ChS}(b:S.Backs n)(hl:S'.ln=S.ln)(hm:S'.md=S.md)(hb:S'.bl=S.bl)(hs:S'.src=S.src):S'.Backs n:=by
 refine⟨λi k h=>?_,λi l t h1 h2=>?_⟩
 ·rw[hb]at h
  rw[hm]
  exact b.bk i k h
 ·rw[hl]at h1
  rw[hm]at h2
  exact(b.mks i l t h1 h2).more (bA (al.mp h2).1) hs ⟨[],by rw[hm,bF]⟩
theorem ChS.putB_src {S:ChS}(i j:Nat):(S.putB i j).2.src=S.src:=by
 unfold ChS.putB
 by_cases e1:i=0
 ·rw[if_pos e1]
 ·rw[if_neg e1]
  by_cases e2:j=0
  ·rw[if_pos e2]
  ·rw[if_neg e2];rfl
theorem ChS.putK_src {S:ChS}(n i:Nat):(S.putK n i).2.src=S.src:=by
 unfold ChS.putK
 cases e:atN S.bl i with
 | some k=>rfl
 | none=>rfl
theorem ChS.Backs.putB {S:ChS}(b:S.Backs n)(f:S.ln.length=S.md.length)(hk:k<S.md.length)(hm:m<S.md.length):(S.putB k m).2.Backs n/\(S.putB k m).2.bl=S.bl:=by
 unfold ChS.putB
 by_cases e1:k=0
 ·rw[if_pos e1];exact⟨b,rfl⟩
 ·rw[if_neg e1]
  by_cases e2:m=0
  ·rw[if_pos e2];exact⟨b,rfl⟩
  ·rw[if_neg e2]
   refine⟨⟨λi' k' h=>?_,b.mks.put f ⟨hk,hm,rfl⟩⟩,rfl⟩
   obtain⟨h1,h2,h3⟩:=b.bk i' k' h
   have hmd':(S.put (.behind k m) (TM.beh (S.md.getD k []) (S.md.getD m []))).md=S.md++[TM.beh (S.md.getD k []) (S.md.getD m [])]:=rfl
   refine⟨by rw[hmd',ah];lia,by rw[hmd',ah];lia,?_⟩
   rw[hmd',d6 h2,d6 h1,h3]
theorem ChS.Fine.putK {S:ChS}(f:S.Fine n)(b:S.Backs n)(hi:i<S.md.length):M5 n S (S.putK n i).2 (S.putK n i).1 (TM.bk n (S.md.getD i []))/\(S.putK n i).2.Backs n:=by
 unfold ChS.putK
 cases e:atN S.bl i with
 | some k =>
  obtain⟨h1,h2,h3⟩:=b.bk i k e
  rw[←h3]
  exact⟨M5.refl f h2,b⟩
 | none =>
  have m:=f.put (l:=.back i) (f.wl.at hi).bk
  have mks:=b.mks.put f.lnl (l:=.back i) (t:=TM.bk n (S.md.getD i [])) ⟨hi,rfl⟩
  refine⟨⟨m.st,m.md,⟨⟨m.fine.wl.md,m.fine.wl.to,m.fine.wl.mv⟩,m.fine.md0,m.fine.pos,m.fine.lnl⟩,m.lt,m.at',m.len⟩,⟨λi' k' h=>?_,mks⟩⟩
  have h:atN (S.bl++[(i,S.ln.length)]) i'=some k':=h
  have hmd:(S.put (.back i) (TM.bk n (S.md.getD i []))).md=S.md++[TM.bk n (S.md.getD i [])]:=rfl
  show i'<(S.put (.back i) (TM.bk n (S.md.getD i []))).md.length/\k'<(S.put (.back i) (TM.bk n (S.md.getD i []))).md.length/\(S.put (.back i) (TM.bk n (S.md.getD i []))).md.getD k' []=TM.bk n ((S.put (.back i) (TM.bk n (S.md.getD i []))).md.getD i' [])
  by_cases ei:i'=i
  ·subst ei
   rw[zn4 e]at h
   cases h
   refine⟨by rw[hmd,ah];lia,m.lt,?_⟩
   rw[m.at',hmd,d6 hi]
  ·have h':atN S.bl i'=some k':=by
    unfold atN at h ⊢
    rw[eg]at h
    cases q:S.bl.find? (λx=>decide (x.1=i')) with
    | some x=>rw[q]at h;exact h
    | none =>
     rw[q]at h
     simp[Ne.symm ei]at h
   obtain⟨h1,h2,h3⟩:=b.bk i' k' h'
   refine⟨by rw[hmd,ah];lia,by rw[hmd,ah];lia,?_⟩
   rw[hmd,d6 h2,d6 h1,h3]
structure ChS.Few (S:ChS):Prop where
 ln:S.ln.length<9999000
 bl:S.bl.length<9999000
 st:∀s∈S.st,s.mv.length<100000/\s.to.length<=60/\s.wt.length<=900000
def yr4 (cC cB cS:Addr):Sp:=λvs H Q _=>∃(A:ChA) (S:ChS) (n j p m k:Nat),vs=[.ref A.c,.int j,.int p,.int m]/\u9 cC cB cS n H A S/\S.Fine n/\S.Backs n/\S.Few/\n<=60/\j<n/\atN (S.atS j).to p=some k/\m<S.md.length /\
 ∀H':Hp,y8 A.all H H'->u9 cC cB cS n H' A (S.found n j p m).1->Q (.bl (S.found n j p m).2) H'
theorem m7:x9 ["self","level","place","mover","step","line","made","to","ahead"] ["self","level","place","mover"] (z9 Z5):=scq
theorem ChS.atS_of {S:ChS}(h:S.st[j]?=some s):S.atS j=s:=by unfold ChS.atS;rw[au,h];rfl
theorem y8.all {A:ChA}(h:y8 F H H')(hF:∀x∈F,x∈[A.c,A.b,A.ll,A.lm,A.d,A.l]):y8 A.all H H':=h.more λx hx=>by unfold ChA.all;exact aJ _ (hF x hx)
theorem y8.allS {A:ChA}{j:Nat}{a:StA}(h:y8 F H H')(ha:A.st[j]?=some a)(hF:∀x∈F,x∈a.all):y8 A.all H H':=h.more λx hx=>by
 unfold ChA.all
 exact aG _ (cV.mpr ⟨a.all,ay.mpr ⟨a,aq ha,rfl⟩,hF x hx⟩)
theorem D8 (F:Fun K "found_mover" "Chain.found_mover" Z5 f fd)(B:Blt mg)(cc:n4 K cC U6)(cb:n4 K cB zc3)(cs:n4 K cS E5)(KB:o9 P w K mg base 1 "behind" ["one","other"] (N3 K))
  (MPP:Y5 P w K mg base 2 cS "put_place" ["self","place","line","turning"] (xg5 cS)) (MPB:Y5 P w K mg base 2 cB "put_behind" ["self","one","other"] (xg3 cB)) (MPK:Y5 P w K mg base 2 cB "put_back" ["self","one"] (xg4 cB)) (MPM:Y5 P w K mg base 1 cS "put_mover" ["self","mover"] (yn5 cS)) (MH:Y5 P w K mg base 3 cC "holds" ["self","turning","level"] (zm5 cC cB cS)):u8 P w K mg base CX0 4 f fd ["self","level","place","mover"] (yr4 cC cB cS):=by
 refine F.ok m7 (λvs H Q E h=>?_) (λcdv Ar outer sh H vs Q E hr h=>?_)
 ·obtain⟨A,S,n,j,p,m,k,rfl,_⟩:=h
  rfl
 obtain⟨A,S,n,j,p,m,k,rfl,ch,fn,bks,few,hn,hj,hp,hm,q⟩:=h
 have hz:=V9
 have hu:(Ar.deeper (PyProof.Rows.envOfC "Chain.found_mover" (z9 Z5) sh.heap.objs.size f cdv)).units+1<cLine:=by have:=hr.units;lia
 refine⟨_,y4 (u4 (i:=4) m7.nd rfl (Or.inl rfl) (k9 p5 (y9 (pv 0) rfl) (pv 1) (λ_ _=>rfl)))
  (y4 (u4 (i:=5) m7.nd rfl (Or.inl rfl) (Q3 hu (y9 (pv 4) rfl) (pv 2) (λ_ _=>rfl)))
  (y4 (u4 (i:=6) m7.nd rfl (Or.inl rfl) (p6 KB hr rfl (z0 (k9 p5 (y9 (y9 (pv 0) rfl) rfl) (pv 5) (λ_ _=>rfl)) (z0 (k9 p5 (y9 (y9 (pv 0) rfl) rfl) (pv 3) (λ_ _=>rfl)) z5))))
  (y4 (u4 (i:=7) m7.nd rfl (Or.inl rfl) (k9 D6 (pv 6) (pv 1) (λ_ _=>rfl)))
  (y4 (i7 (zh8 (K1 hu (pv 7) (y9 (pv 4) rfl)))
   (y4 (i6 (Y7 cs.cls MPP hr (pv 4) (z0 (pv 7) (z0 (Y7 cb.cls MPB hr (y9 (pv 0) rfl) (z0 (pv 5) (z0 (pv 3) z5))) (z0 (pv 6) z5))))) (z7 (v1 W4))) r6)
  (y4 (i7 (W7 (Y7 cc.cls MH hr (pv 0) (z0 (p6 KB hr rfl (z0 (pv 6) (z0 (Q3 hu (y9 (pv 4) rfl) (pv 7) (λ_ _=>rfl)) z5))) (z0 (e9 O3 (pv 1) w8) z5)))) (z7 (v1 W4)) r6)
  (y4 (u4 (i:=8) m7.nd rfl (Or.inl rfl) (Y7 cb.cls MPB hr (y9 (pv 0) rfl) (z0 (pv 5) (z0 (pv 3) z5))))
  (y4 (i6 (Y7 cs.cls MPM hr (k9 p5 (y9 (pv 0) rfl) (e9 O3 (pv 1) w8) (λ_ _=>rfl)) (z0 (Y7 cb.cls MPB hr (y9 (pv 0) rfl) (z0 (pv 8) (z0 (Y7 cb.cls MPK hr (y9 (pv 0) rfl) (z0 (Q3 hu (y9 (pv 4) rfl) (pv 7) (λ_ _=>rfl)) z5)) z5))) z5)))
  (z7 (v1 W4))))))))),?_⟩
 obtain⟨dxc,hc⟩:=ch.c
 obtain⟨dxb,hb⟩:=ch.bk.b
 obtain⟨mas,hlm,hmd⟩:=ch.bk.lm
 obtain⟨a,hAj⟩:∃a,A.st[j]?=some a:=⟨_,ae (by rw[ch.len.1];exact hj)⟩
 obtain⟨s,hs⟩:∃s,S.st[j]?=some s:=⟨_,ae (by rw[ch.len.2];exact hj)⟩
 have hsm:s∈S.st:=aq hs
 rw[ChS.atS_of hs]at hp
 have st:=ch.st j a s hAj hs
 obtain⟨dxs,hsa⟩:=st.a
 have hk:k<S.md.length:=(fn.wl.to s hsm _ (R9 hp)).2
 have tk:=fn.wl.at hk
 have tm:=fn.wl.at hm
 obtain⟨ak,hak,htk⟩:=n6 hmd k _ (V6 [] hk)
 obtain⟨am,ham,htm⟩:=n6 hmd m _ (V6 [] hm)
 have gk:atI (mas.map V.ref) ((k:Nat):Int)=some (V.ref ak):=l9 (by rw[af,hak];rfl)
 have gm:atI (mas.map V.ref) ((m:Nat):Int)=some (V.ref am):=l9 (by rw[af,ham];rfl)
 have ga:atI (A.st.map λs=>V.ref s.a) ((j:Nat):Int)=some (V.ref a.a):=l9 (by rw[af,hAj];rfl)
 have g1:V1 H a.lt (kV (Sum.inl (p:Int))) (some (V.int k)):=by
  have g:=V1.k (k:=Sum.inl (p:Int)) st.lt
  rwa [Q5,hp]at g
 refine⟨_,rfl,A.c,cC,dxc,_,_,rfl,hc,cc.cls,cc.no "steps" (by decide),rfl,_,rfl,A.l,_,_,_,rfl,rfl,SqL.of ch.l,ga,?_⟩
 refine⟨_,rfl,a.a,cS,dxs,_,_,rfl,hsa,cs.cls,cs.no "line_to" (by decide),rfl,_,rfl,a.lt,_,rfl,g1,?_⟩
 refine⟨_,rfl,A.c,cC,dxc,_,_,rfl,hc,cc.cls,cc.no "book" (by decide),rfl,A.b,cB,dxb,_,_,rfl,hb,cb.cls,cb.no "made" (by decide),rfl,_,rfl,A.lm,_,_,_,rfl,rfl,SqL.of hlm,gk,_,rfl,A.c,cC,dxc,_,_,rfl,hc,cc.cls,cc.no "book" (by decide),rfl,A.b,cB,dxb,_,_,rfl,hb,cb.cls,cb.no "made" (by decide),rfl,_,rfl,A.lm,_,_,_,rfl,rfl,SqL.of hlm,gm,ak,am,_,_,rfl,SqT.of htk,SqT.of htm,by rw[tk.length];lia,λx hx=>by rw[tm.length];exact tk.lt hx,λtr H1 htr0 s1 htr=>?_⟩
 have tT:TM.IsT n (TM.beh (S.md.getD k []) (S.md.getD m [])):=tk.beh tm
 have htr:H1 tr=some (.tup (tI (TM.beh (S.md.getD k []) (S.md.getD m [])))):=htr
 obtain⟨R,ef⟩:∃R,R=S.found n j p m:=⟨_,rfl⟩
 rw[←ef]at q
 unfold ChS.found at ef
 simp only[ChS.atS_of hs,hp,dC]at ef
 have mb:=fn.putB hk hm
 have ndh:=ChA.head_nd ch.nd
 simp only[aV,aw,aZ,not_or,or_false]at ndh
 have lne:A.ll≠A.lm:=ndh.2.2.1.1
 have nda:=ChA.step_nd ch.nd hAj
 simp only[StA.all,aV,aw,aZ,not_or,or_false]at nda
 have mw:a.m≠a.w:=nda.2.1.2.2
 have ltbf:a.lt≠a.bf:=nda.2.2.1.1
 have fw:=few.st s hsm
 have few1:=few.ln
 have few2:=few.bl
 have ch1:=ch.same s1
 generalize htt:TM.beh (S.md.getD k []) (S.md.getD m [])=t at tT htr ef mb
 refine⟨_,rfl,_,rfl,tr,_,_,_,rfl,rfl,SqT.of htr,zf5 (tT.get_step hj),?_⟩
 refine⟨_,rfl,_,rfl,a.a,cS,dxs,_,_,rfl,s1 _ _ hsa,cs.cls,cs.no "line_to" (by decide),rfl,a.lt,_,rfl,V1.k (k:=Sum.inl ((t.getD j 0:Nat):Int)) (s1 _ _ st.lt),_,rfl,?_⟩
 rw[Q5]
 have mdS:∀(S':ChS),(∃l,S'.md=S.md++l)->∀s∈S.st,∀x∈s.to,S'.md.getD x.2 []=S.md.getD x.2 []:=λS' ⟨l,e⟩ s hs x hx=>by rw[e,d6 (fn.wl.to s hs x hx).2]
 cases ea:atN s.to (t.getD j 0) with
 | none =>
  rw[ea]at ef
  dsimp only at ef
  rw[ef]at q
  refine Y2 ?_
  refine⟨_,rfl,a.a,dxs,_,rfl,s1 _ _ hsa,rfl,_,rfl,_,rfl,A.c,cC,dxc,_,_,rfl,s1 _ _ hc,cc.cls,cc.no "book" (by decide),rfl,A.b,dxb,_,rfl,s1 _ _ hb,rfl,_,rfl,_,rfl,A,S,n,k,m,rfl,ch1.bk,lne,hk,hm,fn.wl.md,hn,by lia,λH2 fr2 bk2=>?_⟩
  have ch2:u9 cC cB cS n H2 A (S.putB k m).2:=ch1.book (fr2.more λx hx=>by simp at hx ⊢;rcases hx with e|e <;> simp[e]) bk2 mb.st (mdS _ mb.md)
  have hs2:(S.putB k m).2.st[j]?=some s:=by rw[mb.st];exact hs
  have st2:=ch2.st j a s hAj hs2
  have htr2:H2 tr=some (.tup (tI t)):=fr2 _ _ (λz=>by
   obtain⟨las,hll1,_⟩:=ch1.bk.ll
   obtain⟨mas1,hlm1,_⟩:=ch1.bk.lm
   rcases aw.mp z with e|z
   ·exact i9 htr hll1 (by intro q;cases q) e
   ·exact i9 htr hlm1 (by intro q;cases q) (ar.mp z)) htr
  refine⟨_,rfl,a,n,(S.putB k m).2.md,j,t.getD j 0,(S.putB k m).1,s,tr,t,rfl,st2,htr2,mb.at',tT,hn,ea,mw,ltbf,by lia,by lia,by lia,λH3 fr3 st3=>?_⟩
  have nt:∀x∈[a.lt,a.bf,a.w],x∈a.all/\∀xs,H2 x≠some (.tup xs):=λx hx=>by
   obtain⟨bs2,hbf2,_⟩:=st2.bf
   obtain⟨ws2,hw2,_⟩:=st2.w
   rcases aw.mp hx with e|hx
   ·rw[e];exact⟨by simp[StA.all],λxs z=>by rw[st2.lt]at z;cases z⟩
   ·rcases aw.mp hx with e|hx
    ·rw[e];exact⟨by simp[StA.all],λxs z=>by rw[hbf2]at z;cases z⟩
    ·rw[ar.mp hx];exact⟨by simp[StA.all],λxs z=>by rw[hw2]at z;cases z⟩
  have ch3:=ch2.step hAj nt fr3 st3
  rw[mb.st]at ch3
  refine q H3 ?_ ch3
  exact y8.trans (y6.frame s1) (y8.trans (fr2.all λx hx=>by simp at hx ⊢;rcases hx with e|e <;> simp[e]) (fr3.allS hAj λx hx=>(nt x hx).1))
 | some k2 =>
  rw[ea]at ef
  dsimp only at ef
  refine g7 ?_
  have hk2:k2<S.md.length:=(fn.wl.to s hsm _ (R9 ea)).2
  have tk2:=fn.wl.at hk2
  obtain⟨bs1,hbf1,hbs1⟩:=(ch1.st j a s hAj hs).bf
  obtain⟨bb,hv2,hbb⟩:=E3 hbs1 ea
  have g2:V1 H1 a.bf (kV (Sum.inl ((t.getD j 0:Nat):Int))) (some (V.ref bb)):=by
   have g:=V1.k (k:=Sum.inl ((t.getD j 0:Nat):Int)) hbf1
   rwa [hv2]at g
  refine⟨_,rfl,A.c,dxc,_,rfl,s1 _ _ hc,rfl,_,rfl,_,rfl,a.a,cS,dxs,_,_,rfl,s1 _ _ hsa,cs.cls,cs.no "back_from" (by decide),rfl,_,rfl,a.bf,_,rfl,g2,tr,bb,t,_,rfl,SqT.of htr,SqT.of hbb,by rw[tT.length];lia,λx hx=>by rw[tk2.bk.length];exact tT.lt hx,λxr H2 hxr0 s2 hxr=>?_⟩
  refine⟨_,rfl,_,_,rfl,rfl,A,S,n,j+1,xr,TM.beh t (TM.bk n (S.md.getD k2 [])),?_,ch1.same s2,fn.wl,hxr,tT.beh tk2.bk,by lia,hn,λH3 s3=>?_⟩
  ·show [V.ref A.c,V.ref xr,V.int ((j:Int)+1)]=_
   rw[show((j+1:Nat):Int)=(j:Int)+1 by lia]
  refine⟨_,rfl,?_⟩
  have ch3:=(ch1.same s2).same s3
  have s03:=s1.trans (s2.trans s3)
  cases hi:(K4 n S.md (S.st.drop (j+1)) (j+1) (TM.beh t (TM.bk n (S.md.getD k2 []))) []).isSome with
  | true =>
   rw[hi,if_pos rfl]at ef
   rw[ef]at q
   exact Y2 (q H3 (y6.frame s03) ch3)
  | false =>
   rw[hi,if_neg (by decide)]at ef
   rw[ef]at q
   refine g7 ?_
   have hj1:j+1<n:=by
    rcases dH (j+1) n with h|h
    ·exact h
    ·rw[dA (by rw[ch.len.2];exact h),K4]at hi
     cases hi
   obtain⟨a1,hA1⟩:∃a,A.st[j+1]?=some a:=⟨_,ae (by rw[ch.len.1];exact hj1)⟩
   obtain⟨s',hs'⟩:∃s,S.st[j+1]?=some s:=⟨_,ae (by rw[ch.len.2];exact hj1)⟩
   rw[ChS.atS_of hs']at q
   have hsm':s'∈S.st:=aq hs'
   have fw':=few.st s' hsm'
   have nda1:=ChA.step_nd ch.nd hA1
   simp only[StA.all,aV,aw,aZ,not_or,or_false]at nda1
   have bks1:(S.putB k m).2.Backs n:=(bks.putB fn.lnl hk hm).1
   have bl1:(S.putB k m).2.bl=S.bl:=by
    unfold ChS.putB
    by_cases e1:k=0
    ·rw[if_pos e1]
    ·rw[if_neg e1]
     by_cases e2:m=0
     ·rw[if_pos e2]
     ·rw[if_neg e2];rfl
   obtain⟨l1,hl1⟩:=mb.md
   have hk2':k2<(S.putB k m).2.md.length:=by rw[hl1,ah];lia
   obtain⟨mk,bks2⟩:=mb.fine.putK bks1 hk2'
   obtain⟨l2,hl2⟩:=mk.md
   have len1:=mb.len
   have len2:=mk.len
   have ha':(S.putB k m).1<((S.putB k m).2.putK n k2).2.md.length:=by rw[hl2,ah];have:=mb.lt;lia
   have m3:=mk.fine.putB ha' mk.lt
   obtain⟨l3,hl3⟩:=m3.md
   obtain⟨dxc3,hc3⟩:=ch3.c
   obtain⟨dxb3,hb3⟩:=ch3.bk.b
   refine⟨_,rfl,A.c,cC,dxc3,_,_,rfl,hc3,cc.cls,cc.no "book" (by decide),rfl,A.b,dxb3,_,rfl,hb3,rfl,_,rfl,_,rfl,A,S,n,k,m,rfl,ch3.bk,lne,hk,hm,fn.wl.md,hn,by lia,λH4 fr4 bk4=>?_⟩
   have ch4:u9 cC cB cS n H4 A (S.putB k m).2:=ch3.book (fr4.more λx hx=>by simp at hx ⊢;rcases hx with e|e <;> simp[e]) bk4 mb.st (mdS _ mb.md)
   obtain⟨dxc4,hc4⟩:=ch4.c
   obtain⟨dxb4,hb4⟩:=ch4.bk.b
   have st41:=ch4.st (j+1) a1 s' hA1 (by rw[mb.st];exact hs')
   obtain⟨dx41,hsa41⟩:=st41.a
   have st4:=ch4.st j a s hAj (by rw[mb.st];exact hs)
   obtain⟨dx4,hsa4⟩:=st4.a
   have ga1:atI (A.st.map λs=>V.ref s.a) ((j:Int)+1)=some (V.ref a1.a):=by
    rw[show(j:Int)+1=((j+1:Nat):Int) by lia]
    exact l9 (by rw[af,hA1];rfl)
   have g4:V1 H4 a.lt (kV (Sum.inl ((t.getD j 0:Nat):Int))) (some (V.int k2)):=by
    have g:=V1.k (k:=Sum.inl ((t.getD j 0:Nat):Int)) st4.lt
    rwa [Q5,ea]at g
   refine⟨_,rfl,A.c,cC,dxc4,_,_,rfl,hc4,cc.cls,cc.no "steps" (by decide),rfl,_,rfl,_,_,rfl,rfl,A.l,_,_,_,rfl,rfl,SqL.of ch4.l,ga1,a1.a,dx41,_,rfl,hsa41,rfl,?_⟩
   refine⟨_,rfl,A.c,cC,dxc4,_,_,rfl,hc4,cc.cls,cc.no "book" (by decide),rfl,A.b,dxb4,_,rfl,hb4,rfl,_,rfl,_,rfl,A.c,cC,dxc4,_,_,rfl,hc4,cc.cls,cc.no "book" (by decide),rfl,A.b,dxb4,_,rfl,hb4,rfl,_,rfl,a.a,cS,dx4,_,_,rfl,hsa4,cs.cls,cs.no "line_to" (by decide),rfl,_,rfl,a.lt,_,rfl,g4,A,(S.putB k m).2,n,k2,rfl,ch4.bk,lne,hk2',mb.fine.wl.md,hn,by lia,by rw[bl1];lia,λH5 fr5 bk5=>?_⟩
   have ch5:u9 cC cB cS n H5 A ((S.putB k m).2.putK n k2).2:=ch4.book fr5 bk5 mk.st (λs hs x hx=>by rw[hl2,d6 (mb.fine.wl.to s hs x hx).2])
   refine⟨A,((S.putB k m).2.putK n k2).2,n,(S.putB k m).1,((S.putB k m).2.putK n k2).1,rfl,ch5.bk,lne,ha',mk.lt,mk.fine.wl.md,hn,by lia,λH6 fr6 bk6=>?_⟩
   have ch6:u9 cC cB cS n H6 A (((S.putB k m).2.putK n k2).2.putB (S.putB k m).1 ((S.putB k m).2.putK n k2).1).2:=ch5.book (fr6.more λx hx=>by simp at hx ⊢;rcases hx with e|e <;> simp[e]) bk6 m3.st (λs hs x hx=>by rw[hl3,d6 (mk.fine.wl.to s hs x hx).2])
   have e6:(((S.putB k m).2.putK n k2).2.putB (S.putB k m).1 ((S.putB k m).2.putK n k2).1).2.st=S.st:=by rw[m3.st,mk.st,mb.st]
   have st6:=ch6.st (j+1) a1 s' hA1 (by rw[e6];exact hs')
   refine⟨a1,n,_,j+1,(((S.putB k m).2.putK n k2).2.putB (S.putB k m).1 ((S.putB k m).2.putK n k2).1).1,s',rfl,st6,nda1.2.1.2.2,by lia,by lia,by lia,λH7 fr7 st7=>?_⟩
   have nt:∀x∈[a1.m,a1.w],x∈a1.all/\∀xs,H6 x≠some (.tup xs):=λx hx=>by
    obtain⟨ws2,hw2,_⟩:=st6.w
    rcases aw.mp hx with e|hx
    ·rw[e];exact⟨by simp[StA.all],λxs z=>by rw[st6.m]at z;cases z⟩
    ·rw[ar.mp hx];exact⟨by simp[StA.all],λxs z=>by rw[hw2]at z;cases z⟩
   have ch7:=ch6.step hA1 nt fr7 st7
   rw[e6]at ch7
   refine q H7 ?_ ch7
   exact y8.trans (y6.frame s03) (y8.trans (fr4.all λx hx=>by simp at hx ⊢;rcases hx with e|e <;> simp[e]) (y8.trans (fr5.all λx hx=>by simp at hx ⊢;rcases hx with e|e|e <;> simp[e]) (y8.trans (fr6.all λx hx=>by simp at hx ⊢;rcases hx with e|e <;> simp[e]) (fr7.allS hA1 λx hx=>(nt x hx).1))))
def ChS.chn (S:ChS):TM.Chn where
 mv j s:=∃k∈(S.atS j).mv,S.md.getD k []=s
 ring j:=(S.atS j).to.map Prod.fst
 up j p:=S.md.getD ((atN (S.atS j).to p).getD 0) []
theorem U5 {l:List (Nat×Nat)}:atN l p=none↔p∉l.map Prod.fst:=by
 unfold atN
 rw[Option.map_eq_none_iff,List.find?_eq_none]
 constructor
 ·intro h z
  obtain⟨x,hx,e⟩:=ay.mp z
  exact h x hx (by simpa using e)
 ·intro h x hx e
  exact h (ay.mpr ⟨x,hx,by simpa using e⟩)
theorem zc2 {l:List (Nat×Nat)}(h:atN l p=some k):p∈l.map Prod.fst:=ay.mpr ⟨_,R9 h,rfl⟩
theorem ChS.chn_up {S:ChS}(h:atN (S.atS j).to p=some k):S.chn.up j p=S.md.getD k []:=by
 show S.md.getD ((atN (S.atS j).to p).getD 0) []=_
 rw[h];rfl
theorem ChS.drop_at {S:ChS}(h:j<S.st.length):S.st.drop j=S.atS j::S.st.drop (j+1):=by
 rw[cy h,ChS.atS_of (ae h)]
theorem yb4 {S:ChS}(len:S.st.length=n)(ok:S.chn.Ok n):∀(d:Nat) (x acc:List Nat),d<=n->TM.IsT n x->((K4 n S.md (S.st.drop (n-d)) (n-d) x acc).isSome=true↔S.chn.Sif n d x)
 | 0,x,acc,_,_=>by
  rw[dP,dA (by lia),K4]
  exact⟨λ_=>trivial,λ_=>rfl⟩
 | d+1,x,acc,hd,hx=>by
  have hj:n-(d+1)<n:=by lia
  have e:n-(d+1)+1=n-d:=by lia
  rw[ChS.drop_at (by lia),K4,TM.Chn.Sif]
  cases ea:atN (S.atS (n-(d+1))).to (x.getD (n-(d+1)) 0) with
  | none =>
   have hm:x.getD (n-(d+1)) 0∉S.chn.ring (n-(d+1)):=U5.mp ea
   exact⟨λh=>(by cases h),λh=>absurd h.1 hm⟩
  | some k =>
   have hm:x.getD (n-(d+1)) 0∈S.chn.ring (n-(d+1)):=zc2 ea
   have hu:=ok.upT hj hm
   have eu:=ChS.chn_up ea
   dsimp only
   rw[e]
   by_cases ee:x.getD (n-(d+1)) 0=n-(d+1)
   ·rw[if_pos ee]
    have h0:TM.beh x (TM.bk n (S.chn.up (n-(d+1)) (x.getD (n-(d+1)) 0)))=x:=by
     rw[ee,ok.upOwn _ hj,TM.bk_still,TM.beh_still hx]
    rw[h0,yb4 len ok d x acc (by lia) hx]
    exact⟨λh=>⟨hm,h⟩,λh=>h.2⟩
   ·rw[if_neg ee,eu,yb4 len ok d _ _ (by lia) (hx.beh (by rw[eu]at hu;exact hu.bk))]
    exact⟨λh=>⟨hm,h⟩,λh=>h.2⟩
structure ChS.Inv (n:Nat) (S:ChS):Prop where
 fine:S.Fine n
 bks:S.Backs n
 len:S.st.length=n
 ok:S.chn.Ok n
 lk:∀j,(S.atS j).lk<=(S.atS j).wt.length
 wl:∀j,(S.atS j).wt.length=(S.atS j).to.length*(S.atS j).mv.length
 wt:∀j p m,p∈(S.atS j).to.map Prod.fst->m∈(S.atS j).mv->(p,m)∈(S.atS j).wt
 wt':∀j,∀x∈(S.atS j).wt,x.1∈(S.atS j).to.map Prod.fst/\x.2∈(S.atS j).mv
 good:∀j,∀x∈(S.atS j).wt.take (S.atS j).lk,S.chn.Good n j x.1 (S.md.getD x.2 [])
 ind:∀j,TM.Indep n ((S.atS j).mv.map λk=>S.md.getD k [])
def ChS.Done (S:ChS)(j:Nat):Prop:=(S.atS j).lk=(S.atS j).wt.length
theorem ChS.Inv.shut {S:ChS}(h:S.Inv n)(d:S.Done j):S.chn.Shut n j:=by
 intro p hp s hs
 obtain⟨m,hm,rfl⟩:=hs
 refine h.good j (p,m) ?_
 rw[d,cn]
 exact h.wt j p m hp hm
theorem ChS.Inv.holds {S:ChS}(h:S.Inv n)(hj:j<=n)(d:∀i,j<=i->i<n->S.Done i)(hx:TM.IsT n x)(hf:TM.Fix j x):(K4 n S.md (S.st.drop j) j x []).isSome=true↔TM.Grp n (S.chn.mv j) x:=by
 have e:n-(n-j)=j:=by lia
 have h1:=yb4 h.len h.ok (n-j) x [] (by lia) hx
 have h2:=h.ok.sift (d:=n-j) (by lia) hx (by rw[e];exact hf) (λi hi hin=>h.shut (d i (by lia) hin))
 rw[e]at h1 h2
 exact h1.trans h2
theorem ChS.Inv.few {S:ChS}(hn:n<=60)(h:S.Inv n)(j:Nat):(S.atS j).mv.length<=354:=by
 have q:=TM.indep_few hn (l:=(S.atS j).mv.map λk=>S.md.getD k []) (λs hs=>by
  obtain⟨k,hk,e⟩:=ay.mp hs
  exact h.ok.mvT j s ⟨k,hk,e⟩) (h.ind j)
 rwa [aa]at q
theorem ChS.Inv.ring {S:ChS}(h:S.Inv n)(hj:j<n):(S.atS j).to.length<=n:=by
 have q:=TM.nodup_below (M:=n) (h.ok.nd j hj) λx hx=>h.ok.lt j x hj hx
 have e:(S.chn.ring j).length=(S.atS j).to.length:=aa _
 lia
theorem ChS.atS_set {S S':ChS}(e:S'.st=S.st.set i s')(hi:i<S.st.length)(h:Nat):S'.atS h=if h=i then s' else S.atS h:=by
 unfold ChS.atS
 rw[e,au,au,List.getElem?_set]
 by_cases q:h=i
 ·subst q
  rw[if_pos rfl,if_pos hi,if_pos rfl];rfl
 ·rw[if_neg (Ne.symm q),if_neg q]
theorem ChS.atS_mem {S:ChS}(h:j<S.st.length):S.atS j∈S.st:=by
 rw[ChS.atS_of (ae h)]
 exact bX h
theorem ChS.atS_out {S:ChS}(h:¬j<S.st.length):S.atS j=⟨[],[],[],0⟩:=by
 unfold ChS.atS
 rw[au,aW (by lia)]
 rfl
theorem ChS.Fine.mvlt {S:ChS}(f:S.Fine n)(h:k∈(S.atS j).mv):k<S.md.length:=by
 by_cases q:j<S.st.length
 ·exact f.wl.mv _ (ChS.atS_mem q) k h
 ·rw[ChS.atS_out q]at h;cases h
theorem ChS.Fine.tolt {S:ChS}(f:S.Fine n){x:Nat×Nat}(h:x∈(S.atS j).to):x.1<n/\x.2<S.md.length:=by
 by_cases q:j<S.st.length
 ·exact f.wl.to _ (ChS.atS_mem q) x h
 ·rw[ChS.atS_out q]at h;cases h
theorem ChS.Fine.set {S S2:ChS}(m:M5 n S S2 k t){s':StS}(hto:∀x∈s'.to,x.1<n/\x.2<S2.md.length)(hmv:∀k∈s'.mv,k<S2.md.length):ChS.Fine n { S2 with st:=S.st.set i s' }:=by
 have f:=m.fine
 refine⟨⟨f.wl.md,λs hs=>?_,λs hs=>?_⟩,f.md0,f.pos,f.lnl⟩
 ·rcases eY hs with h|h
  ·exact f.wl.to s (by rw[m.st];exact h)
  ·rw[h];exact hto
 ·rcases eY hs with h|h
  ·exact f.wl.mv s (by rw[m.st];exact h)
  ·rw[h];exact hmv
theorem M5.at_ {S S2:ChS}(m:M5 n S S2 k t)(h:i<S.md.length):S2.md.getD i []=S.md.getD i []:=by
 obtain⟨l,e⟩:=m.md
 rw[e,d6 h]
theorem M5.lift {S S2:ChS}(m:M5 n S S2 k t)(h:i<S.md.length):i<S2.md.length:=by
 obtain⟨l,e⟩:=m.md
 rw[e,ah];lia
theorem M5.chn {S S2 S':ChS}(f:S.Fine n)(m:M5 n S S2 k t)(e:S'.md=S2.md):((S'.atS h).mv=(S.atS h).mv->S'.chn.mv h=S.chn.mv h)/\((S'.atS h).to=(S.atS h).to->S'.chn.ring h=S.chn.ring h/\S'.chn.up h=S.chn.up h):=by
 refine⟨λq=>?_,λq=>⟨?_,?_⟩⟩
 ·funext s
  show(∃k∈(S'.atS h).mv,S'.md.getD k []=s)=(∃k∈(S.atS h).mv,S.md.getD k []=s)
  rw[q,e]
  refine propext ⟨λ⟨k,hk,z⟩=>⟨k,hk,?_⟩,λ⟨k,hk,z⟩=>⟨k,hk,?_⟩⟩
  ·rw[←m.at_ (f.mvlt hk)];exact z
  ·rw[m.at_ (f.mvlt hk)];exact z
 ·show(S'.atS h).to.map Prod.fst=_
  rw[q];rfl
 ·funext p
  show S'.md.getD ((atN (S'.atS h).to p).getD 0) []=S.md.getD ((atN (S.atS h).to p).getD 0) []
  rw[q,e]
  cases ea:atN (S.atS h).to p with
  | none=>exact m.at_ f.pos
  | some k=>exact m.at_ (f.tolt (R9 ea)).2
def ChS.look (S:ChS)(j:Nat):ChS:={ S with st:=S.st.set j { S.atS j with lk:=(S.atS j).lk+1 } }
theorem ChS.look_at {S:ChS}(hj:j<S.st.length)(h:Nat):(S.look j).atS h=if h=j then { S.atS j with lk:=(S.atS j).lk+1 } else S.atS h:=ChS.atS_set (S':=S.look j) rfl hj h
theorem ChS.look_mv {S:ChS}(hj:j<S.st.length)(h:Nat):((S.look j).atS h).mv=(S.atS h).mv/\((S.look j).atS h).to=(S.atS h).to/\((S.look j).atS h).wt=(S.atS h).wt:=by
 rw[ChS.look_at hj]
 by_cases q:h=j
 ·subst q;rw[if_pos rfl];exact⟨rfl,rfl,rfl⟩
 ·rw[if_neg q];exact⟨rfl,rfl,rfl⟩
theorem ChS.look_chn {S:ChS}(hj:j<S.st.length):(S.look j).chn=S.chn:=by
 have h1:∀h,((S.look j).atS h).mv=(S.atS h).mv:=λh=>(ChS.look_mv hj h).1
 have h2:∀h,((S.look j).atS h).to=(S.atS h).to:=λh=>(ChS.look_mv hj h).2.1
 have h3:(S.look j).md=S.md:=rfl
 unfold ChS.chn
 simp only[h1,h2,h3]
theorem ChS.Inv.look {S:ChS}(h:S.Inv n)(hj:j<n){x:Nat×Nat}(hx:(S.atS j).wt[(S.atS j).lk]?=some x)(g:S.chn.Good n j x.1 (S.md.getD x.2 [])):(S.look j).Inv n:=by
 have hj':j<S.st.length:=by rw[h.len];exact hj
 have hlt:=(al.mp hx).1
 have e:=λi=>ChS.look_mv (S:=S) hj' i
 have ec:=ChS.look_chn (S:=S) hj'
 refine⟨?_,h.bks.of rfl rfl rfl rfl,by show(S.st.set _ _).length=n;rw[bV];exact h.len,by rw[ec];exact h.ok,λi=>?_,λi=>by rw[(e i).1,(e i).2.1,(e i).2.2];exact h.wl i,λi=>by rw[(e i).1,(e i).2.1,(e i).2.2];exact h.wt i,λi=>by rw[(e i).1,(e i).2.1,(e i).2.2];exact h.wt' i,λi y hy=>?_,λi=>by rw[(e i).1];exact h.ind i⟩
 ·have m:=M5.refl h.fine h.fine.pos
  exact ChS.Fine.set m (λy hy=>h.fine.tolt hy) (λy hy=>h.fine.mvlt hy)
 ·rw[ChS.look_at hj']
  by_cases q:i=j
  ·subst q;rw[if_pos rfl];exact hlt
  ·rw[if_neg q];exact h.lk i
 ·rw[ec]
  show S.chn.Good n i y.1 (S.md.getD y.2 [])
  rw[ChS.look_at hj']at hy
  by_cases q:i=j
  ·subst q
   rw[if_pos rfl]at hy
   have hy:y∈(S.atS i).wt.take ((S.atS i).lk+1):=hy
   rw[bJ,hx]at hy
   rcases aF.mp hy with z|z
   ·exact h.good i y z
   ·obtain rfl:y=x:=by simpa using z
    exact g
  ·rw[if_neg q]at hy
   exact h.good i y hy
theorem yk1 {p q k:Nat}(h:p≠q):atN (l++[(q,k)]) p=atN l p:=by
 unfold atN
 rw[eg]
 cases e:l.find? (λx=>decide (x.1=p)) with
 | some x=>rfl
 | none=>simp[Ne.symm h]
theorem zd4 {S S2:ChS}(f:S.Fine n)(m:M5 n S S2 k t)(j:Nat):((S.atS j).mv.map λk=>S2.md.getD k [])=((S.atS j).mv.map λk=>S.md.getD k []):=bQ λx hx=>m.at_ (f.mvlt hx)
theorem ChS.Inv.place {S S2:ChS}{t:List Nat}(h:S.Inv n)(hj:j<n)(m:M5 n S S2 k t)(b:S2.Backs n)(hq:atN (S.atS j).to q=none)(hqn:q<n)(gt:TM.Grp n (S.chn.mv j) t)(ht:t.getD j 0=q) :
  ChS.Inv n { S2 with st:=S.st.set j ((S.atS j).putP q k) }/\TM.Chn.MoreP n S.chn (ChS.chn { S2 with st:=S.st.set j ((S.atS j).putP q k) }) j q t:=by
 obtain⟨S',hS'⟩:∃S',S'=({ S2 with st:=S.st.set j ((S.atS j).putP q k) }:ChS):=⟨_,rfl⟩
 rw[←hS']
 have hst:S'.st=S.st.set j ((S.atS j).putP q k):=by rw[hS']
 have hmd:S'.md=S2.md:=by rw[hS']
 have hj':j<S.st.length:=by rw[h.len];exact hj
 have ea:=λi=>ChS.atS_set hst hj' i
 have emv:∀i,(S'.atS i).mv=(S.atS i).mv:=λi=>by
  rw[ea i]
  by_cases e:i=j
  ·subst e;rw[if_pos rfl];rfl
  ·rw[if_neg e]
 have ej:S'.atS j=(S.atS j).putP q k:=by rw[ea j,if_pos rfl]
 have en:∀i,i≠j->S'.atS i=S.atS i:=λi e=>by rw[ea i,if_neg e]
 have mp:TM.Chn.MoreP n S.chn S'.chn j q t:=by
  refine⟨hj,U5.mp hq,hqn,gt,ht,funext λi=>(m.chn h.fine hmd).1 (emv i),?_,λi e=>((m.chn h.fine hmd).2 (by rw[en i e])).1,λp hp=>?_,?_,λi e=>((m.chn h.fine hmd).2 (by rw[en i e])).2⟩
  ·show(S'.atS j).to.map Prod.fst=(S.atS j).to.map Prod.fst++[q]
   rw[ej]
   show((S.atS j).to++[(q,k)]).map Prod.fst=_
   rw[aH];rfl
  ·show S'.md.getD ((atN (S'.atS j).to p).getD 0) []=S.md.getD ((atN (S.atS j).to p).getD 0) []
   rw[ej]
   show S'.md.getD ((atN ((S.atS j).to++[(q,k)]) p).getD 0) []=_
   rw[yk1 hp,hmd]
   cases e:atN (S.atS j).to p with
   | none=>exact m.at_ h.fine.pos
   | some k'=>exact m.at_ (h.fine.tolt (R9 e)).2
  ·show S'.md.getD ((atN (S'.atS j).to q).getD 0) []=t
   rw[ej]
   show S'.md.getD ((atN ((S.atS j).to++[(q,k)]) q).getD 0) []=t
   rw[zn4 hq,hmd]
   exact m.at'
 refine⟨⟨?_,?_,?_,mp.ok h.ok,λi=>?_,λi=>?_,λi p mm hp hm=>?_,λi x hx=>?_,λi x hx=>?_,λi=>?_⟩,mp⟩
 ·rw[hS']
  refine ChS.Fine.set m (λx hx=>?_) (λx hx=>m.lift (h.fine.mvlt hx))
  rcases aF.mp hx with z|z
  ·exact⟨(h.fine.tolt z).1,m.lift (h.fine.tolt z).2⟩
  ·rw[ar.mp z];exact⟨hqn,m.lt⟩
 ·rw[hS'];exact b.of rfl rfl rfl rfl
 ·rw[hst,bV];exact h.len
 ·by_cases e:i=j
  ·subst e
   rw[ej]
   have:=h.lk i
   show(S.atS i).lk<=((S.atS i).wt++_).length
   rw[ah];lia
  ·rw[en i e];exact h.lk i
 ·by_cases e:i=j
  ·subst e
   rw[ej]
   have:=h.wl i
   show((S.atS i).wt++(S.atS i).mv.map λm=>(q,m)).length=((S.atS i).to++[(q,k)]).length*(S.atS i).mv.length
   rw[ah,aa,ah,bI,eQ,eP,this]
  ·rw[en i e];exact h.wl i
 ·by_cases e:i=j
  ·subst e
   rw[ej]at hp hm ⊢
   have hp:p∈((S.atS i).to++[(q,k)]).map Prod.fst:=hp
   rw[aH]at hp
   show(p,mm)∈(S.atS i).wt++(S.atS i).mv.map λm=>(q,m)
   rcases aF.mp hp with z|z
   ·exact aJ _ (h.wt i p mm z hm)
   ·have z:p=q:=ar.mp z
    rw[z]
    exact aG _ (ay.mpr ⟨mm,hm,rfl⟩)
  ·rw[en i e]at hp hm ⊢;exact h.wt i p mm hp hm
 ·by_cases e:i=j
  ·subst e
   rw[ej]at hx ⊢
   have hx:x∈(S.atS i).wt++(S.atS i).mv.map λm=>(q,m):=hx
   show x.1∈((S.atS i).to++[(q,k)]).map Prod.fst/\x.2∈(S.atS i).mv
   rw[aH]
   rcases aF.mp hx with z|z
   ·exact⟨aJ _ (h.wt' i x z).1,(h.wt' i x z).2⟩
   ·obtain⟨mm,hm,rfl⟩:=ay.mp z
    exact⟨aG _ (by simp),hm⟩
  ·rw[en i e]at hx ⊢;exact h.wt' i x hx
 ·have hx':x∈(S.atS i).wt.take (S.atS i).lk:=by
   by_cases e:i=j
   ·subst e
    rw[ej]at hx
    have hx:x∈((S.atS i).wt++(S.atS i).mv.map λm=>(q,m)).take (S.atS i).lk:=hx
    rwa [bR (h.lk i)]at hx
   ·rwa [en i e]at hx
  have hw:=h.wt' i x (bC hx')
  have g:=mp.good (i:=i) hw.1 (h.good i x hx')
  rw[hmd,m.at_ (h.fine.mvlt hw.2)]
  exact g
 ·rw[emv i,hmd,zd4 h.fine m]
  exact h.ind i
theorem ChS.Inv.mover {S S2:ChS}(h:S.Inv n)(hi:i<n)(m:M5 n S S2 k t)(b:S2.Backs n)(tT:TM.IsT n t)(tF:TM.Fix i t)(dn:∀g,g+1=i->TM.Grp n (S.chn.mv g) t)(ng:¬TM.Grp n (S.chn.mv i) t) :
  ChS.Inv n { S2 with st:=S.st.set i ((S.atS i).putM k) }/\TM.Chn.MoreM n S.chn (ChS.chn { S2 with st:=S.st.set i ((S.atS i).putM k) }) i t:=by
 obtain⟨S',hS'⟩:∃S',S'=({ S2 with st:=S.st.set i ((S.atS i).putM k) }:ChS):=⟨_,rfl⟩
 rw[←hS']
 have hst:S'.st=S.st.set i ((S.atS i).putM k):=by rw[hS']
 have hmd:S'.md=S2.md:=by rw[hS']
 have hi':i<S.st.length:=by rw[h.len];exact hi
 have ea:=λg=>ChS.atS_set hst hi' g
 have eto:∀g,(S'.atS g).to=(S.atS g).to:=λg=>by
  rw[ea g]
  by_cases e:g=i
  ·subst e;rw[if_pos rfl];rfl
  ·rw[if_neg e]
 have ej:S'.atS i=(S.atS i).putM k:=by rw[ea i,if_pos rfl]
 have en:∀g,g≠i->S'.atS g=S.atS g:=λg e=>by rw[ea g,if_neg e]
 have mp:TM.Chn.MoreM n S.chn S'.chn i t:=by
  refine⟨hi,tT,tF,dn,λg s=>?_,funext λg=>((m.chn h.fine hmd).2 (eto g)).1,funext λg=>((m.chn h.fine hmd).2 (eto g)).2⟩
  by_cases e:g=i
  ·subst e
   show(∃k'∈(S'.atS g).mv,S'.md.getD k' []=s)↔((∃k'∈(S.atS g).mv,S.md.getD k' []=s)∨(g=g/\s=t))
   rw[ej,hmd]
   constructor
   ·rintro⟨k',hk,z⟩
    rcases aF.mp hk with y|y
    ·exact .inl ⟨k',y,by rw[←m.at_ (h.fine.mvlt y)];exact z⟩
    ·rw[ar.mp y,m.at']at z
     exact .inr ⟨rfl,z.symm⟩
   ·rintro (⟨k',hk,z⟩|⟨_,z⟩)
    ·exact⟨k',aJ _ hk,by rw[m.at_ (h.fine.mvlt hk)];exact z⟩
    ·exact⟨k,aG _ (by simp),by rw[m.at',z]⟩
  ·rw[(m.chn h.fine hmd).1 (by rw[en g e])]
   exact⟨.inl,λz=>z.elim id λy=>absurd y.1 e⟩
 refine⟨⟨?_,?_,?_,mp.ok h.ok,λg=>?_,λg=>?_,λg p mm hp hm=>?_,λg x hx=>?_,λg x hx=>?_,λg=>?_⟩,mp⟩
 ·rw[hS']
  refine ChS.Fine.set m (λx hx=>⟨(h.fine.tolt hx).1,m.lift (h.fine.tolt hx).2⟩) (λx hx=>?_)
  rcases aF.mp hx with z|z
  ·exact m.lift (h.fine.mvlt z)
  ·rw[ar.mp z];exact m.lt
 ·rw[hS'];exact b.of rfl rfl rfl rfl
 ·rw[hst,bV];exact h.len
 ·by_cases e:g=i
  ·subst e
   rw[ej]
   have:=h.lk g
   show(S.atS g).lk<=((S.atS g).wt++_).length
   rw[ah];lia
  ·rw[en g e];exact h.lk g
 ·by_cases e:g=i
  ·subst e
   rw[ej]
   have:=h.wl g
   show((S.atS g).wt++(S.atS g).to.map λx=>(x.1,k)).length=(S.atS g).to.length*((S.atS g).mv++[k]).length
   rw[ah,aa,ah,bI,Nat.mul_add,fX,this]
  ·rw[en g e];exact h.wl g
 ·by_cases e:g=i
  ·subst e
   rw[ej]at hp hm ⊢
   have hp:p∈(S.atS g).to.map Prod.fst:=hp
   have hm:mm∈(S.atS g).mv++[k]:=hm
   show(p,mm)∈(S.atS g).wt++(S.atS g).to.map λx=>(x.1,k)
   rcases aF.mp hm with z|z
   ·exact aJ _ (h.wt g p mm hp z)
   ·rw[ar.mp z]
    obtain⟨y,hy,e⟩:=ay.mp hp
    exact aG _ (ay.mpr ⟨y,hy,by rw[e]⟩)
  ·rw[en g e]at hp hm ⊢;exact h.wt g p mm hp hm
 ·by_cases e:g=i
  ·subst e
   rw[ej]at hx ⊢
   have hx:x∈(S.atS g).wt++(S.atS g).to.map λx=>(x.1,k):=hx
   show x.1∈(S.atS g).to.map Prod.fst/\x.2∈(S.atS g).mv++[k]
   rcases aF.mp hx with z|z
   ·exact⟨(h.wt' g x z).1,aJ _ (h.wt' g x z).2⟩
   ·obtain⟨y,hy,rfl⟩:=ay.mp z
    exact⟨ay.mpr ⟨y,hy,rfl⟩,by simp⟩
  ·rw[en g e]at hx ⊢;exact h.wt' g x hx
 ·have hx':x∈(S.atS g).wt.take (S.atS g).lk:=by
   by_cases e:g=i
   ·subst e
    rw[ej]at hx
    have hx:x∈((S.atS g).wt++(S.atS g).to.map λx=>(x.1,k)).take (S.atS g).lk:=hx
    rwa [bR (h.lk g)]at hx
   ·rwa [en g e]at hx
  have hw:=h.wt' g x (bC hx')
  have gd:=mp.good h.ok (h.good g x hx')
  rw[hmd,m.at_ (h.fine.mvlt hw.2)]
  exact gd
 ·by_cases e:g=i
  ·subst e
   rw[ej,hmd]
   show TM.Indep n (((S.atS g).mv++[k]).map λk=>S2.md.getD k [])
   rw[aH,zd4 h.fine m]
   show TM.Indep n (_++[S2.md.getD k []])
   rw[m.at']
   refine(h.ind g).snoc λz=>ng ?_
   refine TM.Grp.mono (h.ok.mvT g) (λs hs=>TM.Grp.of (h.ok.mvT g) ?_) z
   obtain⟨y,hy,e⟩:=ay.mp hs
   exact⟨y,hy,e⟩
  ·rw[en g e,hmd,zd4 h.fine m];exact h.ind g
theorem ChS.putK_bl {S:ChS}(i:Nat):(S.putK n i).2.bl.length<=S.bl.length+1:=by
 unfold ChS.putK
 cases e:atN S.bl i with
 | some k=>exact bU _
 | none =>
  show(S.bl++[_]).length<=_
  rw[ah];exact ag _
theorem ChS.atS_st {S S2:ChS}(e:S2.st=S.st)(j:Nat):S2.atS j=S.atS j:=by unfold ChS.atS;rw[e]
theorem ChS.Inv.grow {S S2:ChS}(h:S.Inv n)(m:M5 n S S2 k t)(b:S2.Backs n):S2.Inv n/\S2.chn=S.chn:=by
 have ea:=λj=>ChS.atS_st m.st j
 have ec:S2.chn=S.chn:=by
  have h1:S2.chn.mv=S.chn.mv:=funext λj=>(m.chn h.fine rfl).1 (by rw[ea j])
  have h2:S2.chn.ring=S.chn.ring:=funext λj=>((m.chn h.fine rfl).2 (by rw[ea j])).1
  have h3:S2.chn.up=S.chn.up:=funext λj=>((m.chn h.fine rfl).2 (by rw[ea j])).2
  show TM.Chn.mk S2.chn.mv S2.chn.ring S2.chn.up=TM.Chn.mk S.chn.mv S.chn.ring S.chn.up
  rw[h1,h2,h3]
 refine⟨⟨m.fine,b,by rw[m.st];exact h.len,by rw[ec];exact h.ok,λj=>by rw[ea j];exact h.lk j,λj=>by rw[ea j];exact h.wl j,λj=>by rw[ea j];exact h.wt j,λj=>by rw[ea j];exact h.wt' j,λj x hx=>?_,λj=>by rw[ea j,zd4 h.fine m];exact h.ind j⟩,ec⟩
 rw[ea j]at hx
 rw[ec,m.at_ (h.fine.mvlt (h.wt' j x (bC hx)).2)]
 exact h.good j x hx
def ChS.looks (S:ChS):Nat:=(S.st.map StS.lk).sum
theorem zm7 {l:List StS}:∀{j:Nat} {a s:StS},l[j]?=some s->((l.set j a).map StS.lk).sum+s.lk=(l.map StS.lk).sum+a.lk:=by
 induction l with
 | nil=>intro j a s h;cases h
 | cons x r ih =>
  intro j a s h
  cases j with
  | zero =>
   obtain rfl:x=s:=by simpa using h
   simp only[List.set_cons_zero,aQ,fj];lia
  | succ j =>
   have h':r[j]?=some s:=by simpa using h
   have:=ih (a:=a) h'
   simp only[List.set_cons_succ,aQ,fj];lia
theorem ChS.get_at {S:ChS}(h:j<S.st.length):S.st[j]?=some (S.atS j):=by rw[ChS.atS_of (ae h)];exact ae h
theorem ChS.look_looks {S:ChS}(h:j<S.st.length):(S.look j).looks=S.looks+1:=by
 have q:=zm7 (a:={ S.atS j with lk:=(S.atS j).lk+1 }) (ChS.get_at h)
 unfold ChS.looks ChS.look
 dsimp only at q ⊢
 lia
structure ChS.Next (n:Nat) (S S':ChS) (j:Nat) (b:Bool):Prop where
 inv:S'.Inv n
 looks:S'.looks=S.looks+1
 done:∀i,j<i->i<n->(b=true->i≠j+1)->S.Done i->S'.Done i
 more:b=true->j+1<n
 mv0:S'.chn.mv 0=S.chn.mv 0
 src:S'.src=S.src
 ln:S'.ln.length<=S.ln.length+3
 bl:S'.bl.length<=S.bl.length+1
theorem ChS.Inv.found {S:ChS}{x:Nat×Nat}(h:S.Inv n)(hj:j<n)(hx:(S.atS j).wt[(S.atS j).lk]?=some x)(d:∀i,j<i->i<n->S.Done i):ChS.Next n S ((S.found n j x.1 x.2).1.look j) j (S.found n j x.1 x.2).2:=by
 have hj':j<S.st.length:=by rw[h.len];exact hj
 have hw:=h.wt' j x (aq hx)
 have hp:x.1∈S.chn.ring j:=hw.1
 have hs:S.chn.mv j (S.md.getD x.2 []):=⟨x.2,hw.2,rfl⟩
 have hm:=h.fine.mvlt hw.2
 obtain⟨k,hk⟩:∃k,atN (S.atS j).to x.1=some k:=by
  cases e:atN (S.atS j).to x.1 with
  | none=>exact absurd hp (U5.mp e)
  | some k=>exact⟨k,rfl⟩
 have hkl:k<S.md.length:=(h.fine.tolt (R9 hk)).2
 have eu:S.chn.up j x.1=S.md.getD k []:=ChS.chn_up hk
 have hu:=h.ok.upT hj hp
 have hsT:=h.ok.mvT j _ hs
 have mb:=h.fine.putB hkl hm
 obtain⟨b1,bl1⟩:=h.bks.putB h.fine.lnl hkl hm
 have et:(TM.beh (S.md.getD k []) (S.md.getD x.2 [])).getD j 0=(S.md.getD x.2 []).getD x.1 0:=by
  rw[←eu,TM.beh_get hu hj,h.ok.upTo j _ hj hp]
 have gt:TM.Grp n (S.chn.mv j) (TM.beh (S.md.getD k []) (S.md.getD x.2 [])):=by
  rw[←eu]
  exact .mul (h.ok.upG j _ hj hp) hs
 have tT:TM.IsT n (TM.beh (S.md.getD k []) (S.md.getD x.2 [])):=gt.isT (h.ok.mvT j)
 obtain⟨R,ef⟩:∃R,R=S.found n j x.1 x.2:=⟨_,rfl⟩
 rw[←ef]
 unfold ChS.found at ef
 simp only[hk,dC,et]at ef
 cases ea:atN (S.atS j).to ((S.md.getD x.2 []).getD x.1 0) with
 | none =>
  rw[ea]at ef
  dsimp only at ef
  have hqn:(S.md.getD x.2 []).getD x.1 0<n:=hsT.step_lt (h.ok.lt j _ hj hp)
  obtain⟨iv,mp⟩:=h.place hj mb b1 ea hqn gt et
  have g:=mp.new h.ok hp hs (by rw[eu])
  rw[ef]
  dsimp only
  generalize hS':({ (S.putB k x.2).2 with st:=S.st.set j ((S.atS j).putP ((S.md.getD x.2 []).getD x.1 0) (S.putB k x.2).1) }:ChS)=S' at iv mp g
  have hst:S'.st=S.st.set j ((S.atS j).putP ((S.md.getD x.2 []).getD x.1 0) (S.putB k x.2).1):=by rw[←hS']
  have hmd:S'.md=(S.putB k x.2).2.md:=by rw[←hS']
  have at':=λi=>ChS.atS_set hst hj' i
  have ej:S'.atS j=(S.atS j).putP ((S.md.getD x.2 []).getD x.1 0) (S.putB k x.2).1:=by rw[at' j,if_pos rfl]
  have hj2:j<S'.st.length:=by rw[hst,bV];exact hj'
  have hx':(S'.atS j).wt[(S'.atS j).lk]?=some x:=by
   rw[ej]
   show((S.atS j).wt++_)[(S.atS j).lk]?=some x
   rw[aN (al.mp hx).1]
   exact hx
  refine⟨iv.look hj hx' (by rw[hmd,mb.at_ hm];exact g),?_,λi hi hin _ dn=>?_,λz=>(by cases z),?_,(by show S'.src=_;rw[←hS'];exact ChS.putB_src _ _),?_,?_⟩
  ·rw[ChS.look_looks hj2]
   have q:=zm7 (a:=(S.atS j).putP ((S.md.getD x.2 []).getD x.1 0) (S.putB k x.2).1) (ChS.get_at hj')
   have q2:((S.atS j).putP ((S.md.getD x.2 []).getD x.1 0) (S.putB k x.2).1).lk=(S.atS j).lk:=rfl
   unfold ChS.looks
   rw[hst]
   lia
  ·unfold ChS.Done
   rw[ChS.look_at hj2,if_neg (by lia),at' i,if_neg (by lia)]
   exact dn
  ·rw[ChS.look_chn hj2,mp.emv]
  ·show S'.ln.length<=_
   have:=mb.len
   rw[←hS']
   show(S.putB k x.2).2.ln.length<=_
   lia
  ·show S'.bl.length<=_
   rw[←hS']
   show(S.putB k x.2).2.bl.length<=_
   rw[bl1];lia
 | some k2 =>
  rw[ea]at ef
  dsimp only at ef
  have hq:(S.md.getD x.2 []).getD x.1 0∈S.chn.ring j:=zc2 ea
  have eu2:S.chn.up j ((S.md.getD x.2 []).getD x.1 0)=S.md.getD k2 []:=ChS.chn_up ea
  have hk2:k2<S.md.length:=(h.fine.tolt (R9 ea)).2
  obtain⟨sg,sf⟩:=h.ok.schreier hj hp hs hq
  rw[eu,eu2]at sg sf
  have hyT:=sg.isT (h.ok.mvT j)
  have hh:=h.holds (j:=j+1) (by lia) (λi hi hin=>d i (by lia) hin) hyT sf
  cases hi:(K4 n S.md (S.st.drop (j+1)) (j+1) (TM.beh (TM.beh (S.md.getD k []) (S.md.getD x.2 [])) (TM.bk n (S.md.getD k2 []))) []).isSome with
  | true =>
   rw[hi,if_pos rfl]at ef
   rw[ef]
   dsimp only
   have g:S.chn.Good n j x.1 (S.md.getD x.2 []):=⟨hq,by rw[eu,eu2];exact hh.mp hi⟩
   refine⟨h.look hj hx g,ChS.look_looks hj',λi hi hin _ dn=>?_,λz=>(by cases z),?_,rfl,?_,?_⟩
   ·unfold ChS.Done
    rw[ChS.look_at hj',if_neg (by lia)]
    exact dn
   ·rw[ChS.look_chn hj']
   ·exact cI _ _
   ·exact bU _
  | false =>
   rw[hi,if_neg (by decide)]at ef
   rw[ef]
   dsimp only
   have ng:¬TM.Grp n (S.chn.mv (j+1)) (TM.beh (TM.beh (S.md.getD k []) (S.md.getD x.2 [])) (TM.bk n (S.md.getD k2 []))):=λz=>by
    rw[hh.mpr z]at hi;cases hi
   have hj1:j+1<n:=by
    rcases dH (j+1) n with q|q
    ·exact q
    ·rw[dA (by rw[h.len];exact q),K4]at hi
     cases hi
   obtain⟨mk,b2⟩:=mb.fine.putK b1 (mb.lift hk2)
   have bl2:=ChS.putK_bl (n:=n) (S:=(S.putB k x.2).2) k2
   have m3:=mk.fine.putB (mk.lift mb.lt) mk.lt
   have src3:(((S.putB k x.2).2.putK n k2).2.putB (S.putB k x.2).1 ((S.putB k x.2).2.putK n k2).1).2.src=S.src:=by rw[ChS.putB_src,ChS.putK_src,ChS.putB_src]
   obtain⟨b3,bl3⟩:=b2.putB mk.fine.lnl (mk.lift mb.lt) mk.lt
   obtain⟨iv1,ec1⟩:=h.grow mb b1
   obtain⟨iv2,ec2⟩:=iv1.grow mk b2
   rw[ec1]at ec2
   rw[mk.at_ mb.lt,mb.at',mk.at',mb.at_ hk2]at m3
   generalize hS2:((S.putB k x.2).2.putK n k2).2=S2 at m3 b3 bl3 iv2 ec2 mk bl2 ef src3
   generalize hS3:S2.putB (S.putB k x.2).1 ((S.putB k x.2).2.putK n k2).1=S3 at m3 b3 bl3 ef src3
   have st2:S2.st=S.st:=by rw[mk.st,mb.st]
   have as2:=λi=>ChS.atS_st st2 i
   obtain⟨iv,mp⟩:=iv2.mover hj1 m3 b3 hyT sf (λg hg=>by
    obtain rfl:g=j:=by lia
    rw[ec2];exact sg) (by rw[ec2];exact ng)
   rw[as2,st2]at iv mp
   have g:=mp.new iv2.ok (j:=j) (p:=x.1) (s:=S.md.getD x.2 []) (by rw[ec2];exact hq) (by rw[ec2,eu,eu2])
   generalize hS':({ S3.2 with st:=S.st.set (j+1) ((S.atS (j+1)).putM S3.1) }:ChS)=S' at iv mp g
   have hj1':j+1<S.st.length:=by rw[h.len];exact hj1
   have hst:S'.st=S.st.set (j+1) ((S.atS (j+1)).putM S3.1):=by rw[←hS']
   have hmd:S'.md=S3.2.md:=by rw[←hS']
   have at':=λi=>ChS.atS_set hst hj1' i
   have hj2:j<S'.st.length:=by rw[hst,bV];exact hj'
   have ej:S'.atS j=S.atS j:=by rw[at' j,if_neg (by lia)]
   refine⟨iv.look hj (by rw[ej];exact hx) (by rw[hmd,m3.at_ (mk.lift (mb.lift hm)),mk.at_ (mb.lift hm),mb.at_ hm];exact g),?_,λi hi hin hne dn=>?_,λ_=>hj1,?_,(by show S'.src=_;rw[←hS'];exact src3),?_,?_⟩
   ·rw[ChS.look_looks hj2]
    have q:=zm7 (a:=(S.atS (j+1)).putM S3.1) (ChS.get_at hj1')
    have q2:((S.atS (j+1)).putM S3.1).lk=(S.atS (j+1)).lk:=rfl
    unfold ChS.looks
    rw[hst]
    lia
   ·unfold ChS.Done
    rw[ChS.look_at hj2,if_neg (by lia),at' i,if_neg (hne rfl)]
    exact dn
   ·rw[ChS.look_chn hj2,←ec2]
    funext s
    exact propext ((mp.emv 0 s).trans ⟨λz=>z.elim id λy=>absurd y.1 (by lia),.inl⟩)
   ·show S'.ln.length<=_
    have:=mb.len
    have:=mk.len
    have:=m3.len
    rw[←hS']
    show S3.2.ln.length<=_
    lia
   ·show S'.bl.length<=_
    rw[←hS']
    show S3.2.bl.length<=_
    rw[bl3]
    rw[bl1]at bl2
    exact bl2
theorem ChS.look_putB {S:ChS}(j k m:Nat):(S.look j).putB k m=((S.putB k m).1,(S.putB k m).2.look j):=by
 unfold ChS.putB
 by_cases e1:k=0
 ·rw[if_pos e1,if_pos e1]
 ·rw[if_neg e1,if_neg e1]
  by_cases e2:m=0
  ·rw[if_pos e2,if_pos e2]
  ·rw[if_neg e2,if_neg e2];rfl
theorem ChS.look_putK {S:ChS}(n j k:Nat):(S.look j).putK n k=((S.putK n k).1,(S.putK n k).2.look j):=by
 unfold ChS.putK
 have e:(S.look j).bl=S.bl:=rfl
 rw[e]
 cases q:atN S.bl k with
 | some k'=>rfl
 | none=>rfl
theorem ChS.found_look {S:ChS}(hj:j<S.st.length)(p m:Nat):(S.look j).found n j p m=((S.found n j p m).1.look j,(S.found n j p m).2):=by
 have ej:(S.look j).atS j={ S.atS j with lk:=(S.atS j).lk+1 }:=by rw[ChS.look_at hj,if_pos rfl]
 have ej1:(S.look j).atS (j+1)=S.atS (j+1):=by rw[ChS.look_at hj,if_neg (by lia)]
 have emd:(S.look j).md=S.md:=rfl
 have ed:(S.look j).st.drop (j+1)=S.st.drop (j+1):=List.drop_set_of_lt (by lia)
 unfold ChS.found
 simp only[ej,ej1,emd,ed,ChS.look_putB,ChS.look_putK]
 cases ea:atN (S.atS j).to ((TM.beh (S.md.getD ((atN (S.atS j).to p).getD 0) []) (S.md.getD m [])).getD j 0) with
 | none =>
  dsimp only
  refine Prod.ext ?_ rfl
  generalize hX:((atN (S.atS j).to p).getD 0)=k
  generalize hS':({ (S.putB k m).2 with st:=S.st.set j ((S.atS j).putP ((TM.beh (S.md.getD k []) (S.md.getD m [])).getD j 0) (S.putB k m).1) }:ChS)=S'
  have hst:S'.st=S.st.set j ((S.atS j).putP ((TM.beh (S.md.getD k []) (S.md.getD m [])).getD j 0) (S.putB k m).1):=by rw[←hS']
  have e:=ChS.atS_set hst hj j
  rw[if_pos rfl]at e
  show _=({ S' with st:=S'.st.set j { S'.atS j with lk:=(S'.atS j).lk+1 } }:ChS)
  rw[e,hst,List.set_set]
  show({ (S.putB k m).2.look j with st:=(S.st.set j _).set j _ }:ChS)=_
  rw[List.set_set,←hS']
  rfl
 | some k2 =>
  dsimp only
  by_cases hi:(K4 n S.md (S.st.drop (j+1)) (j+1) (TM.beh (TM.beh (S.md.getD ((atN (S.atS j).to p).getD 0) []) (S.md.getD m [])) (TM.bk n (S.md.getD k2 []))) []).isSome=true
  ·rw[if_pos hi,if_pos hi]
  ·rw[if_neg hi,if_neg hi]
   dsimp only
   refine Prod.ext ?_ rfl
   dsimp only
   generalize (((S.putB ((atN (S.atS j).to p).getD 0) m).2.putK n k2).2.putB (S.putB ((atN (S.atS j).to p).getD 0) m).1 ((S.putB ((atN (S.atS j).to p).getD 0) m).2.putK n k2).1)=Y
   show({ Y.2 with st:=(S.st.set j _).set (j+1) _ }:ChS)=({ Y.2 with st:=(S.st.set (j+1) _).set j _ }:ChS)
   rw[List.set_comm _ _ (show j≠j+1 by lia)]
   have e:(({ Y.2 with st:=S.st.set (j+1) ((S.atS (j+1)).putM Y.1) }:ChS)).atS j=S.atS j:=by
    unfold ChS.atS
    rw[au,bY (by lia),au]
   rw[e]
theorem xs5 {l:List StS}(h:∀s∈l,s.lk<=b):(l.map StS.lk).sum<=l.length*b:=by
 induction l with
 | nil=>simp
 | cons x r ih =>
  have h1:=h x ax
  have h2:=ih λs hs=>h s (av _ hs)
  rw[aQ,fj,aC,eQ,eP]
  lia
theorem ChS.Inv.wt_le {S:ChS}(hn:n<=60)(h:S.Inv n)(hj:j<n):(S.atS j).wt.length<=21240:=by
 rw[h.wl j]
 have h1:=h.ring hj
 have h2:=h.few hn j
 exact aO (fO (aO h1 hn) h2) (by decide)
theorem ChS.mem_at {S:ChS}(h:s∈S.st):∃j,j<S.st.length/\S.atS j=s:=by
 obtain⟨j,hj,e⟩:=bg.mp h
 exact⟨j,hj,by rw[ChS.atS_of (ae hj),e]⟩
theorem ChS.Inv.looks_le {S:ChS}(hn:n<=60)(h:S.Inv n):S.looks<=1274400:=by
 have q:=xs5 (l:=S.st) (b:=21240) λs hs=>by
  obtain⟨j,hj,rfl⟩:=ChS.mem_at hs
  exact aO (h.lk j) (h.wt_le hn (by rw[←h.len];exact hj))
 unfold ChS.looks
 rw[h.len]at q
 have:n*21240<=60*21240:=dE _ hn
 lia
theorem ChS.Inv.few_look {S:ChS}(hn:n<=60)(h:S.Inv n)(hj:j<n)(hc:c<=1000)(b1:S.ln.length<=3*S.looks+c)(b2:S.bl.length<=S.looks+c):(S.look j).Few/\(S.look j).Fine n:=by
 have q:=h.looks_le hn
 have hj':j<S.st.length:=by rw[h.len];exact hj
 refine⟨⟨by show S.ln.length<_;lia,by show S.bl.length<_;lia,λs hs=>?_⟩,ChS.Fine.set (M5.refl h.fine h.fine.pos) (λy hy=>h.fine.tolt hy) (λy hy=>h.fine.mvlt hy)⟩
 obtain⟨i,hi,rfl⟩:=ChS.mem_at hs
 have hi:i<n:=by
  have e:(S.look j).st.length=S.st.length:=bV
  rw[e,h.len]at hi;exact hi
 obtain⟨e1,e2,e3⟩:=ChS.look_mv hj' i
 rw[e1,e2,e3]
 have h1:=h.few hn i
 have h2:=h.ring hi
 have h3:=h.wt_le hn hi
 exact⟨by lia,by lia,by lia⟩
theorem C2 {X:Cx}{C:Addr}{o:Expr}{ta:TE}{apos pos:Pos}{pl:Sem Bool}(c:Cls X.K C)(kn:Y5 X.prog X.w X.K X.mg X.base k C m ps sp)(hr:Z8 j X.A)(ho:PE X o ta)(hj:k<=j:=by decide)
  (ht:eval (.Call (.Attribute o m apos) [] [] pos) X.env=(do
   let v ←eval o X.env
   standAt apos.atName
   let (f,first) ←holding [v] (getMethod v m pl)
   callWith pos f first (backTo pos (gl [] X.env)) (backToKw pos (gA [] X.env))):=by rfl):PE X (.Call (.Attribute o m apos) [] [] pos) (yi8 C m sp [] E0 ta xs9):=by
 obtain⟨f,fd,G,hm,hb⟩:=kn
 exact xd6 ho c hm G (hr.mono hj) hb .nil zw3 ht
def yi3 (cC cB cS:Addr):Sp:=λvs H Q _=>∃(A:ChA) (S:ChS) (n c:Nat),vs=[.ref A.c]/\u9 cC cB cS n H A S/\S.Inv n/\0<n/\n<=60/\(∀i,0<i->i<n->S.Done i)/\c<=1000/\S.ln.length<=3*S.looks+c/\S.bl.length<=S.looks+c /\
 ∀(S':ChS) (H':Hp),y8 A.all H H'->u9 cC cB cS n H' A S'->S'.Inv n->(∀i,i<n->S'.Done i)->S'.chn.mv 0=S.chn.mv 0->S'.src=S.src->S'.ln.length<=3*S'.looks+c->S'.bl.length<=S'.looks+c->Q .non H'
theorem Y9:x9 ["self","level","pair"] ["self"] (z9 O9):=scq
theorem zk8 (F:Fun K "settle" "Chain.settle" O9 f fd)(B:Blt mg)(cc:n4 K cC U6)(cs:n4 K cS E5)(MN:Y5 P w K mg base 1 cS "next_pair" ["self"] (xg2 cS))(MF:Y5 P w K mg base 4 cC "found_mover" ["self","level","place","mover"] (yr4 cC cB cS)):u8 P w K mg base CX0 5 f fd ["self"] (yi3 cC cB cS):=by
 refine F.ok Y9 (λvs H Q E h=>?_) (λcdv Ar outer sh H vs Q E hr h=>?_)
 ·obtain⟨A,S,n,c,rfl,_⟩:=h
  rfl
 obtain⟨A,S,n,c,rfl,ch0,iv0,hn0,hn,dn0,hc,bl0,bb0,q⟩:=h
 obtain⟨M,hM⟩:∃M:Nat,M=2000000:=⟨_,rfl⟩
 refine⟨_,y4 (u4 (i:=1) Y9.nd rfl (Or.inl rfl) w8)
  (z7 (zr0 PassesOwn.never (m9 xn9 (pv 1) w8 (l5 _))
   (y4 (u4 (i:=2) Y9.nd rfl (Or.inl rfl) (C2 cs.cls MN hr (k9 p5 (y9 (pv 0) rfl) (pv 1) (λ_ _=>rfl))))
   (z7 (i7 (zh8 (xr5 (pv 2))) (z7 (xd8 (i:=1) Y9.nd rfl (Or.inl rfl) w8 xp7))
    (z7 (i7 (W7 (Y7 cc.cls MF hr (pv 0) (z0 (pv 1) (z0 (k9 D6 (pv 2) w8 (λ_ _=>rfl)) (z0 (k9 D6 (pv 2) w8 (λ_ _=>rfl)) z5)))))
     (z7 (xd8 (i:=1) Y9.nd rfl (Or.inl rfl) w8 xp6)) r6))))))),?_⟩
 refine⟨λm σ H2=>∃(S2:ChS) (lv:Int) (v2:Option V),σ=[some (.ref A.c),some (.int lv),v2]/\-1<=lv/\lv<n/\m=2*(M-S2.looks)+(lv+1).toNat/\y8 A.all H H2/\u9 cC cB cS n H2 A S2/\S2.Inv n/\(∀i:Nat,lv<i->i<n->S2.Done i)/\(S2.chn.mv 0=S.chn.mv 0/\S2.src=S.src)/\S2.ln.length<=3*S2.looks+c/\S2.bl.length<=S2.looks+c,⟨_,S,0,none,rfl,by lia,by lia,rfl,y8.refl,ch0,iv0,λi hi hin=>dn0 i (by lia) hin,⟨rfl,rfl⟩,bl0,bb0⟩,?_⟩
 rintro m σ H2 ⟨S2,lv,v2,rfl,l1,l2,rfl,fr,ch,iv,dn,e0,b1,b2⟩
 refine⟨_,rfl,_,_,rfl,rfl,_,rfl,?_⟩
 by_cases hlv:0<=lv
 ·rw[decide_eq_true hlv]
  refine Y2 ⟨_,λσ' H' z=>z,?_⟩
  obtain⟨j,rfl⟩:∃j:Nat,lv=(j:Int):=⟨lv.toNat,by lia⟩
  have hj:j<n:=by lia
  have hj':j<S2.st.length:=by rw[iv.len];exact hj
  obtain⟨dxc,hc'⟩:=ch.c
  obtain⟨a,hAj⟩:∃a,A.st[j]?=some a:=⟨_,ae (by rw[ch.len.1];exact hj)⟩
  have hs:=ChS.get_at hj'
  have st:=ch.st j a _ hAj hs
  obtain⟨dxs,hsa⟩:=st.a
  have ga:atI (A.st.map λs=>V.ref s.a) ((j:Nat):Int)=some (V.ref a.a):=l9 (by rw[af,hAj];rfl)
  have hwl:=iv.wt_le hn hj
  refine⟨_,rfl,A.c,cC,dxc,_,_,rfl,hc',cc.cls,cc.no "steps" (by decide),rfl,_,rfl,A.l,_,_,_,rfl,rfl,SqL.of ch.l,ga,a.a,dxs,_,rfl,hsa,rfl,a,n,S2.md,j,S2.atS j,rfl,st,iv.lk j,by lia,λhd=>?_,λx r H3 hx hr3 fr3 st3=>?_⟩
  ·refine⟨_,rfl,_,rfl,Y2 ?_⟩
   refine⟨_,rfl,_,_,rfl,rfl,?_⟩
   refine⟨_,?_,S2,(j:Int)-1,_,rfl,by lia,by lia,rfl,fr,ch,iv,λi hi hin=>?_,e0,b1,b2⟩
   ·lia
   ·by_cases e:i=j
    ·rw[e];exact hd
    ·exact dn i (by lia) hin
  ·have nt:∀x∈[a.a],x∈a.all/\∀xs,H2 x≠some (.tup xs):=λx hx=>by
    rw[ar.mp hx]
    exact⟨by simp[StA.all],λxs z=>by rw[hsa]at z;cases z⟩
   have ch3:u9 cC cB cS n H3 A (S2.look j):=ch.step hAj nt fr3 st3
   obtain⟨few,fin⟩:=iv.few_look hn hj hc b1 b2
   have hw:=iv.wt' j x (aq hx)
   have nx:=iv.found hj hx (λi hi hin=>dn i (by lia) hin)
   have fl:=ChS.found_look (n:=n) (S:=S2) hj' x.1 x.2
   obtain⟨k,hk⟩:∃k,atN (S2.atS j).to x.1=some k:=by
    cases e:atN (S2.atS j).to x.1 with
    | none=>exact absurd hw.1 (U5.mp e)
    | some k=>exact⟨k,rfl⟩
   have hm:=iv.fine.mvlt hw.2
   obtain⟨dxc3,hc3⟩:=ch3.c
   have lks:=nx.inv.looks_le hn
   have lke:=nx.looks
   refine⟨_,rfl,_,rfl,g7 ?_⟩
   refine⟨_,rfl,A.c,dxc3,_,rfl,hc3,rfl,_,rfl,_,rfl,r,_,_,_,rfl,rfl,SqT.of hr3,rfl,_,rfl,r,_,_,_,rfl,rfl,SqT.of hr3,rfl,A,S2.look j,n,j,x.1,x.2,k,rfl,ch3,fin,iv.bks.of rfl rfl rfl rfl,few,hn,hj,by rw[(ChS.look_mv hj' j).2.1];exact hk,hm,λH4 fr4 ch4=>?_⟩
   rw[fl]at ch4 ⊢
   have fr':y8 A.all H H4:=fr.trans ((fr3.allS hAj λx hx=>(nt x hx).1).trans fr4)
   have ln':((S2.found n j x.1 x.2).1.look j).ln.length<=3*((S2.found n j x.1 x.2).1.look j).looks+c:=by have:=nx.ln;lia
   have bl':((S2.found n j x.1 x.2).1.look j).bl.length<=((S2.found n j x.1 x.2).1.look j).looks+c:=by have:=nx.bl;lia
   have e0':=And.intro (nx.mv0.trans e0.1) (nx.src.trans e0.2)
   refine⟨_,rfl,?_⟩
   cases hb:(S2.found n j x.1 x.2).2 with
   | true =>
    have hj1:=nx.more hb
    refine Y2 ?_
    refine⟨_,rfl,_,_,rfl,rfl,?_⟩
    refine⟨_,?_,(S2.found n j x.1 x.2).1.look j,(j:Int)+1,_,rfl,by lia,by lia,rfl,fr',ch4,nx.inv,λi hi hin=>nx.done i (by lia) hin (λ_=>by lia) (dn i (by lia) hin),e0',ln',bl'⟩
    lia
   | false =>
    refine g7 ?_
    refine⟨_,?_,(S2.found n j x.1 x.2).1.look j,(j:Int),_,rfl,by lia,by lia,rfl,fr',ch4,nx.inv,λi hi hin=>nx.done i (by lia) hin (λz=>by rw[hb]at z;cases z) (dn i (by lia) hin),e0',ln',bl'⟩
    lia
 ·rw[decide_eq_false hlv]
  refine g7 ?_
  exact q S2 H2 fr ch iv (λi hi=>dn i (by lia) hi) e0.1 e0.2 b1 b2
theorem zn7 {J:It}{fr:List Nat}{te:CT TE}{Q:Addr->Hp->Prop}{β:Type}(adr:β->Addr)(foot:β->List Addr)(R:Hp->Nat->β->Prop)(hz:n<=ge)
  (hR:∀(H H':Hp) (D:Addr) (xs:List V) (i:Nat) (b:β),R H i b->H D=some (.lst xs)->y8 [D] H H'->D∉foot b->R H' i b)
  (hstop:∀H,y6 H1 H->J.stop n H) (hgo:∀i H,i<n->y6 H1 H->J.go i H)
  (turn:∀(i:Nat) H x H2,i<n->y6 H1 H->J.yld i H x H2->H2=H/\∀C₀ s₀ H₀ fp,te C₀ s₀ H₀ fp (some x::fr.map λj=>(σ[j]?).getD none) H λv H4=>y6 H H4/\∃b,v=.ref (adr b)/\R H4 i b/\(foot b).Nodup/\∀a∈foot b,H a=none/\∃o,H4 a=some o)
  (fin:∀D H (bs:List β),H1 D=none->y6 H1 H->H D=some (.lst (bs.map λb=>V.ref (adr b)))->bs.length=n->(∀i b,bs[i]?=some b->R H i b)->(bs.map foot).flatten.Nodup->(∀b∈bs,∀a∈foot b,H1 a=none/\a≠D)->Q D H) :
  ∀D,H1 D=none->∃W:Nat->Nat->St->Hp->Prop,(∃m,W 0 m (P3 1 fr σ) (upd H1 D (.lst [])))/\∀i m σ' H',W i m σ' H' ->
  (J.stop i H'/\Q D H')∨(J.go i H'/\∀x H2,J.yld i H' x H2->∀C₀ s₀ H₀ fp,Q8 0 x σ' H2 λσ3 H3=>∃N:VK,te C₀ s₀ H₀ fp σ3 H3 N/\∀y H4,N y H4 ->
   ∃ys m',H4 D=some (.lst ys)/\ys.length<ge/\m'<m/\W (i+1) m' σ3 (upd H4 D (.lst (ys++[y])))):=by
 intro D hD
 refine⟨λi m σ' H'=>m=n-i/\i<=n/\y6 H1 H'/\(∃bs:List β,H' D=some (.lst (bs.map λb=>V.ref (adr b)))/\bs.length=i/\(∀k b,bs[k]?=some b->R H' k b)/\(bs.map foot).flatten.Nodup/\∀b∈bs,∀a∈foot b,H1 a=none/\a≠D/\∃o,H' a=some o)/\∃z,σ'=z::fr.map λj=>(σ[j]?).getD none,
  ⟨n,rfl,aP _,z8 hD _,⟨[],z4,rfl,λk b h=>(by simp at h),by simp,λb h=>(by cases h)⟩,none,rfl⟩,?_⟩
 rintro i m σ' H' ⟨rfl,hi,sm,⟨bs,hl,hbl,hRs,hnd,hft⟩,z,rfl⟩
 by_cases hlt:i<n
 ·refine .inr ⟨hgo i H' hlt sm,λx H2 yl C₀ s₀ H₀ fp=>?_⟩
  obtain⟨e,tn⟩:=turn i H' x H2 hlt sm yl
  subst e
  refine⟨_,tn C₀ s₀ H₀ fp,λv H4 ⟨s4,b,hv,hRb,hndb,hfb⟩=>?_⟩
  subst hv
  have hD4:=s4 _ _ hl
  have fr4:y8 [D] H4 (upd H4 D (.lst (bs.map (λb=>V.ref (adr b))++[V.ref (adr b)]))):=y8.upd y8.refl (by simp) _
  have hDb:D∉foot b:=λh=>by
   have:=(hfb D h).1
   rw[hl]at this
   cases this
  have hDbs:∀c∈bs,D∉foot c:=λc hc h=>(hft c hc D h).2.1 rfl
  refine⟨_,n-(i+1),hD4,by rw[aa,hbl];lia,by lia,rfl,hlt,λc o e=>?_,⟨bs++[b],by rw[z4,aH];rfl,by rw[ah,hbl];rfl,λk c hk=>?_,?_,λc hc a ha=>?_⟩,_,rfl⟩
  ·rw[z6 (y0 e hD)]
   exact s4 _ _ (sm _ _ e)
  ·by_cases hk':k<bs.length
   ·rw[aN hk']at hk
    have hm:=hDbs c (aq hk)
    exact hR H4 _ D _ k c (hR _ H4 D _ k c (hRs k c hk) hl (y6.frame s4) hm) hD4 fr4 hm
   ·have e:k=bs.length:=by
     have:=(al.mp hk).1
     rw[ah,bI]at this
     lia
    subst e
    rw[aX (ag _),cX]at hk
    obtain rfl:b=c:=by simpa using hk
    rw[hbl]
    exact hR H4 _ D _ i b hRb hD4 fr4 hDb
  ·rw[aH,List.flatten_append]
   refine bK.mpr ⟨hnd,by simpa using hndb,λa ha c hc e=>?_⟩
   subst e
   obtain⟨l,hl1,hl2⟩:=cV.mp ha
   obtain⟨b',hb',rfl⟩:=ay.mp hl1
   obtain⟨o,ho⟩:=(hft b' hb' a hl2).2.2
   have hc':a∈foot b:=by simpa using hc
   have:=(hfb a hc').1
   rw[ho]at this
   cases this
  ·rcases aF.mp hc with w|w
   ·obtain⟨h1,h2,o,ho⟩:=hft c w a ha
    exact⟨h1,h2,o,by rw[z6 h2];exact s4 _ _ ho⟩
   ·rw[ar.mp w]at ha
    obtain⟨h1,o,ho⟩:=hfb a ha
    have hne:a≠D:=λz=>by
     rw[z,hl]at h1
     cases h1
    exact⟨sm.free h1,hne,o,by rw[z6 hne];exact ho⟩
 ·have e:i=n:=by lia
  subst e
  exact .inl ⟨hstop H' sm,fin D H' bs hD sm hl hbl hRs hnd λb hb a ha=>⟨(hft b hb a ha).1,(hft b hb a ha).2.1⟩⟩
def ChS.new (n:Nat)(sr:Nat->List Nat):ChS:=⟨[.still],[List.range n],[(0,0)],(List.range n).map λi=>⟨[],[(i,0)],[],0⟩,sr⟩
def yr3 (cB:Addr):Sp:=λvs H Q _=>∃(x dx:Addr) (n:Nat),vs=[.ref x,.int n]/\H x=some (.ins cB dx [])/\n<=60 /\
 ∀(ll lm d:Addr) (H':Hp),[ll,lm,d].Nodup->H ll=none->H lm=none->H d=none->y8 [x] H H'->(∀(A:ChA) (sr:Nat->List Nat),A.b=x->A.ll=ll->A.lm=lm->A.d=d->S0 cB H' A (ChS.new n sr))->Q .non H'
theorem zi0:x9 ["self","many"] ["self","many"] (z9 Q9):=scq
theorem zy8 (F:Fun K "__init__" "Book.__init__" Q9 f fd)(B:Blt mg)(cb:n4 K cB zc3)(KS:o9 P w K mg base 1 "still" ["many"] zf4)(GS:zk4 mg "STILL_LINE" (.int 0)):u8 P w K mg base CX0 2 f fd ["self","many"] (yr3 cB):=by
 refine F.ok zi0 (λvs H Q E h=>?_) (λcdv Ar outer s H vs Q E hr h=>?_)
 ·obtain⟨x,dx,n,rfl,_⟩:=h
  rfl
 obtain⟨x,dx,n,rfl,hx,hn,q⟩:=h
 have hz:=V9
 refine⟨_,y4 (Z3 (pv 0) (c0 (z0 (C3 (z0 zb3 z5)) z5)) rfl)
  (y4 (Z3 (pv 0) (c0 (z0 (p6 KS hr rfl (z0 (pv 1) z5)) z5)) rfl)
  (z7 (Z3 (pv 0) (ya0 (zq8 (ze2 GS rfl) (ze2 GS rfl) ya4) rfl rfl (eK _ _) (by decide)) rfl))),?_⟩
 refine⟨(by show 1<=ge;lia),λlr hlr=>?_⟩
 have s1:=z8 hlr (.tup [V.str "still"])
 have e1:(upd H lr (.tup [V.str "still"])) lr=some (.tup (lnV .still)):=z4
 generalize upd H lr (.tup [V.str "still"])=H1 at s1 e1 ⊢
 refine⟨(by show 1<=ge;lia),λll hll=>?_⟩
 have s2:=s1.trans (z8 hll (.lst [V.ref lr]))
 have e2:=z8 hll (.lst [V.ref lr]) _ _ e1
 have l2:(upd H1 ll (.lst [V.ref lr])) ll=some (.lst [V.ref lr]):=z4
 have hll0:H ll=none:=s1.free hll
 generalize upd H1 ll (.lst [V.ref lr])=H2 at s2 e2 l2 ⊢
 refine⟨_,rfl,x,cB,dx,[],rfl,s2 _ _ hx,cb.cls,cb.no "lines" (by decide),by decide,?_⟩
 have xlr:lr≠x:=λz=>by subst z;rw[hx]at hlr;cases hlr
 have xll:ll≠x:=λz=>by subst z;rw[hx]at hll0;cases hll0
 have f3:y8 [x] H (upd H2 x (.ins cB dx (W1 "lines" (V.ref ll) []))):=y8.upd (y6.frame s2) (by simp) _
 have x3:(upd H2 x (.ins cB dx (W1 "lines" (V.ref ll) []))) x=some (.ins cB dx [("lines",.ref ll)]):=z4
 have e3:(upd H2 x (.ins cB dx (W1 "lines" (V.ref ll) []))) lr=some (.tup (lnV .still)):=by rw[z6 xlr];exact e2
 have l3:(upd H2 x (.ins cB dx (W1 "lines" (V.ref ll) []))) ll=some (.lst [V.ref lr]):=by rw[z6 xll];exact l2
 generalize upd H2 x (.ins cB dx (W1 "lines" (V.ref ll) []))=H3 at f3 x3 e3 l3 ⊢
 refine⟨_,rfl,n,rfl,by lia,λtr H4 htr s4 ht4=>⟨(by show 1<=ge;lia),λlm hlm=>?_⟩⟩
 have s5:=s4.trans (z8 hlm (.lst [V.ref tr]))
 have t5:=z8 hlm (.lst [V.ref tr]) _ _ ht4
 have m5:(upd H4 lm (.lst [V.ref tr])) lm=some (.lst [V.ref tr]):=z4
 have hlm3:H3 lm=none:=s4.free hlm
 generalize upd H4 lm (.lst [V.ref tr])=H5 at s5 t5 m5 ⊢
 have x5:=s5 _ _ x3
 refine⟨_,rfl,x,cB,dx,_,rfl,x5,cb.cls,cb.no "made" (by decide),by (show 1<1000;decide),?_⟩
 have xtr:tr≠x:=λz=>by subst z;rw[x3]at htr;cases htr
 have xlm:lm≠x:=λz=>by subst z;rw[x3]at hlm3;cases hlm3
 have ml:lm≠ll:=λz=>by subst z;rw[l3]at hlm3;cases hlm3
 have f6:y8 [x] H (upd H5 x (.ins cB dx (W1 "made" (V.ref lm) [("lines",.ref ll)]))):=y8.upd (f3.trans (y6.frame s5)) (by simp) _
 have x6:(upd H5 x (.ins cB dx (W1 "made" (V.ref lm) [("lines",.ref ll)]))) x=some (.ins cB dx [("lines",.ref ll),("made",.ref lm)]):=by rw[z4];rfl
 have e6:(upd H5 x (.ins cB dx (W1 "made" (V.ref lm) [("lines",.ref ll)]))) lr=some (.tup (lnV .still)):=by rw[z6 xlr];exact s5 _ _ e3
 have l6:(upd H5 x (.ins cB dx (W1 "made" (V.ref lm) [("lines",.ref ll)]))) ll=some (.lst [V.ref lr]):=by rw[z6 xll];exact s5 _ _ l3
 have t6:(upd H5 x (.ins cB dx (W1 "made" (V.ref lm) [("lines",.ref ll)]))) tr=some (.tup (tI (List.range n))):=by rw[z6 xtr];exact t5
 have m6:(upd H5 x (.ins cB dx (W1 "made" (V.ref lm) [("lines",.ref ll)]))) lm=some (.lst [V.ref tr]):=by rw[z6 xlm];exact m5
 have nn:H lm=none:=by
  cases e:H lm with
  | none=>rfl
  | some o =>
   have:=f3 lm o (by simpa using xlm) e
   rw[this]at hlm3
   cases hlm3
 generalize upd H5 x (.ins cB dx (W1 "made" (V.ref lm) [("lines",.ref ll)]))=H6 at f6 x6 e6 l6 t6 m6 ⊢
 refine λd hd=>⟨z4,[(Sum.inl 0,V.int 0)],rfl,by decide,?_⟩
 have s7:y6 H6 (upd (upd H6 d (.dK [])) d (.dK (U0 [] [(Sum.inl 0,V.int 0)]))):=λb o h=>by
  have hb:=y0 h hd
  rw[z6 hb,z6 hb];exact h
 have d7:(upd (upd H6 d (.dK [])) d (.dK (U0 [] [(Sum.inl 0,V.int 0)]))) d=some (.dK (kI [(0,0)])):=by rw[z4];rfl
 generalize upd (upd H6 d (.dK [])) d (.dK (U0 [] [(Sum.inl 0,V.int 0)]))=H7 at s7 d7 ⊢
 refine⟨_,rfl,x,cB,dx,_,rfl,s7 _ _ x6,cb.cls,cb.no "back_lines" (by decide),by (show 2<1000;decide),?_⟩
 have xd:d≠x:=λz=>by subst z;rw[x6]at hd;cases hd
 have dl:d≠ll:=λz=>by subst z;rw[l6]at hd;cases hd
 have dm:d≠lm:=λz=>by subst z;rw[m6]at hd;cases hd
 have nd:H d=none:=by
  cases e:H d with
  | none=>rfl
  | some o =>
   have:=f6 d o (by simpa using xd) e
   rw[this]at hd
   cases hd
 refine q ll lm d _ (by simp;exact⟨⟨Ne.symm ml,Ne.symm dl⟩,Ne.symm dm⟩) hll0 nn nd (y8.upd (f6.trans (y6.frame s7)) (by simp) _) λA sr hAb hAl hAm hAd=>?_
 subst hAb hAl hAm hAd
 refine⟨⟨dx,by rw[z4];rfl⟩,⟨[lr],by rw[z6 xll];exact s7 _ _ l6,.cons ?_ .nil⟩,⟨[tr],by rw[z6 xlm];exact s7 _ _ m6,.cons ?_ .nil⟩,by rw[z6 xd];exact d7,rfl⟩
 ·rw[z6 xlr];exact s7 _ _ e6
 ·rw[z6 xtr];exact s7 _ _ t6
def yr9 (cS:Addr):Sp:=λvs H Q _=>∃(x dx:Addr) (i n:Nat),vs=[.ref x,.int i,.int n]/\H x=some (.ins cS dx [])/\n<=60 /\
 ∀(A:StA) (H':Hp),A.a=x->A.all.Nodup->(∀a∈A.all,a≠x->H a=none)->y8 [x] H H'->Y0 cS n [List.range n] H' A i ⟨[],[(i,0)],[],0⟩->Q .non H'
theorem zi3:x9 ["self","place","many"] ["self","place","many"] (z9 P0):=scq
theorem n8 {f:Str}{fs':List (Str×V)}(e:W1 f v fs=fs'):∃H',upd H x (.ins cS dx (W1 f v fs))=H'/\y8 [x] H H'/\H' x=some (.ins cS dx fs'):=⟨_,rfl,y8.upd y8.refl (by simp) _,by rw[z4,e]⟩
theorem y8.keep (fr:y8 [x] H H')(h:H b=some o)(hb:b≠x):H' b=some o:=fr b o (by simpa using hb) h
theorem y8.free (fr:y8 [x] H H')(h:H' b=none)(hb:b≠x):H b=none:=by
 cases e:H b with
 | none=>rfl
 | some o =>
  rw[fr.keep e hb]at h
  cases h
theorem zz2 (F:Fun K "__init__" "Step.__init__" P0 f fd)(B:Blt mg)(cs:n4 K cS E5)(KS:o9 P w K mg base 1 "still" ["many"] zf4)(GS:zk4 mg "STILL_LINE" (.int 0)):u8 P w K mg base CX0 2 f fd ["self","place","many"] (yr9 cS):=by
 refine F.ok zi3 (λvs H Q E h=>?_) (λcdv Ar outer s H vs Q E hr h=>?_)
 ·obtain⟨x,dx,i,n,rfl,_⟩:=h
  rfl
 obtain⟨x,dx,i,n,rfl,hx,hn,q⟩:=h
 have hz:=V9
 refine⟨_,y4 (Z3 (pv 0) (pv 1) rfl)
  (y4 (Z3 (pv 0) (c0 z5) rfl)
  (y4 (Z3 (pv 0) (ya0 (zq8 (pv 1) (ze2 GS rfl) ya4) rfl rfl (eK _ _) (by decide)) rfl)
  (y4 (Z3 (pv 0) (ya0 (zq8 (pv 1) (p6 KS hr rfl (z0 (pv 2) z5)) ya4) rfl rfl (eK _ _) (by decide)) rfl)
  (y4 (Z3 (pv 0) (c0 z5) rfl)
  (z7 (Z3 (pv 0) w8 rfl)))))),?_⟩
 refine⟨_,rfl,_,rfl,x,cS,dx,[],rfl,hx,cs.cls,cs.no "place" (by decide),by decide,?_⟩
 obtain⟨H1,g1,f1,x1⟩:=n8 (H:=H) (x:=x) (cS:=cS) (dx:=dx) (f:="place") (v:=V.int i) (fs:=[]) (fs':=[("place",.int i)]) rfl
 rw[g1]
 refine⟨(by show 0<=ge;lia),λm hm=>?_⟩
 have s2:=z8 hm (.lst [])
 have m2:(upd H1 m (.lst [])) m=some (.lst []):=z4
 generalize upd H1 m (.lst [])=H2 at s2 m2 ⊢
 have xm:m≠x:=λz=>by subst z;rw[x1]at hm;cases hm
 refine⟨_,rfl,x,cS,dx,_,rfl,s2 _ _ x1,cs.cls,cs.no "movers" (by decide),by (show 1<1000;decide),?_⟩
 obtain⟨H3,g3,f3,x3⟩:=n8 (H:=H2) (x:=x) (cS:=cS) (dx:=dx) (f:="movers") (v:=V.ref m) (fs:=[("place",.int i)]) (fs':=[("place",.int i),("movers",.ref m)]) rfl
 rw[g3]
 have F3:y8 [x] H H3:=(f1.trans (y6.frame s2)).trans f3
 have m3:=f3.keep m2 xm
 refine λd hd=>⟨_,rfl,z4,[(Sum.inl (i:Int),V.int 0)],rfl,(by show 1<=15;decide),?_⟩
 have s4:y6 H3 (upd (upd H3 d (.dK [])) d (.dK (U0 [] [(Sum.inl (i:Int),V.int 0)]))):=λb o h=>by
  have hb:=y0 h hd
  rw[z6 hb,z6 hb];exact h
 have d4:(upd (upd H3 d (.dK [])) d (.dK (U0 [] [(Sum.inl (i:Int),V.int 0)]))) d=some (.dK (kI [(i,0)])):=by rw[z4];rfl
 generalize upd (upd H3 d (.dK [])) d (.dK (U0 [] [(Sum.inl (i:Int),V.int 0)]))=H4 at s4 d4 ⊢
 have xd:d≠x:=λz=>by subst z;rw[x3]at hd;cases hd
 have dm:d≠m:=λz=>by subst z;rw[m3]at hd;cases hd
 refine⟨_,rfl,x,cS,dx,_,rfl,s4 _ _ x3,cs.cls,cs.no "line_to" (by decide),by (show 2<1000;decide),?_⟩
 obtain⟨H5,g5,f5,x5⟩:=n8 (H:=H4) (x:=x) (cS:=cS) (dx:=dx) (f:="line_to") (v:=V.ref d) (fs:=[("place",.int i),("movers",.ref m)]) (fs':=[("place",.int i),("movers",.ref m),("line_to",.ref d)]) rfl
 rw[g5]
 have F5:y8 [x] H H5:=(F3.trans (y6.frame s4)).trans f5
 have m5:=f5.keep (s4 _ _ m3) xm
 have d5:=f5.keep d4 xd
 refine λe he=>⟨_,rfl,_,rfl,n,rfl,by lia,λtr H6 htr s6 ht6=>⟨s6 _ _ z4,[(Sum.inl (i:Int),V.ref tr)],rfl,(by show 1<=15;decide),?_⟩⟩
 have s6':y6 H5 H6:=(z8 he _).trans s6
 have te:tr≠e:=λz=>by subst z;rw[z4]at htr;cases htr
 have s7:y6 H5 (upd H6 e (.dK (U0 [] [(Sum.inl (i:Int),V.ref tr)]))):=λb o h=>by
  rw[z6 (y0 h he)];exact s6' _ _ h
 have e7:(upd H6 e (.dK (U0 [] [(Sum.inl (i:Int),V.ref tr)]))) e=some (.dK (kR [(i,0)] [tr])):=by rw[z4];rfl
 have t7:(upd H6 e (.dK (U0 [] [(Sum.inl (i:Int),V.ref tr)]))) tr=some (.tup (tI (List.range n))):=by rw[z6 te];exact ht6
 generalize upd H6 e (.dK (U0 [] [(Sum.inl (i:Int),V.ref tr)]))=H7 at s7 e7 t7 ⊢
 have xe:e≠x:=λz=>by subst z;rw[x5]at he;cases he
 have em:e≠m:=λz=>by subst z;rw[m5]at he;cases he
 have ed:e≠d:=λz=>by subst z;rw[d5]at he;cases he
 have xt:tr≠x:=λz=>by
  subst z
  rw[z6 te,x5]at htr
  cases htr
 refine⟨_,rfl,x,cS,dx,_,rfl,s7 _ _ x5,cs.cls,cs.no "back_from" (by decide),by (show 3<1000;decide),?_⟩
 obtain⟨H8,g8,f8,x8⟩:=n8 (H:=H7) (x:=x) (cS:=cS) (dx:=dx) (f:="back_from") (v:=V.ref e) (fs:=[("place",.int i),("movers",.ref m),("line_to",.ref d)]) (fs':=[("place",.int i),("movers",.ref m),("line_to",.ref d),("back_from",.ref e)]) rfl
 rw[g8]
 have F8:y8 [x] H H8:=(F5.trans (y6.frame s7)).trans f8
 have m8:=f8.keep (s7 _ _ m5) xm
 have d8:=f8.keep (s7 _ _ d5) xd
 have e8:=f8.keep e7 xe
 have t8:=f8.keep t7 xt
 refine⟨(by show 0<=ge;lia),λwa hw=>?_⟩
 have s9:=z8 hw (.lst [])
 have w9:(upd H8 wa (.lst [])) wa=some (.lst []):=z4
 generalize upd H8 wa (.lst [])=H9 at s9 w9 ⊢
 have xw:wa≠x:=λz=>by subst z;rw[x8]at hw;cases hw
 have wm:wa≠m:=λz=>by subst z;rw[m8]at hw;cases hw
 have wd:wa≠d:=λz=>by subst z;rw[d8]at hw;cases hw
 have we:wa≠e:=λz=>by subst z;rw[e8]at hw;cases hw
 refine⟨_,rfl,x,cS,dx,_,rfl,s9 _ _ x8,cs.cls,cs.no "waiting" (by decide),by (show 4<1000;decide),?_⟩
 obtain⟨H10,g10,f10,x10⟩:=n8 (H:=H9) (x:=x) (cS:=cS) (dx:=dx) (f:="waiting") (v:=V.ref wa) (fs:=[("place",.int i),("movers",.ref m),("line_to",.ref d),("back_from",.ref e)]) (fs':=[("place",.int i),("movers",.ref m),("line_to",.ref d),("back_from",.ref e),("waiting",.ref wa)]) rfl
 rw[g10]
 have F10:y8 [x] H H10:=(F8.trans (y6.frame s9)).trans f10
 refine⟨_,rfl,x,cS,dx,_,rfl,x10,cs.cls,cs.no "looked_at" (by decide),by (show 5<1000;decide),?_⟩
 obtain⟨H11,g11,f11,x11⟩:=n8 (H:=H10) (x:=x) (cS:=cS) (dx:=dx) (f:="looked_at") (v:=V.int 0) (fs:=[("place",.int i),("movers",.ref m),("line_to",.ref d),("back_from",.ref e),("waiting",.ref wa)]) (fs':=[("place",.int i),("movers",.ref m),("line_to",.ref d),("back_from",.ref e),("waiting",.ref wa),("looked_at",.int 0)]) rfl
 rw[g11]
 have F11:y8 [x] H H11:=F10.trans f11
 have k:∀{b:Addr} {o:HO},H8 b=some o->b≠x->H11 b=some o:=λh hb=>f11.keep (f10.keep (s9 _ _ h) hb) hb
 have w11:H11 wa=some (.lst []):=f11.keep (f10.keep w9 xw) xw
 have nd0:H d=none:=F3.free hd xd
 have nm0:H m=none:=f1.free hm xm
 have ne0:H e=none:=F5.free he xe
 have nw0:H wa=none:=F8.free hw xw
 refine q ⟨x,m,d,e,wa⟩ H11 rfl ?_ ?_ F11 ⟨⟨dx,x11⟩,k m8 xm,k d8 xd,⟨[tr],k e8 xe,.cons ?_ .nil⟩,⟨[],w11,.nil⟩⟩
 ·simp only[StA.all,aV,aw,aZ,not_or,or_false,bH,not_false_eq_true,eV,and_true]
  exact⟨⟨Ne.symm xm,Ne.symm xd,Ne.symm xe,Ne.symm xw⟩,⟨Ne.symm dm,Ne.symm em,Ne.symm wm⟩,⟨Ne.symm ed,Ne.symm wd⟩,Ne.symm we⟩
 ·intro a ha hax
  simp only[StA.all,aw,aZ,or_false,bH]at ha
  rcases ha with h|h|h|h|h
  ·exact absurd h hax
  ·rw[h];exact nm0
  ·rw[h];exact nd0
  ·rw[h];exact ne0
  ·rw[h];exact nw0
 ·show H11 tr=some (.tup (tI (TM.bk n (List.range n))))
  rw[TM.bk_still]
  exact k t8 xt
theorem ChS.new_at {sr:Nat->List Nat}(n j:Nat):(ChS.new n sr).atS j=if j<n then⟨[],[(j,0)],[],0⟩ else⟨[],[],[],0⟩:=by
 unfold ChS.atS ChS.new
 rw[au,af]
 by_cases h:j<n
 ·rw[bn h,if_pos h];rfl
 ·rw[aW (by rw[aS];lia),if_neg h];rfl
theorem ChS.new_mv {sr:Nat->List Nat}(n j:Nat):((ChS.new n sr).atS j).mv=[]:=by
 rw[ChS.new_at]
 by_cases h:j<n
 ·rw[if_pos h]
 ·rw[if_neg h]
theorem ChS.new_wt {sr:Nat->List Nat}(n j:Nat):((ChS.new n sr).atS j).wt=[]/\((ChS.new n sr).atS j).lk=0:=by
 rw[ChS.new_at]
 by_cases h:j<n
 ·rw[if_pos h];exact⟨rfl,rfl⟩
 ·rw[if_neg h];exact⟨rfl,rfl⟩
theorem ChS.new_nomv {sr:Nat->List Nat}(n j:Nat)(s:List Nat):¬(ChS.new n sr).chn.mv j s:=λ⟨k,hk,_⟩=>by
 rw[ChS.new_mv]at hk
 cases hk
theorem ChS.new_ring {sr:Nat->List Nat}(h:j<n):(ChS.new n sr).chn.ring j=[j]:=by
 show((ChS.new n sr).atS j).to.map Prod.fst=[j]
 rw[ChS.new_at,if_pos h]
 rfl
theorem ChS.new_up {sr:Nat->List Nat}(h:j<n)(p:Nat):(ChS.new n sr).chn.up j p=List.range n:=by
 show(ChS.new n sr).md.getD ((atN ((ChS.new n sr).atS j).to p).getD 0) []=_
 have e:(atN ((ChS.new n sr).atS j).to p).getD 0=0:=by
  rw[ChS.new_at,if_pos h]
  unfold atN
  by_cases q:j=p
  ·rw[dw (by simpa using q)];rfl
  ·rw[dz (by simpa using q)];rfl
 rw[e]
 rfl
theorem ChS.new_inv {sr:Nat->List Nat}(n:Nat):(ChS.new n sr).Inv n where
 fine:=by
  refine⟨⟨λt ht=>?_,λs hs x hx=>?_,λs hs k hk=>?_⟩,rfl,eM,rfl⟩
  ·rw[ar.mp ht];exact TM.IsT.range n
  ·obtain⟨i,hi,rfl⟩:=ay.mp hs
   rw[ar.mp hx]
   exact⟨bv.mp hi,eM⟩
  ·obtain⟨i,hi,rfl⟩:=ay.mp hs
   cases hk
 bks:=by
  refine⟨λi k h=>?_,λi l t h1 h2=>?_⟩
  ·have h:atN [(0,0)] i=some k:=h
   have hm:=R9 h
   have e:=ar.mp hm
   have e1:i=0:=congrArg Prod.fst e
   have e2:k=0:=congrArg Prod.snd e
   subst e1;subst e2
   refine⟨eM,eM,?_⟩
   show List.range n=TM.bk n (List.range n)
   rw[TM.bk_still]
  ·have h1:[TM.Ln.still][i]?=some l:=h1
   have h2:[List.range n][i]?=some t:=h2
   match i,h1,h2 with
   | 0,h1,h2 =>
    cases h1
    cases h2
    rfl
 len:=by show((List.range n).map _).length=n;rw[aa,aS]
 ok:=by
  refine⟨λj s h=>absurd h (ChS.new_nomv n j s),λj s h=>absurd h (ChS.new_nomv n j s),λj s h=>absurd h (ChS.new_nomv n (j+1) s),λj s _=>ChS.new_nomv n j s,λj h=>?_,λj p h hp=>?_,λj h=>?_,λj p h hp=>?_,λj p h hp=>?_,λj h=>ChS.new_up h j⟩
  ·rw[ChS.new_ring h];simp
  ·rw[ChS.new_ring h]at hp;rw[ar.mp hp];exact h
  ·rw[ChS.new_ring h];simp
  ·rw[ChS.new_up h];exact .one
  ·rw[ChS.new_ring h]at hp;rw[ChS.new_up h,TM.still_get h,ar.mp hp]
 lk:=λj=>by rw[(ChS.new_wt n j).2];exact aP _
 wl:=λj=>by rw[(ChS.new_wt n j).1,ChS.new_mv];simp
 wt:=λj p m _ hm=>by rw[ChS.new_mv]at hm;cases hm
 wt':=λj x hx=>by rw[(ChS.new_wt n j).1]at hx;cases hx
 good:=λj x hx=>by rw[(ChS.new_wt n j).1,List.take_nil]at hx;cases hx
 ind:=λj=>by
  rw[ChS.new_mv]
  intro i s h
  simp at h
theorem ChS.new_done {sr:Nat->List Nat}(n j:Nat):(ChS.new n sr).Done j:=by
 unfold ChS.Done
 rw[(ChS.new_wt n j).1,(ChS.new_wt n j).2]
 rfl
def yh7 (cC cB cS:Addr):Sp:=λvs H Q _=>∃(x dx:Addr) (n:Nat),vs=[.ref x,.int n]/\H x=some (.ins cC dx [])/\n<=60 /\
 ∀(A:ChA) (H':Hp),A.c=x->(∀a∈A.all,a≠x->H a=none)->y8 [x] H H'->(∀sr:Nat->List Nat,u9 cC cB cS n H' A (ChS.new n sr))->Q .non H'
theorem ze6:x9 ["self","many"] ["self","many"] (z9 R0):=scq
theorem zt5 (F:Fun K "__init__" "Chain.__init__" R0 f fd)(B:Blt mg)(cc:n4 K cC U6)(KB:zt3 P w K mg base 2 cB "Book" ["self","many"] (yr3 cB))(KT:zt3 P w K mg base 2 cS "Step" ["self","place","many"] (yr9 cS)):u8 P w K mg base CX0 4 f fd ["self","many"] (yh7 cC cB cS):=by
 refine F.ok ze6 (λvs H Q E h=>?_) (λcdv Ar outer s H vs Q E hr h=>?_)
 ·obtain⟨x,dx,n,rfl,_⟩:=h
  rfl
 obtain⟨x,dx,n,rfl,hx,hn,q⟩:=h
 have hz:=V9
 refine⟨_,y4 (Z3 (pv 0) (O6 KB hr rfl (z0 (pv 1) z5)) rfl)
  (z7 (Z3 (pv 0) (Z6 [1] ["place","many"] rfl (K2 rfl B.range (z0 (pv 1) z5)) (λ_ _ _ _=>O6 KT hr rfl (z0 (pv 0) (z0 (pv 1) z5)))) rfl)),?_⟩
 refine⟨_,rfl,λb db hb hdb hne=>⟨b,db,n,rfl,z4,hn,λll lm d H1 hnd hll hlm hd fr bk=>⟨rfl,?_⟩⟩⟩
 have s0:y6 H (upd (upd H db (.own b)) b (.ins cB db [])):=λc o h=>by
  rw[z6 (y0 h hb),z6 (y0 h hdb)];exact h
 have fre:∀{c:Addr},(upd (upd H db (.own b)) b (.ins cB db [])) c=none->H c=none:=λ{c} h=>s0.free h
 have cb:∀{c:Addr},(upd (upd H db (.own b)) b (.ins cB db [])) c=none->c≠b:=λ{c} h z=>by
  rw[z,z4]at h
  cases h
 have s1:y6 H H1:=λc o h=>fr c o (by simpa using y0 h hb) (s0 _ _ h)
 have xb:b≠x:=λz=>by subst z;rw[hx]at hb;cases hb
 refine⟨_,rfl,x,cC,dx,[],rfl,s1 _ _ hx,cc.cls,cc.no "book" (by decide),by decide,?_⟩
 obtain⟨H2,g2,f2,x2⟩:=n8 (H:=H1) (x:=x) (cS:=cC) (dx:=dx) (f:="book") (v:=V.ref b) (fs:=[]) (fs':=[("book",.ref b)]) rfl
 rw[g2]
 have F2:y8 [x] H H2:=(y6.frame s1).trans f2
 have xl:ll≠x:=λz=>by have:=fre hll;rw[z,hx]at this;cases this
 have xm:lm≠x:=λz=>by have:=fre hlm;rw[z,hx]at this;cases this
 have xd:d≠x:=λz=>by have:=fre hd;rw[z,hx]at this;cases this
 obtain⟨A0,hA0⟩:∃A0:ChA,A0=⟨x,b,ll,lm,d,x,[]⟩:=⟨_,rfl⟩
 have bk1:=λsr=>bk A0 sr (by rw[hA0]) (by rw[hA0]) (by rw[hA0]) (by rw[hA0])
 have hA0b:A0.b=b:=by rw[hA0]
 have hA0l:A0.ll=ll:=by rw[hA0]
 have hA0m:A0.lm=lm:=by rw[hA0]
 have hA0d:A0.d=d:=by rw[hA0]
 have keep:∀{H3:Hp},y8 [x] H1 H3->∀sr:Nat->List Nat,S0 cB H3 A0 (ChS.new n sr):=λ{H3} fr3 sr=>by
  obtain⟨⟨dxb,h1⟩,⟨las,h2,h2'⟩,⟨mas,h3,h3'⟩,h4,h5⟩:=id (bk1 sr)
  have hx1:=s1 _ _ hx
  have kt:∀{c:Addr} {xs:List V},H1 c=some (.tup xs)->H3 c=some (.tup xs):=λ{c xs} e=>fr3.keep e (λz=>by subst z;rw[hx1]at e;cases e)
  exact⟨⟨dxb,fr3.keep h1 (by rw[hA0b];exact xb)⟩,⟨las,fr3.keep h2 (by rw[hA0l];exact xl),Paired.imp' (λ_ _ z=>kt z) h2'⟩,⟨mas,fr3.keep h3 (by rw[hA0m];exact xm),Paired.imp' (λ_ _ z=>kt z) h3'⟩,fr3.keep h4 (by rw[hA0d];exact xd),h5⟩
 have bk2:=keep f2 λ_=>[]
 refine⟨_,rfl,(n:Int),rfl,by lia,by lia,?_⟩
 rw[show((n:Int)).toNat=n by lia]
 refine zn7 (J:=Itr 0 n) StA.a StA.all (λH i b=>Y0 cS n [List.range n] H b i ⟨[],[(i,0)],[],0⟩) (n:=n) (by lia) (λH3 H4 D xs i b st hD fr hDb=>st.frame fr λy hy=>?_) (λ_ _=>ag _) (λi _ hi _=>hi) ?_ ?_
 ·rw[ar.mp hy]
  exact⟨hDb,λys z=>by rw[hD]at z;cases z⟩
 ·rintro i H3 v H4 hi s3 ⟨rfl,rfl⟩
  refine⟨rfl,λ_ _ _ _=>?_⟩
  rw[show(0:Int)+(i:Int)=(i:Int) by lia]
  refine⟨_,rfl,_,rfl,λy dy hy hdy hyne=>⟨y,dy,i,n,rfl,z4,hn,λA H5 hA nd free fr5 st=>⟨rfl,λc o h=>?_,A,by rw[hA],st,nd,λa ha=>⟨?_,?_⟩⟩⟩⟩
  ·exact fr5 c o (by simpa using y0 h hy) (by rw[z6 (y0 h hy),z6 (y0 h hdy)];exact h)
  ·by_cases e:a=y
   ·rw[e];exact hy
   ·have:=free a ha e
    rw[z6 e]at this
    by_cases e2:a=dy
    ·rw[e2];exact hdy
    ·rwa [z6 e2]at this
  ·obtain⟨⟨dxs,h1⟩,h2,h3,⟨bs,h4,_⟩,⟨ws,h5,_⟩⟩:=st
   simp only[StA.all,aw,aZ,or_false,bH]at ha
   rcases ha with e|e|e|e|e <;> rw[e]
   ·exact⟨_,h1⟩
   ·exact⟨_,h2⟩
   ·exact⟨_,h3⟩
   ·exact⟨_,h4⟩
   ·exact⟨_,h5⟩
 ·intro D H3 bs hD s3 hl hbl hst hnd2 hfree
  have hDx:D≠x:=λz=>by subst z;rw[x2]at hD;cases hD
  refine⟨_,rfl,x,cC,dx,_,rfl,s3 _ _ x2,cc.cls,cc.no "steps" (by decide),by (show 1<1000;decide),?_⟩
  obtain⟨H4,g4,f4,x4⟩:=n8 (H:=H3) (x:=x) (cS:=cC) (dx:=dx) (f:="steps") (v:=V.ref D) (fs:=[("book",.ref b)]) (fs':=[("book",.ref b),("steps",.ref D)]) rfl
  rw[g4]
  have F4:y8 [x] H H4:=(F2.trans (y6.frame s3)).trans f4
  have bk4:=keep ((f2.trans (y6.frame s3)).trans f4)
  have hb2:H2 b≠none:=λz=>by
   obtain⟨dxb,h1⟩:=bk2.b
   rw[hA0b,z]at h1
   cases h1
  have hl2:H2 ll≠none:=λz=>by
   obtain⟨las,h1,_⟩:=bk2.ll
   rw[hA0l,z]at h1
   cases h1
  have hm2:H2 lm≠none:=λz=>by
   obtain⟨las,h1,_⟩:=bk2.lm
   rw[hA0m,z]at h1
   cases h1
  have hd2:H2 d≠none:=λz=>by
   have h1:=bk2.d
   rw[hA0d,z]at h1
   cases h1
  have hx2:H2 x≠none:=λz=>by rw[x2]at z;cases z
  refine q ⟨x,b,ll,lm,d,D,bs⟩ H4 rfl ?_ F4 λsr=>⟨?_,⟨dx,x4⟩,?_,f4.keep hl hDx,⟨hbl,?_⟩,λi a s ha hs=>?_⟩
  ·intro a ha hax
   simp only[ChA.all,aF,aw,aZ,or_false,bH]at ha
   rcases ha with (e|e|e|e|e|e)|e
   ·exact absurd e hax
   ·rw[e];exact hb
   ·rw[e];exact fre hll
   ·rw[e];exact fre hlm
   ·rw[e];exact fre hd
   ·rw[e];exact F2.free hD hDx
   ·obtain⟨l,hl1,hl2⟩:=cV.mp e
    obtain⟨b',hb',rfl⟩:=ay.mp hl1
    exact F2.free (hfree b' hb' a hl2).1 hax
  ·refine bK.mpr ⟨?_,hnd2,λa ha c hc e=>?_⟩
   ·simp only[aV,aw,aZ,not_or,or_false,bH,not_false_eq_true,eV,and_true]at hnd ⊢
    refine⟨⟨Ne.symm xb,Ne.symm xl,Ne.symm xm,Ne.symm xd,Ne.symm hDx⟩,⟨Ne.symm (cb hll),Ne.symm (cb hlm),Ne.symm (cb hd),λz=>hb2 (z ▸ hD)⟩,⟨hnd.1.1,hnd.1.2,λz=>hl2 (z ▸ hD)⟩,⟨hnd.2,λz=>hm2 (z ▸ hD)⟩,λz=>hd2 (z ▸ hD)⟩
   ·subst e
    obtain⟨l,hl1,hl3⟩:=cV.mp hc
    obtain⟨b',hb',rfl⟩:=ay.mp hl1
    obtain⟨h1,h2⟩:=hfree b' hb' a hl3
    simp only[aw,aZ,or_false,bH]at ha
    rcases ha with e|e|e|e|e|e
    ·rw[e]at h1;exact hx2 h1
    ·rw[e]at h1;exact hb2 h1
    ·rw[e]at h1;exact hl2 h1
    ·rw[e]at h1;exact hm2 h1
    ·rw[e]at h1;exact hd2 h1
    ·exact h2 e
  ·obtain⟨h1,h2,h3,h4,h5⟩:=bk4 sr
   rw[hA0b,hA0l,hA0m,hA0d]at h1
   rw[hA0l]at h2
   rw[hA0m]at h3
   rw[hA0d]at h4
   exact⟨h1,h2,h3,h4,h5⟩
  ·show((List.range n).map _).length=n
   rw[aa,aS]
  ·have hi:i<n:=by rw[←hbl];exact(al.mp ha).1
   have hs:((List.range n).map λi=>(⟨[],[(i,0)],[],0⟩:StS))[i]?=some s:=hs
   rw[af,bn hi]at hs
   cases hs
   have hxa:x∉a.all:=λz=>hx2 (hfree a (aq ha) x z).1
   refine(hst i a ha).frame f4 λy hy=>?_
   rw[ar.mp hy]
   exact⟨hxa,λxs z=>by rw[s3 _ _ x2]at z;cases z⟩
theorem yy7 :∀t:List Nat,Dts H (tI t) (t.map λ(x:Nat)=>PyData.int x)
 | []=>.nil
 | x::r=>.cons (.int _) (yy7 r)
theorem yw2 {t:List Nat}(h:TM.IsT n t)(h1:1<=n)(h60:n<=60):c5 (.tuple (t.map λ(x:Nat)=>PyData.int x))=true:=by
 have hl:=h.length
 have e1:za2 (t.map λ(x:Nat)=>PyData.int x)=t.map λ(x:Nat)=>(x:Int):=by
  clear h hl
  induction t with
  | nil=>rfl
  | cons x r ih =>
   show(x:Int)::za2 (r.map λ(x:Nat)=>PyData.int x)=(x:Int)::r.map λ(x:Nat)=>(x:Int)
   rw[ih]
 have e2:yr1 (t.map λ(x:Nat)=>(x:Int))=yg8 n:=by
  refine(yh5 ?_ ?_).symm
  ·exact(List.Perm.map (λ(x:Nat)=>(x:Int)) (show t.Perm (List.range n) from h)).symm
  ·unfold yg8
   exact bB.mpr ((List.pairwise_lt_range (n:=n)).imp λh=>by lia)
 have e3:(t.map λ(x:Nat)=>PyData.int x).all isW=true:=by
  rw[fR]
  exact bu.mpr λ_ _=>rfl
 show((decide (1<=(t.map λ(x:Nat)=>PyData.int x).length)&&decide ((t.map λ(x:Nat)=>PyData.int x).length<=60))&&((t.map λ(x:Nat)=>PyData.int x).all isW&&decide (yr1 (za2 (t.map λ(x:Nat)=>PyData.int x))=yg8 (t.map λ(x:Nat)=>PyData.int x).length)))=true
 rw[e1,e2,e3,aa,hl,decide_eq_true h1,decide_eq_true h60,decide_eq_true rfl]
 rfl
theorem ChS.Backs.told {S:ChS}(b:S.Backs n)(f:S.ln.length=S.md.length)(h:S.src k=t):(S.put (.told k) t).Backs n:=by
 refine⟨λi k' h=>?_,b.mks.put f (l:=.told k) h.symm⟩
 obtain⟨h1,h2,h3⟩:=b.bk i k' h
 have hmd:(S.put (.told k) t).md=S.md++[t]:=rfl
 refine⟨by rw[hmd,ah];lia,by rw[hmd,ah];lia,?_⟩
 rw[hmd,d6 h2,d6 h1,h3]
structure ChS.Full (S:ChS) (c:Nat):Prop where
 ln:S.ln.length<=3*S.looks+c
 bl:S.bl.length<=S.looks+c
structure ChS.Set (n:Nat) (S:ChS):Prop where
 inv:S.Inv n
 done:∀i,i<n->S.Done i
def xg6 (cC cB cS:Addr):Sp:=λvs H Q _=>∃(A:ChA) (S:ChS) (n c k:Nat) (tr:Addr) (t:List Nat),vs=[.ref A.c,.int k,.ref tr]/\u9 cC cB cS n H A S/\S.Set n/\0<n/\n<=60/\c<1000/\S.Full c/\H tr=some (.tup (tI t))/\TM.IsT n t/\(¬TM.Grp n (S.chn.mv 0) t->S.src k=t) /\
 ∀(b:Bool) (S':ChS) (H':Hp),y8 A.all H H'->u9 cC cB cS n H' A S'->S'.Set n->S'.src=S.src->S'.Full (c+1)->(∀x,TM.Grp n (S'.chn.mv 0) x↔TM.Grp n (λz=>S.chn.mv 0 z∨z=t) x)->(b=false↔TM.Grp n (S.chn.mv 0) t)->Q (.bl b) H'
theorem zu6:x9 ["self","number","maker"] ["self","number","maker"] (z9 J3):=scq
theorem zt6 (F:Fun K "take" "Chain.take" J3 f fd)(B:Blt mg)(cc:n4 K cC U6)(cb:n4 K cB zc3)(cs:n4 K cS E5)(MP:Y5 P w K mg base 1 cB "put" ["self","line","turning"] (yr8 cB))(MPM:Y5 P w K mg base 1 cS "put_mover" ["self","mover"] (yn5 cS))
  (MH:Y5 P w K mg base 3 cC "holds" ["self","turning","level"] (zm5 cC cB cS)) (MS:Y5 P w K mg base 5 cC "settle" ["self"] (yi3 cC cB cS)):u8 P w K mg base CX0 6 f fd ["self","number","maker"] (xg6 cC cB cS):=by
 refine F.ok zu6 (λvs H Q E h=>?_) (λcdv Ar outer sh H vs Q E hr h=>?_)
 ·obtain⟨A,S,n,c,k,tr,t,rfl,_⟩:=h
  rfl
 obtain⟨A,S,n,c,k,tr,t,rfl,ch,st,hn0,hn,hc,ye4,htr,tT,hsrc,q⟩:=h
 have iv:=st.inv
 have hz:=V9
 obtain⟨dxc,hcc⟩:=ch.c
 refine⟨_,y4 (i7 (W7 (Y7 cc.cls MH hr (pv 0) (z0 (pv 2) (z0 w8 z5)))) (z7 (v1 W4)) r6)
  (y4 (i6 (Y7 cs.cls MPM hr (k9 p5 (y9 (pv 0) rfl) w8 (λ_ _=>rfl)) (z0 (Y7 cb.cls MP hr (y9 (pv 0) rfl) (z0 (C3 (z0 zb3 (z0 (pv 1) z5))) (z0 (pv 2) z5))) z5)))
  (y4 (i6 (C2 cc.cls MS hr (pv 0)))
  (z7 (v1 W4)))),?_⟩
 refine⟨_,rfl,A.c,dxc,_,rfl,hcc,rfl,_,rfl,A,S,n,0,tr,t,rfl,ch,iv.fine.wl,htr,tT,aP _,hn,λH1 s1=>⟨_,rfl,?_⟩⟩
 have hol:=iv.holds (j:=0) (aP _) (λi _ hi=>st.done i hi) tT (TM.Fix.zero t)
 have hS:∀z,S.chn.mv 0 z->TM.IsT n z:=iv.ok.mvT 0
 have hS':∀z,(S.chn.mv 0 z∨z=t)->TM.IsT n z:=λz h=>h.elim (hS z) λe=>by rw[e];exact tT
 cases hb:(K4 n S.md (S.st.drop 0) 0 t []).isSome with
 | true =>
  have hg:=hol.mp hb
  refine Y2 ?_
  refine q false S H1 (y6.frame s1) (ch.same s1) st rfl ⟨by have:=ye4.ln;lia,by have:=ye4.bl;lia⟩ (λx=>⟨λh=>TM.Grp.mono hS' (λz hz=>TM.Grp.of hS' (.inl hz)) h,λh=>TM.Grp.mono hS (λz hz=>?_) h⟩) ⟨λ_=>hg,λ_=>rfl⟩
  rcases hz with h|h
  ·exact TM.Grp.of hS h
  ·rw[h];exact hg
 | false =>
  have hg:¬TM.Grp n (S.chn.mv 0) t:=λh=>by rw[hol.mpr h]at hb;cases hb
  refine g7 ?_
  have ch1:=ch.same s1
  obtain⟨dxc1,hc1⟩:=ch1.c
  obtain⟨dxb1,hb1⟩:=ch1.bk.b
  have hn0':0<S.st.length:=by rw[iv.len];exact hn0
  obtain⟨a,hA⟩:∃a,A.st[0]?=some a:=⟨_,ae (by rw[ch.len.1];exact hn0)⟩
  have hs:=ChS.get_at hn0'
  have st1:=ch1.st 0 a _ hA hs
  obtain⟨dxs1,hsa1⟩:=st1.a
  have ga:atI (A.st.map λs=>V.ref s.a) 0=some (V.ref a.a):=l9 (j:=0) (by rw[af,hA];rfl)
  have ndh:=ChA.head_nd ch.nd
  simp only[aV,aw,aZ,not_or,or_false]at ndh
  have lne:A.ll≠A.lm:=ndh.2.2.1.1
  have nda:=ChA.step_nd ch.nd hA
  simp only[StA.all,aV,aw,aZ,not_or,or_false]at nda
  have lks:=iv.looks_le hn
  have fl:=ye4.ln
  have fb:=ye4.bl
  refine⟨_,rfl,A.c,cC,dxc1,_,_,rfl,hc1,cc.cls,cc.no "steps" (by decide),rfl,A.l,_,_,_,rfl,rfl,SqL.of ch1.l,ga,a.a,dxs1,_,rfl,hsa1,rfl,?_⟩
  refine⟨_,rfl,A.c,cC,dxc1,_,_,rfl,hc1,cc.cls,cc.no "book" (by decide),rfl,A.b,dxb1,_,rfl,hb1,rfl,_,rfl,(by show 2<=ge;lia),λlr hlr=>?_⟩
  have s2:=z8 hlr (.tup [V.str "told",V.int k])
  have el:(upd H1 lr (.tup [V.str "told",V.int k])) lr=some (.tup (lnV (.told k))):=z4
  generalize upd H1 lr (.tup [V.str "told",V.int k])=H2 at s2 el ⊢
  have ch2:=ch1.same s2
  refine⟨_,rfl,A,S,lr,tr,.told k,t,rfl,ch2.bk,lne,el,s2 _ _ (s1 _ _ htr),by lia,λH3 fr3 bk3=>?_⟩
  have m:=iv.fine.put (l:=.told k) tT
  have ch3:u9 cC cB cS n H3 A (S.put (.told k) t):=ch2.book (fr3.more λx hx=>by simp at hx ⊢;rcases hx with e|e <;> simp[e]) bk3 rfl (λs hs x hx=>m.at_ (iv.fine.wl.to s hs x hx).2)
  have st3:=ch3.st 0 a _ hA hs
  have few:=iv.few hn 0
  have rg:=iv.ring hn0
  have wle:=iv.wt_le hn hn0
  refine⟨a,n,_,0,S.ln.length,S.atS 0,rfl,st3,nda.2.1.2.2,by lia,by lia,by lia,λH4 fr4 st4=>?_⟩
  have nt:∀x∈[a.m,a.w],x∈a.all/\∀xs,H3 x≠some (.tup xs):=λx hx=>by
   obtain⟨ws2,hw2,_⟩:=st3.w
   rcases aw.mp hx with e|hx
   ·rw[e];exact⟨by simp[StA.all],λxs z=>by rw[st3.m]at z;cases z⟩
   ·rw[ar.mp hx];exact⟨by simp[StA.all],λxs z=>by rw[hw2]at z;cases z⟩
  have ch4:=ch3.step hA nt fr4 st4
  obtain⟨iv4,mp⟩:=iv.mover hn0 m (iv.bks.told iv.fine.lnl (hsrc hg)) tT (TM.Fix.zero t) (λg hg=>absurd hg (by lia)) hg
  generalize hS4:({ S.put (.told k) t with st:=S.st.set 0 ((S.atS 0).putM S.ln.length) }:ChS)=S4 at iv4 mp
  have ch4':u9 cC cB cS n H4 A S4:=by rw[←hS4];exact ch4
  have hst:S4.st=S.st.set 0 ((S.atS 0).putM S.ln.length):=by rw[←hS4]
  have lk4:S4.looks=S.looks:=by
   have e:=zm7 (a:=(S.atS 0).putM S.ln.length) (ChS.get_at hn0')
   have e2:((S.atS 0).putM S.ln.length).lk=(S.atS 0).lk:=rfl
   unfold ChS.looks
   rw[hst]
   lia
  have ln4:S4.ln.length=S.ln.length+1:=by rw[←hS4];show(S.ln++[_]).length=_;rw[ah];rfl
  have bl4:S4.bl.length=S.bl.length:=by rw[←hS4];rfl
  have fr14:y8 A.all H H4:=(y6.frame (s1.trans s2)).trans ((fr3.all λx hx=>by simp at hx ⊢;rcases hx with e|e <;> simp[e]).trans (fr4.allS hA λx hx=>(nt x hx).1))
  obtain⟨dxc4,hc4⟩:=ch4'.c
  refine⟨_,rfl,A.c,dxc4,_,rfl,hc4,rfl,A,S4,n,c+1,rfl,ch4',iv4,hn0,hn,λi hi hin=>?_,by lia,by lia,by lia,λS5 H5 fr5 ch5 iv5 dn5 e5 src5 b51 b52=>?_⟩
  ·have at':=ChS.atS_set hst hn0' i
   rw[if_neg (by lia)]at at'
   unfold ChS.Done
   rw[at']
   exact st.done i hin
  ·refine q true S5 H5 (fr14.trans fr5) ch5 ⟨iv5,dn5⟩ (src5.trans (by rw[←hS4];rfl)) ⟨b51,b52⟩ (λx=>?_) ⟨λz=>(by cases z),λz=>absurd z hg⟩
   rw[e5]
   have e0:S4.chn.mv 0=λz=>S.chn.mv 0 z∨z=t:=by
    funext z
    exact propext ((mp.emv 0 z).trans ⟨λy=>y.elim .inl λw=>.inr w.2,λy=>y.elim .inl λw=>.inr ⟨rfl,w⟩⟩)
   rw[e0]
theorem u9.keep {A:ChA}(ch:u9 cC cB cS n H A S)(fr:y8 F H H')(hF:∀y∈F,y∉A.all/\∀xs,H y≠some (.tup xs)):u9 cC cB cS n H' A S:=by
 have kA:∀{b:Addr} {o:HO},H b=some o->b∈A.all->H' b=some o:=λ{b o} h hb=>fr b o (λz=>(hF b z).1 hb) h
 have kt:∀{b:Addr} {xs:List V},H b=some (.tup xs)->H' b=some (.tup xs):=λ{b xs} h=>fr b _ (λz=>(hF b z).2 xs h) h
 have hin:∀y∈[A.c,A.b,A.ll,A.lm,A.d,A.l],y∈A.all:=λy hy=>by unfold ChA.all;exact aJ _ hy
 obtain⟨dxc,h1⟩:=ch.c
 refine⟨ch.nd,⟨dxc,kA h1 (hin _ (by simp))⟩,⟨ch.bk.b.imp λ_ e=>kA e (hin _ (by simp)),ch.bk.ll.imp λ_ e=>⟨kA e.1 (hin _ (by simp)),Paired.imp' (λ_ _ z=>kt z) e.2⟩,ch.bk.lm.imp λ_ e=>⟨kA e.1 (hin _ (by simp)),Paired.imp' (λ_ _ z=>kt z) e.2⟩,kA ch.bk.d (hin _ (by simp)),ch.bk.len⟩,kA ch.l (hin _ (by simp)),ch.len,λi a s ha hs=>?_⟩
 refine(ch.st i a s ha hs).frame fr λy hy=>⟨λz=>(hF y hy).1 ?_,(hF y hy).2⟩
 unfold ChA.all
 exact aG _ (cV.mpr ⟨a.all,ay.mpr ⟨a,aq ha,rfl⟩,z⟩)
def X4:List Str:=["many","makers","chain"]
structure u7 (cG cC cB cS:Addr) (n:Nat) (H:Hp) (g:Addr) (ts:List (List Nat)) (S:ChS):Prop where
 n0:0<n
 n60:n<=60
 at':∃(dx ma:Addr) (A:ChA) (mas:List Addr),H g=some (.ins cG dx [("many",.int n),("makers",.ref ma),("chain",.ref A.c)])/\H ma=some (.tup (mas.map V.ref))/\i5 H mas ts/\u9 cC cB cS n H A S
 st:S.Set n
 few:ts.length<=200
 tT:∀t∈ts,TM.IsT n t
 grp:∀x,TM.Grp n (S.chn.mv 0) x↔TM.Grp n (λz=>z∈ts) x
 src:S.src=λk=>ts.getD k []
 lnl:S.ln.length<=4000000
theorem u7.same (h:u7 cG cC cB cS n H g ts S)(s:y6 H H'):u7 cG cC cB cS n H' g ts S:=by
 obtain⟨dx,ma,A,mas,h1,h2,h3,h4⟩:=h.at'
 exact⟨h.n0,h.n60,⟨dx,ma,A,mas,s _ _ h1,s _ _ h2,h3.same s,h4.same s⟩,h.st,h.few,h.tT,h.grp,h.src,h.lnl⟩
theorem yz3 {S S':List Nat->Prop}(hS:∀s,S s->TM.IsT n s)(hS':∀s,S' s->TM.IsT n s)(hT:TM.IsT n t)(h:∀x,TM.Grp n S x↔TM.Grp n S' x)(x:List Nat):TM.Grp n (λz=>S z∨z=t) x↔TM.Grp n (λz=>S' z∨z=t) x:=by
 have key:∀{S S':List Nat->Prop},(∀s,S s->TM.IsT n s)->(∀s,S' s->TM.IsT n s)->(∀x,TM.Grp n S x↔TM.Grp n S' x)->TM.Grp n (λz=>S z∨z=t) x->TM.Grp n (λz=>S' z∨z=t) x:=λ{S S'} hS hS' h g=>by
  have h2:∀s,(S' s∨s=t)->TM.IsT n s:=λs q=>q.elim (hS' s) λe=>by rw[e];exact hT
  refine TM.Grp.mono h2 (λs hs=>?_) g
  rcases hs with q|q
  ·exact TM.Grp.mono h2 (λz hz=>TM.Grp.of h2 (.inl hz)) ((h s).mp (TM.Grp.of hS q))
  ·exact TM.Grp.of h2 (.inr q)
 exact⟨key hS hS' h,key hS' hS λx=>(h x).symm⟩
def yr6:Sp:=λvs H Q _=>∃(la:Addr) (n:Nat) (mas:List Addr) (ts:List (List Nat)),vs=[.int n,.ref la]/\0<n/\n<=60/\H la=some (.lst (mas.map V.ref))/\i5 H mas ts/\ts.length<=200/\(∀t∈ts,TM.IsT n t)/\∀H':Hp,y6 H H'->Q .non H'
theorem zv0:x9 ["many","makers"] ["many","makers"] (z9 J9):=scq
theorem xi1 (n:Nat):(List.replicate n true).all id=true:=by
 induction n with
 | zero=>rfl
 | succ n ih=>rw[List.replicate_succ,fQ,ih];rfl
theorem zr4 {t:List Nat}(h:H a=some (.tup (tI t))):Dt H (.ref a) (.tuple (t.map λ(x:Nat)=>PyData.int x)):=.tup h (yy7 t)
theorem zf7 {t:List Nat}(h:TM.IsT n t)(h1:0<n)(h60:n<=60):(c5 (.tuple (t.map λ(x:Nat)=>PyData.int x))&&decide ((t.map λ(x:Nat)=>PyData.int x).length=n))=true:=by
 rw[yw2 h h1 h60,aa,h.length,decide_eq_true rfl]
 rfl
theorem zu4 (D:Def K mg "need_group" J9 ["many","makers"] f fd)(B:Blt mg)(KW:o9 P w K mg base 1 "is_whole" ["thing"] zs6)(KT:o9 P w K mg base 3 "is_turning_of" ["thing","many"] N4)(GM:zk4 mg "MOST_PLACES" (.int 60))(GK:zk4 mg "MOST_MAKERS" (.int 200)):u8 P w K mg base CX0 4 f fd ["many","makers"] yr6:=by
 refine D.F.ok zv0 (λvs H Q E h=>?_) (λcdv A outer s H vs Q E hr h=>?_)
 ·obtain⟨la,n,mas,ts,rfl,_⟩:=h
  rfl
 obtain⟨la,n,mas,ts,rfl,hn0,hn,hla,hts,hfew,hT,q⟩:=h
 have hml:mas.length=ts.length:=Paired.length hts
 refine⟨_,y4 (i7 (PW.pt (yg6 (U2 (W7 (p6 KW hr rfl (z0 (pv 0) z5)))) (zr2 (U2 (yg4 yq0 yq0 w8 (pv 0) (ze2 GM rfl)))))) (z7 C4) r6)
  (y4 (i7 (PW.pt (yg6 (U2 (W7 (v9 Z7 rfl B.isinstance l8 (z0 (pv 1) (z0 (N8 (v:=.ty "list") rfl B.list P5 rfl) z5))))) (zr2 (m9 yg0 (v9 q9 rfl B.len Y1 (z0 (pv 1) z5)) (ze2 GK rfl) (l5 _))))) (z7 C4) r6)
  (z7 (i7 (U2 (W7 (v9 (B6 rfl) rfl B.all zx7 (z0 (Z6 [0] ["maker","many"] rfl (W0 (pv 1)) (λ_ _ _ _=>p6 KT hr rfl (z0 (pv 0) (z0 (pv 1) z5)))) z5)))) (z7 C4) r6))),?_⟩
 refine⟨_,rfl,_,.int n,rfl,.int _,_,rfl,g7 ⟨_,rfl,_,_,rfl,rfl,_,rfl,?_⟩⟩
 rw[decide_eq_true (show(1:Int)<=((n:Nat):Int) by lia)]
 refine Y2 ⟨_,_,rfl,rfl,_,rfl,?_⟩
 rw[decide_eq_true (show((n:Nat):Int)<=(60:Int) by lia)]
 refine g7 ⟨_,rfl,_,_,_,_,rfl,K6.lst hla,K8 zd1,_,rfl,g7 ?_⟩
 refine⟨_,rfl,la,_,rfl,.inl (SqL.of hla),_,_,rfl,rfl,_,rfl,?_⟩
 rw[aa,hml,decide_eq_false (show ¬((ts.length:Nat):Int) > (200:Int) by lia)]
 refine g7 ?_
 refine⟨_,rfl,la,rfl,⟨_,SqL.of hla⟩,L6 (SqL.of hla) ((List.replicate mas.length true).map V.bl) (by rw[aa,ck,aa]) (by rw[aa,hml];exact small (by lia)) ?_ ?_⟩
 ·intro i H' x hx s' _ _ _ _
  obtain⟨c,hc,rfl⟩:=Y8 hx
  obtain⟨t,ht,hct⟩:=u0 hts i c hc
  have hi:i<mas.length:=(al.mp hc).1
  have htT:=hT t (aq ht)
  refine⟨_,rfl,_,rfl,.ref c,_,n,rfl,zr4 (s' _ _ hct),λds hd=>?_,λH4 s4=>⟨s4,?_⟩⟩
  ·cases hd
   rw[aa,htT.length]
   lia
  ·show((List.replicate mas.length true).map V.bl)[i]?=some (V.bl (c5 (.tuple (t.map λ(x:Nat)=>PyData.int x))&&decide ((t.map λ(x:Nat)=>PyData.int x).length=n)))
   rw[zf7 htT hn0 hn,af,cF,if_pos hi]
   rfl
 ·intro nm H4 _ s4 hnm
  refine⟨nm,_,rfl,SqL.of hnm,_,rfl,?_⟩
  rw[xi1]
  exact g7 (q H4 s4)
def B3 (cG cC cB cS:Addr):Sp:=λvs H Q _=>∃(x dx la:Addr) (n:Nat) (mas:List Addr) (ts:List (List Nat)),vs=[.ref x,.int n,.ref la]/\H x=some (.ins cG dx [])/\0<n/\n<=60/\H la=some (.lst (mas.map V.ref))/\i5 H mas ts/\ts.length<=200/\(∀t∈ts,TM.IsT n t) /\
 ∀(S:ChS) (H':Hp),y8 [x] H H'->u7 cG cC cB cS n H' x ts S->(∀(y:Addr) (H2:Hp),H y≠none->y≠x->(∀xs,H' y≠some (.tup xs))->y8 [y] H' H2->u7 cG cC cB cS n H2 x ts S)->Q .non H'
theorem T6:x9 ["self","many","makers","number","maker"] ["self","many","makers"] (z9 R3):=scq
theorem zt7 (F:Fun K "__init__" "Group.__init__" R3 f fd)(B:Blt mg)(cg:n4 K cG X4)(cc:n4 K cC U6)(KN:o9 P w K mg base 4 "need_group" ["many","makers"] yr6)(KC:zt3 P w K mg base 4 cC "Chain" ["self","many"] (yh7 cC cB cS))
  (MT:Y5 P w K mg base 6 cC "take" ["self","number","maker"] (xg6 cC cB cS)):u8 P w K mg base CX0 7 f fd ["self","many","makers"] (B3 cG cC cB cS):=by
 refine F.ok T6 (λvs H Q E h=>?_) (λcdv Ar outer sh H vs Q E hr h=>?_)
 ·obtain⟨x,dx,la,n,mas,ts,rfl,_⟩:=h
  rfl
 obtain⟨x,dx,la,n,mas,ts,rfl,hx,hn0,hn,hla,hts,hfew,hT,q⟩:=h
 have hml:mas.length=ts.length:=Paired.length hts
 refine⟨_,y4 (i6 (p6 KN hr rfl (z0 (pv 1) (z0 (pv 2) z5))))
  (y4 (Z3 (pv 0) (pv 1) rfl)
  (y4 (Z3 (pv 0) (u5 o7 rfl B.tuple d0 (z0 (pv 2) z5)) rfl)
  (y4 (Z3 (pv 0) (O6 KC hr rfl (z0 (pv 1) z5)) rfl)
  (z7 (U1 PassesOwn.never rfl (yg2 rfl B.enumerate (z0 (y9 (pv 0) rfl) z5)) (zb4 rfl (Z0 (o5 (i:=3) T6.nd rfl (Or.inl rfl)) (Z0 (o5 (i:=4) T6.nd rfl (Or.inl rfl)) J1)))
   (z7 (i6 (Y7 cc.cls MT hr (y9 (pv 0) rfl) (z0 (pv 3) (z0 (pv 4) z5)))))))))),?_⟩
 refine⟨_,rfl,_,rfl,la,n,mas,ts,rfl,hn0,hn,hla,hts,hfew,hT,λH0 s0=>?_⟩
 refine⟨_,rfl,_,rfl,x,cG,dx,[],rfl,s0 _ _ hx,cg.cls,cg.no "many" (by decide),by decide,?_⟩
 obtain⟨H1,g1,f1,x1⟩:=n8 (H:=H0) (x:=x) (cS:=cG) (dx:=dx) (f:="many") (v:=V.int n) (fs:=[]) (fs':=[("many",.int n)]) rfl
 rw[g1]
 have F1:y8 [x] H H1:=(y6.frame s0).trans f1
 have nx:∀{b:Addr} {o:HO},H b=some o->o≠.ins cG dx []->b≠x:=λ{b o} h d z=>by
  subst z
  rw[hx]at h
  exact d (Option.some.inj h).symm
 have hla1:=F1.keep hla (nx hla (by intro z;cases z))
 refine⟨_,rfl,la,_,rfl,.inl ⟨SqL.of hla1,λma hma=>?_⟩⟩
 have s2:=z8 hma (.tup (mas.map V.ref))
 have m2:(upd H1 ma (.tup (mas.map V.ref))) ma=some (.tup (mas.map V.ref)):=z4
 generalize upd H1 ma (.tup (mas.map V.ref))=H2 at s2 m2 ⊢
 have xma:ma≠x:=λz=>by subst z;rw[x1]at hma;cases hma
 refine⟨_,rfl,x,cG,dx,_,rfl,s2 _ _ x1,cg.cls,cg.no "makers" (by decide),by (show 1<1000;decide),?_⟩
 obtain⟨H3,g3,f3,x3⟩:=n8 (H:=H2) (x:=x) (cS:=cG) (dx:=dx) (f:="makers") (v:=V.ref ma) (fs:=[("many",.int n)]) (fs':=[("many",.int n),("makers",.ref ma)]) rfl
 rw[g3]
 have F3:y8 [x] H H3:=(F1.trans (y6.frame s2)).trans f3
 have m3:=f3.keep m2 xma
 refine⟨_,rfl,λc dc hc hdc hne=>⟨c,dc,n,rfl,z4,hn,λA H4 hAc hfree fr4 ch4=>⟨rfl,?_⟩⟩⟩
 have s4:y6 H3 H4:=λb o h=>fr4 b o (by simpa using y0 h hc) (by rw[z6 (y0 h hc),z6 (y0 h hdc)];exact h)
 have hall:∀a∈A.all,H3 a=none:=λa ha=>by
  by_cases e:a=c
  ·rw[e];exact hc
  ·have:=hfree a ha e
   rw[z6 e]at this
   by_cases e2:a=dc
   ·rw[e2];exact hdc
   ·rwa [z6 e2]at this
 subst hAc
 refine⟨_,rfl,x,cG,dx,_,rfl,s4 _ _ x3,cg.cls,cg.no "chain" (by decide),by (show 2<1000;decide),?_⟩
 obtain⟨H5,g5,f5,x5⟩:=n8 (H:=H4) (x:=x) (cS:=cG) (dx:=dx) (f:="chain") (v:=V.ref A.c) (fs:=[("many",.int n),("makers",.ref ma)]) (fs':=[("many",.int n),("makers",.ref ma),("chain",.ref A.c)]) rfl
 rw[g5]
 have F5:y8 [x] H H5:=(F3.trans (y6.frame s4)).trans f5
 have m5:=f5.keep (s4 _ _ m3) xma
 have hts5:i5 H5 mas ts:=Paired.imp' (λb t e=>F5.keep e (nx e (by intro z;cases z))) hts
 have xA:x∉A.all:=λz=>by
  have:=hall x z
  rw[x3]at this
  cases this
 have ch5:u9 cC cB cS n H5 A (ChS.new n (λk=>ts.getD k [])):=(ch4 _).keep f5 λy hy=>by
  rw[ar.mp hy]
  exact⟨xA,λxs z=>by rw[s4 _ _ x3]at z;cases z⟩
 have out:∀{b:Addr} {o:HO},H b=some o->b∉A.all:=λ{b o} h hb=>by
  by_cases e:b=x
  ·exact xA (e ▸ hb)
  ·have:=hall b hb
   rw[F3.keep h e]at this
   cases this
 have maA:ma∉A.all:=λz=>by
  have:=hall ma z
  rw[m3]at this
  cases this
 refine⟨_,rfl,x,cG,dx,_,_,rfl,x5,cg.cls,cg.no "makers" (by decide),rfl,ma,rfl,⟨_,SqT.of m5⟩,L7 (xs:=mas.map V.ref) (λi σ H6=>∃(S:ChS) (v3 v4:Option V),σ=[some (.ref x),some (.int n),some (.ref la),v3,v4]/\y8 A.all H5 H6/\u9 cC cB cS n H6 A S/\S.Set n/\S.Full (1+i)/\i<=ts.length/\(S.src=λk=>ts.getD k [])/\∀y,TM.Grp n (S.chn.mv 0) y↔TM.Grp n (λz=>z∈ts.take i) y)
  ⟨ChS.new n (λk=>ts.getD k []),none,none,rfl,y8.refl,ch5,⟨ChS.new_inv n,λi _=>ChS.new_done n i⟩,⟨by show 1<=_;lia,by show 1<=_;lia⟩,aP _,rfl,λy=>?_⟩ (λi σ H6 _ ⟨_,_,_,_,fr6,_⟩=>SqT.of (fr6 _ _ maA m5)) ?_ ?_⟩
 ·have hno:∀s,(ChS.new n (λk=>ts.getD k [])).chn.mv 0 s↔s∈ts.take 0:=λs=>⟨λh=>absurd h (ChS.new_nomv n 0 s),λh=>by rw[dS]at h;cases h⟩
  rw[show(ChS.new n (λk=>ts.getD k [])).chn.mv 0=λz=>z∈ts.take 0 from funext λs=>propext (hno s)]
 ·rintro i v σ H6 T hv ⟨S,v3,v4,rfl,fr6,ch6,set6,full6,hi6,src6,grp6⟩ hT6
  obtain⟨tr,htr,rfl⟩:=Y8 hv
  obtain⟨t,ht,htt⟩:=u0 hts5 i tr htr
  have hiT:i<ts.length:=(al.mp ht).1
  have htT:=hT t (aq ht)
  have s7:=z8 hT6 (.tup [V.int ((i:Nat):Int),V.ref tr])
  refine⟨T,_,rfl,SqT.of z4,rfl,_,_,rfl,_,_,rfl,rfl,?_⟩
  generalize upd H6 T (.tup [V.int ((i:Nat):Int),V.ref tr])=H7 at s7 ⊢
  have ch7:=ch6.same s7
  obtain⟨dxc,hcc⟩:=ch7.c
  have x7:=s7 _ _ (fr6 _ _ xA x5)
  have trA:tr∉A.all:=λz=>by
   obtain⟨t0,ht0,htt0⟩:=u0 hts i tr htr
   exact out htt0 z
  have t7:=s7 _ _ (fr6 _ _ trA htt)
  refine⟨_,rfl,x,cG,dx,_,_,rfl,x7,cg.cls,cg.no "chain" (by decide),rfl,A.c,dxc,_,rfl,hcc,rfl,_,rfl,_,rfl,A,S,n,1+i,i,tr,t,rfl,ch7,set6,hn0,hn,by lia,full6,t7,htT,(λ_=>by rw[src6];show ts.getD i []=t;rw[au,ht];rfl),λb S' H8 fr8 ch8 set8 src8 full8 grp8 _=>?_⟩
  refine⟨S',_,_,rfl,(fr6.trans (y6.frame s7)).trans fr8,ch8,set8,⟨by have:=full8.ln;lia,by have:=full8.bl;lia⟩,hiT,src8.trans src6,λy=>?_⟩
  have hS1:∀s,S.chn.mv 0 s->TM.IsT n s:=set6.inv.ok.mvT 0
  have hS2:∀s,s∈ts.take i->TM.IsT n s:=λs hs=>hT s (bC hs)
  rw[grp8 y,yz3 hS1 hS2 htT grp6 y,bJ,ht]
  have e:(λz=>z∈ts.take i++(some t).toList)=λz=>z∈ts.take i∨z=t:=by
   funext z
   simp
  rw[e]
 ·rintro σ H6 ⟨S,v3,v4,rfl,fr6,ch6,set6,full6,hi6,src6,grp6⟩
  have hlnl:S.ln.length<=4000000:=by
   have q1:=full6.ln
   have q2:=set6.inv.looks_le hn
   rw[aa,hml]at q1
   lia
  rw[aa,hml,cn]at grp6
  have x6:=fr6 _ _ xA x5
  have m6:=fr6 _ _ maA m5
  have hts6:i5 H6 mas ts:=K0 hts5 λb hb t e=>fr6 _ _ (λz=>by
   obtain⟨i,hi,e2⟩:=bg.mp hb
   obtain⟨t0,ht0,htt0⟩:=u0 hts i b (by rw[ae hi,e2])
   exact out htt0 z) e
  refine q S H6 (λb o hb h=>fr6 b o (out h) (F5 b o hb h)) ⟨hn0,hn,⟨dx,ma,A,mas,x6,m6,hts6,ch6⟩,set6,hfew,hT,grp6,src6,hlnl⟩ λy H7 hy hyx hyt fr7=>?_
  obtain⟨oy,hoy⟩:∃o,H y=some o:=Option.ne_none_iff_exists'.mp hy
  have kt:∀{b:Addr} {xs:List V},H6 b=some (.tup xs)->H7 b=some (.tup xs):=λ{b xs} h=>fr7.keep h (λz=>hyt xs (z ▸ h))
  exact⟨hn0,hn,⟨dx,ma,A,mas,fr7.keep x6 (Ne.symm hyx),kt m6,Paired.imp' (λ_ _ z=>kt z) hts6,ch6.keep fr7 λz hz=>by
   rw[ar.mp hz]
   exact⟨out hoy,hyt⟩⟩,set6,hfew,hT,grp6,src6,hlnl⟩
def zs4 (cG cC cB cS:Addr):Sp:=λvs H Q _=>∃(g:Addr) (n:Nat) (ts:List (List Nat)) (S:ChS),vs=[.ref g]/\u7 cG cC cB cS n H g ts S/\∀(l:Addr) (mas:List Addr) (H':Hp),H l=none->y6 H H'->H' l=some (.lst (mas.map V.ref))->i5 H' mas ts->Q (.ref l) H'
theorem zu7:x9 ["self"] ["self"] (z9 J4):=scq
theorem zt8 (F:Fun K "told" "Group.told" J4 f fd)(B:Blt mg)(cg:n4 K cG X4):u8 P w K mg base CX0 1 f fd ["self"] (zs4 cG cC cB cS):=by
 refine F.ok zu7 (λvs H Q E h=>?_) (λcdv Ar outer sh H vs Q E hr h=>?_)
 ·obtain⟨g,n,ts,S,rfl,_⟩:=h
  rfl
 obtain⟨g,n,ts,S,rfl,ga,q⟩:=h
 obtain⟨dx,ma,A,mas,h1,h2,h3,h4⟩:=ga.at'
 refine⟨_,z7 (v1 (u5 zc4 rfl B.list P5 (z0 (y9 (pv 0) rfl) z5))),?_⟩
 refine⟨_,rfl,g,cG,dx,_,_,rfl,h1,cg.cls,cg.no "makers" (by decide),rfl,ma,_,rfl,.inr (SqT.of h2),λl hl=>?_⟩
 have s1:=z8 hl (.lst (mas.map V.ref))
 exact q l mas _ hl s1 z4 (h3.same s1)
def xg0 (cG cC cB cS:Addr):Sp:=λvs H Q _=>∃(g tr:Addr) (n:Nat) (ts:List (List Nat)) (S:ChS) (t:List Nat),vs=[.ref g,.ref tr]/\u7 cG cC cB cS n H g ts S/\H tr=some (.tup (tI t))/\TM.IsT n t/\∀(b:Bool) (H':Hp),y6 H H'->(b=true↔TM.Grp n (λz=>z∈ts) t)->Q (.bl b) H'
theorem yb1:x9 ["self","thing"] ["self","thing"] (z9 C6):=scq
theorem zy9 (F:Fun K "has" "Group.has" C6 f fd)(B:Blt mg)(cg:n4 K cG X4)(cc:n4 K cC U6)(KT:o9 P w K mg base 3 "is_turning_of" ["thing","many"] N4)(MH:Y5 P w K mg base 3 cC "holds" ["self","turning","level"] (zm5 cC cB cS)):u8 P w K mg base CX0 4 f fd ["self","thing"] (xg0 cG cC cB cS):=by
 refine F.ok yb1 (λvs H Q E h=>?_) (λcdv Ar outer sh H vs Q E hr h=>?_)
 ·obtain⟨g,tr,n,ts,S,t,rfl,_⟩:=h
  rfl
 obtain⟨g,tr,n,ts,S,t,rfl,ga,htr,htT,q⟩:=h
 obtain⟨dx,ma,A,mas,h1,h2,h3,h4⟩:=ga.at'
 refine⟨_,z7 (v1 (zq3 (p6 KT hr rfl (z0 (pv 1) (z0 (y9 (pv 0) rfl) z5))) (zq5 (Y7 cc.cls MH hr (y9 (pv 0) rfl) (z0 (pv 1) (z0 w8 z5)))))),?_⟩
 refine⟨_,rfl,_,rfl,g,cG,dx,_,_,rfl,h1,cg.cls,cg.no "many" (by decide),rfl,.ref tr,_,n,rfl,zr4 htr,λds hd=>?_,λH1 s1=>?_⟩
 ·cases hd
  rw[aa,htT.length]
  have:=ga.n60
  lia
 have h4':=h4.same s1
 obtain⟨dxc,hc⟩:=h4'.c
 have hol:=ga.st.inv.holds (j:=0) (aP _) (λi _ hi=>ga.st.done i hi) htT (TM.Fix.zero t)
 refine⟨(c5 (.tuple (t.map λ(x:Nat)=>PyData.int x))&&decide ((t.map λ(x:Nat)=>PyData.int x).length=n)),rfl,?_⟩
 rw[zf7 htT ga.n0 ga.n60]
 refine Y2 ⟨_,rfl,g,cG,dx,_,_,rfl,s1 _ _ h1,cg.cls,cg.no "chain" (by decide),rfl,A.c,dxc,_,rfl,hc,rfl,_,rfl,A,S,n,0,tr,t,rfl,h4',ga.st.inv.fine.wl,s1 _ _ htr,htT,aP _,ga.n60,λH2 s2=>?_⟩
 exact q _ H2 (s1.trans s2) (hol.trans (ga.grp t))
def Srt (L:List (List Nat)):Prop:=L.Pairwise λx y=>HT.lexLt (TM.iN y) (TM.iN x)=false
theorem zm1 (t:List Nat):(TM.iN t).map Int.toNat=t:=by
 unfold TM.iN
 rw[bx]
 conv=>rhs;rw[←eL t]
 exact bQ λx _=>by simp
theorem yz6 (t:List Nat):(TM.iN t).map V.int=tI t:=by
 unfold TM.iN tI
 rw[bx]
 rfl
theorem zw4 {L:List (List Nat)}{qs:List (List Int)}(h:qs.Perm (L.map TM.iN)):∃M:List (List Nat),M.Perm L/\qs=M.map TM.iN:=by
 refine⟨qs.map λx=>x.map Int.toNat,?_,?_⟩
 ·have h2:=h.map λx:List Int=>x.map Int.toNat
  rw[bx]at h2
  have e:(L.map ((λx:List Int=>x.map Int.toNat) ∘ TM.iN))=L:=by
   conv=>rhs;rw[←eL L]
   exact bQ λt _=>zm1 t
  rwa [e]at h2
 ·rw[bx]
  conv=>lhs;rw[←eL qs]
  refine bQ λx hx=>?_
  obtain⟨t,_,e⟩:=ay.mp (h.mem_iff.mp hx)
  show x=TM.iN (x.map Int.toNat)
  rw[←e,zm1]
theorem xn3 {L:List (List Nat)}(h:i5 H as L):Paired (λa x=>H a=some (.tup (x.map V.int))) as (L.map TM.iN):=by
 induction h with
 | nil=>exact .nil
 | cons f _ ih=>exact .cons (by rw[yz6];exact f) ih
theorem ya7 :∀{as:List Addr} {L:List (List Nat)},Paired (λa x=>H a=some (.tup (x.map V.int))) as (L.map TM.iN)->i5 H as L
 | [],[],_=>.nil
 | [],_::_,h=>by cases h
 | _::_,[],h=>by cases h
 | a::as,t::L,h=>by
  cases h with
  | cons f r=>exact .cons (by rw[←yz6];exact f) (ya7 r)
theorem xu5 {i p:Nat}(h:t[i]?=some p):(TM.iN t)[i]?=some ((p:Nat):Int):=by
 unfold TM.iN
 rw[af,h]
 rfl
theorem xi8 {i:Nat}(h:(TM.iN t)[i]?=some z):∃y:Nat,t[i]?=some y/\z=(y:Int):=by
 unfold TM.iN at h
 rw[af]at h
 cases e:t[i]? with
 | none=>rw[e]at h;cases h
 | some y=>rw[e]at h;cases h;exact⟨y,rfl,rfl⟩
def zs5 (cC cB cS:Addr):Sp:=λvs H Q _=>∃(A:ChA) (S:ChS) (n j p:Nat) (a:StA),vs=[.ref A.c,.ref a.a,.int p]/\u9 cC cB cS n H A S/\S.Inv n/\j<n/\A.st[j]?=some a/\p∈S.chn.ring j/\∀b,H b=some (.tup (tI (S.chn.up j p)))->Q (.ref b) H
theorem A8:x9 ["self","step","to"] ["self","step","to"] (z9 Y3):=scq
theorem A7 (F:Fun K "turning_to" "Chain.turning_to" Y3 f fd)(B:Blt mg)(cc:n4 K cC U6)(cb:n4 K cB zc3)(cs:n4 K cS E5):u8 P w K mg base CX0 1 f fd ["self","step","to"] (zs5 cC cB cS):=by
 refine F.ok A8 (λvs H Q E h=>?_) (λcdv Ar outer sh H vs Q E hr h=>?_)
 ·obtain⟨A,S,n,j,p,a,rfl,_⟩:=h
  rfl
 obtain⟨A,S,n,j,p,a,rfl,ch,iv,hj,hA,hp,q⟩:=h
 have hu:(Ar.deeper (PyProof.Rows.envOfC "Chain.turning_to" (z9 Y3) sh.heap.objs.size f cdv)).units+1<cLine:=by have:=hr.units;lia
 refine⟨_,z7 (v1 (k9 p5 (y9 (y9 (pv 0) rfl) rfl) (Q3 hu (y9 (pv 1) rfl) (pv 2) (λ_ _=>rfl)) (λ_ _=>rfl))),?_⟩
 obtain⟨dxc,hc⟩:=ch.c
 obtain⟨dxb,hb⟩:=ch.bk.b
 obtain⟨mas,hlm,hmd⟩:=ch.bk.lm
 have hs:=ChS.get_at (S:=S) (j:=j) (by rw[iv.len];exact hj)
 have st:=ch.st j a _ hA hs
 obtain⟨dxs,hsa⟩:=st.a
 obtain⟨k,hk⟩:∃k,atN (S.atS j).to p=some k:=by
  cases e:atN (S.atS j).to p with
  | some k=>exact⟨k,rfl⟩
  | none=>exact absurd hp (U5.mp e)
 have hkl:k<S.md.length:=(iv.fine.wl.to _ (aq hs) _ (R9 hk)).2
 obtain⟨ak,hak,htk⟩:=n6 hmd k _ (V6 [] hkl)
 have gk:atI (mas.map V.ref) ((k:Nat):Int)=some (V.ref ak):=l9 (by rw[af,hak];rfl)
 have g1:V1 H a.lt (kV (Sum.inl (p:Int))) (some (V.int k)):=by
  have g:=V1.k (k:=Sum.inl (p:Int)) st.lt
  rwa [Q5,hk]at g
 refine⟨_,rfl,A.c,cC,dxc,_,_,rfl,hc,cc.cls,cc.no "book" (by decide),rfl,A.b,cB,dxb,_,_,rfl,hb,cb.cls,cb.no "made" (by decide),rfl,_,rfl,a.a,cS,dxs,_,_,rfl,hsa,cs.cls,cs.no "line_to" (by decide),rfl,_,rfl,a.lt,_,rfl,g1,A.lm,_,_,_,rfl,rfl,SqL.of hlm,gk,q ak ?_⟩
 rw[ChS.chn_up hk]
 exact htk
def zi7 (cC cB cS:Addr):Sp:=λvs H Q _=>∃(A:ChA) (S:ChS) (n lv:Nat) (tr:Addr) (t:List Nat),vs=[.ref A.c,.ref tr,.int lv]/\u9 cC cB cS n H A S/\S.Inv n/\n<=60/\lv<=n/\H tr=some (.tup (tI t))/\TM.IsT n t/\∀(r:Addr) (H':Hp) (u:List Nat),y6 H H'->H' r=some (.tup (tI u))->TM.IsT n u->S.chn.LeastL (List.range' lv (n-lv)) t u->Q (.ref r) H'
theorem Z1:x9 ["self","turning","level","here","step","best"] ["self","turning","level"] (z9 R1):=scq
theorem zd6 (F:Fun K "least_of" "Chain.least_of" R1 f fd)(B:Blt mg)(cc:n4 K cC U6)(cs:n4 K cS E5)(MT:Y5 P w K mg base 1 cC "turning_to" ["self","step","to"] (zs5 cC cB cS))(KB:o9 P w K mg base 1 "behind" ["one","other"] (N3 K)):u8 P w K mg base CX0 2 f fd ["self","turning","level"] (zi7 cC cB cS):=by
 refine F.ok Z1 (λvs H Q E h=>?_) (λcdv Ar outer sh H vs Q E hr h=>?_)
 ·obtain⟨A,S,n,lv,tr,t,rfl,_⟩:=h
  rfl
 obtain⟨A,S,n,lv,tr,t,rfl,ch,iv,hn,hlv,htr,htT,q⟩:=h
 refine⟨_,y4 (u4 (i:=3) Z1.nd rfl (Or.inr rfl) (pv 1))
  (y4 (U1 PassesOwn.never rfl (W0 (O7 F7 (y9 (pv 0) rfl) (N9 (pv 2)) A1)) (o5 (i:=4) Z1.nd rfl (Or.inl rfl))
   (y4 (u4 (i:=5) Z1.nd rfl (Or.inl rfl) (v9 (ys7 rfl) rfl B.min xp0 (z0 (yq6 (Z6 [3] ["place","here"] rfl (yq7 (y9 (pv 4) rfl)) (λ_ _ _ _=>k9 D6 (pv 1) (pv 0) (λ_ _=>rfl)))) z5)))
   (z7 (i7 (m9 yq2 (k9 D6 (pv 3) (y9 (pv 4) rfl) (λ_ _=>rfl)) (pv 5) (l5 _)) (z7 (u4 (i:=3) Z1.nd rfl (Or.inr rfl) (p6 KB hr rfl (z0 (Y7 cc.cls MT hr (pv 0) (z0 (pv 4) (z0 (xr6 PySem.F.slot_tuple_index PySem.F.type_tuple_index xc4 (pv 3) (z0 (pv 5) z5)) z5))) (z0 (pv 3) z5))))) r6))))
  (z7 (v1 (pv 3)))),?_⟩
 obtain⟨dxc,hc⟩:=ch.c
 have ok:=iv.ok
 have hstl:(A.st.map λs=>V.ref s.a).length=n:=by rw[aa];exact ch.len.1
 refine⟨_,rfl,_,rfl,A.c,cC,dxc,_,_,rfl,hc,cc.cls,cc.no "steps" (by decide),rfl,_,rfl,_,rfl,A.l,_,rfl,SqL.of ch.l,λl hl=>?_⟩
 rw[yd7 (by rw[hstl];exact hlv)]
 have s1:=z8 hl (.lst ((A.st.map λs=>V.ref s.a).drop lv))
 have e1:(upd H l (.lst ((A.st.map λs=>V.ref s.a).drop lv))) l=some (.lst ((A.st.map λs=>V.ref s.a).drop lv)):=z4
 generalize upd H l (.lst ((A.st.map λs=>V.ref s.a).drop lv))=H1 at s1 e1 ⊢
 refine⟨l,rfl,⟨_,SqL.of e1⟩,L8 (K:=K) (a:=l) (xs:=(A.st.map λs=>V.ref s.a).drop lv) (λi σ Hh=>∃(ha:Addr) (h:List Nat) (v4 v5:Option V),σ=[some (.ref A.c),some (.ref tr),some (.int lv),some (.ref ha),v4,v5]/\y6 H1 Hh/\Hh ha=some (.tup (tI h))/\TM.IsT n h/\∀x,S.chn.LeastL (List.range' (lv+i) (n-lv-i)) h x->S.chn.LeastL (List.range' lv (n-lv)) t x)
  ⟨tr,t,none,none,rfl,y6.refl _,s1 _ _ htr,htT,λx hx=>hx⟩ (λi σ Hh _ ⟨_,_,_,_,_,s,_⟩=>SqL.of (s _ _ e1)) ?_ ?_⟩
 ·rintro i v σ Hh hv ⟨ha,h,v4,v5,rfl,s3,hha,hT,hN⟩
  rw[cM,af]at hv
  cases hA:A.st[lv+i]? with
  | none=>rw[hA]at hv;cases hv
  | some a =>
   rw[hA]at hv
   cases hv
   have hj:lv+i<n:=by
    have:=(al.mp hA).1
    rw[ch.len.1]at this
    exact this
   generalize ej:lv+i=j at hA hj hN
   have ed:List.range' j (n-lv-i)=j::List.range' (j+1) (n-lv-(i+1)):=by
    rw[show n-lv-i=(n-lv-(i+1))+1 by lia,dM]
   rw[ed]at hN
   have hs:=ChS.get_at (S:=S) (j:=j) (by rw[iv.len];exact hj)
   have ch3:=ch.same (s1.trans s3)
   have st:=ch3.st j a _ hA hs
   obtain⟨dxs,hsa⟩:=st.a
   have rl:(S.chn.ring j).length=(S.atS j).to.length:=aa _
   have rn:(S.atS j).to.length<=n:=iv.ring hj
   have rp:0<(S.chn.ring j).length:=ft (ok.own j hj)
   show Q8 4 (V.ref a.a) _ _ _
   refine⟨a.lt,kI (S.atS j).to,st.lt,_,rfl,a.a,cS,dxs,_,_,rfl,hsa,cs.cls,cs.no "line_to" (by decide),rfl,a.lt,_,rfl,st.lt,λob=>?_⟩
   have ltha:ha≠a.lt:=i9 hha st.lt (by intro z;cases z)
   refine ys9 (by rw[z4]) ((S.chn.ring j).map λp=>V.int ((h.getD p 0:Nat):Int)) (by rw[aa,zh0,rl]) (by rw[zh0];exact aO rn (aO hn (by decide))) ?_ ?_
   ·intro u H4 kk vv hkk s4 _ _ _ _
    unfold kI at hkk
    rw[af]at hkk
    cases e:(S.atS j).to[u]? with
    | none=>rw[e]at hkk;cases hkk
    | some pr =>
     rw[e]at hkk
     cases hkk
     have hmem:pr.1∈S.chn.ring j:=ay.mpr ⟨pr,aq e,rfl⟩
     refine⟨_,rfl,_,rfl,ha,_,_,_,rfl,rfl,SqT.of (s4 _ _ (by rw[z6 ltha];exact hha)),zf5 (hT.get_step (ok.lt j _ hj hmem)),y6.refl _,?_⟩
     show(((S.atS j).to.map Prod.fst).map λp=>V.int ((h.getD p 0:Nat):Int))[u]?=_
     rw[af,af,e]
     rfl
   ·intro Dl H4 hD s4 hl4
    have s5:=zw5 st.lt s4
    have hDl:Dl≠a.lt:=λz=>by subst z;rw[z4]at hD;cases hD
    refine⟨⟨ob,s4 _ _ z4⟩,?_⟩
    have hl5:(upd H4 a.lt (.dK (kI (S.atS j).to))) Dl=some (.lst (((S.chn.ring j).map λp=>((h.getD p 0:Nat):Int)).map V.int)):=by
     rw[z6 hDl,bx]
     exact hl4
    generalize upd H4 a.lt (.dK (kI (S.atS j).to))=H5 at s5 hl5 ⊢
    refine⟨Dl,_,rfl,SqL.of hl5,by rw[aa];exact rp,λM hM hmin=>?_⟩
    obtain⟨p,hp,rfl⟩:=ay.mp hM
    have hpn:=ok.lt j p hj hp
    have hmin':∀q,q∈S.chn.ring j->h.getD p 0<=h.getD q 0:=λq hq=>by
     have:=hmin _ (ay.mpr ⟨q,hq,rfl⟩)
     lia
    have hha5:=s5 _ _ hha
    have hsa5:=s5 _ _ hsa
    refine⟨_,rfl,_,rfl,a.a,cS,dxs,_,_,rfl,hsa5,cs.cls,cs.no "place" (by decide),rfl,ha,_,_,_,rfl,rfl,SqT.of hha5,zf5 (hT.get_step hj),_,rfl,rfl,_,rfl,?_⟩
    by_cases ep:j=p
    ·subst ep
     rw[X6,decide_eq_true rfl]
     refine g7 ⟨ha,h,_,_,rfl,s3.trans s5,hha5,hT,λx hx=>hN x ⟨j,hp,hmin',?_⟩⟩
     rw[ok.upOwn j hj,TM.still_beh hT]
     rw[←ej]
     exact hx
    ·have hne:¬((h.getD j 0:Nat):Int)=((h.getD p 0:Nat):Int):=λz=>ep (hT.step_inj hj hpn (by lia))
     rw[X6,decide_eq_false hne]
     have ch5:=ch3.same s5
     have hup:=ok.upT hj hp
     refine Y2 ⟨_,rfl,A.c,dxc,_,rfl,s5 _ _ (s3 _ _ (s1 _ _ hc)),rfl,_,rfl,_,rfl,⟨ha,_,rfl,hha5⟩,_,rfl,ha,TM.iN h,((h.getD p 0:Nat):Int),p,rfl,rfl,SqT.of (by rw[yz6];exact hha5),xu5 (hT.get_step hpn),λu hu c=>?_,A,S,n,j,p,a,rfl,ch5,iv,hj,hA,hp,λb hb=>?_⟩
     ·obtain⟨y,hy,e⟩:=xi8 c
      have:=hT.inj hy (show h[p]?=some y by rw[hT.get_step hpn,show h.getD p 0=y by lia])
      lia
     ·refine⟨_,rfl,b,ha,_,_,rfl,SqT.of hb,SqT.of hha5,by rw[hup.length];lia,λx hx=>by rw[hT.length];exact hup.lt hx,λr H7 hr0' s7 hr7=>?_⟩
      refine⟨r,_,_,_,rfl,s3.trans (s5.trans s7),hr7,hup.beh hT,λx hx=>hN x ⟨p,hp,hmin',?_⟩⟩
      rw[show lv+(i+1)=j+1 by lia]at hx
      exact hx
 ·rintro σ Hh ⟨ha,h,v4,v5,rfl,s3,hha,hT,hN⟩
  refine⟨_,rfl,q ha Hh h (s1.trans s3) hha hT (hN h ?_)⟩
  rw[bP,hstl,show n-lv-(n-lv)=0 by lia]
  rfl
theorem u7.least {S:ChS}(ga:u7 cG cC cB cS n H g ts S)(hT:TM.IsT n t)(h:S.chn.LeastL (List.range' 0 n) t u):TM.LeastOf n (λz=>z∈ts) t u:=by
 obtain⟨⟨g1,hg1,e1⟩,h2⟩:=ga.st.inv.ok.least n 0 t u (cW n) (λi _ hi=>ga.st.inv.shut (ga.st.done i hi)) hT h
 exact⟨⟨g1,(ga.grp g1).mp hg1,e1⟩,λx ⟨g2,hg2,e2⟩=>h2 x ⟨g2,(ga.grp g2).mpr hg2,e2⟩⟩
def yb7 (cG cC cB cS:Addr):Sp:=λvs H Q _=>∃(g tr:Addr) (n:Nat) (ts:List (List Nat)) (S:ChS) (t:List Nat),vs=[.ref g,.ref tr]/\u7 cG cC cB cS n H g ts S/\H tr=some (.tup (tI t))/\TM.IsT n t/\∀(r:Addr) (H':Hp) (u:List Nat),y6 H H'->H' r=some (.tup (tI u))->TM.IsT n u->TM.LeastOf n (λz=>z∈ts) t u->Q (.ref r) H'
theorem zr7:x9 ["self","thing"] ["self","thing"] (z9 M7):=scq
theorem zp9 (F:Fun K "least" "Group.least" M7 f fd)(B:Blt mg)(cg:n4 K cG X4)(cc:n4 K cC U6)(KT:o9 P w K mg base 3 "is_turning_of" ["thing","many"] N4)(ML:Y5 P w K mg base 2 cC "least_of" ["self","turning","level"] (zi7 cC cB cS)):u8 P w K mg base CX0 4 f fd ["self","thing"] (yb7 cG cC cB cS):=by
 refine F.ok zr7 (λvs H Q E h=>?_) (λcdv Ar outer sh H vs Q E hr h=>?_)
 ·obtain⟨g,tr,n,ts,S,t,rfl,_⟩:=h
  rfl
 obtain⟨g,tr,n,ts,S,t,rfl,ga,htr,htT,q⟩:=h
 obtain⟨dx,ma,A,mas,h1,h2,h3,h4⟩:=ga.at'
 refine⟨_,y4 (i7 (U2 (W7 (p6 KT hr rfl (z0 (pv 1) (z0 (y9 (pv 0) rfl) z5))))) (z7 C4) r6) (z7 (v1 (Y7 cc.cls ML hr (y9 (pv 0) rfl) (z0 (pv 1) (z0 w8 z5))))),?_⟩
 refine⟨_,rfl,_,rfl,g,cG,dx,_,_,rfl,h1,cg.cls,cg.no "many" (by decide),rfl,.ref tr,_,n,rfl,zr4 htr,λds hd=>?_,λH1 s1=>⟨_,rfl,?_⟩⟩
 ·cases hd
  rw[aa,htT.length]
  have:=ga.n60
  lia
 have h4':=h4.same s1
 obtain⟨dxc,hc⟩:=h4'.c
 show if (!(c5 (.tuple (t.map λ(x:Nat)=>PyData.int x))&&decide ((t.map λ(x:Nat)=>PyData.int x).length=n)))=true then _ else _
 rw[zf7 htT ga.n0 ga.n60]
 refine g7 ⟨_,rfl,g,cG,dx,_,_,rfl,s1 _ _ h1,cg.cls,cg.no "chain" (by decide),rfl,A.c,dxc,_,rfl,hc,rfl,_,rfl,A,S,n,0,tr,t,rfl,h4',ga.st.inv,ga.n60,aP _,s1 _ _ htr,htT,λr H2 u s2 hr2 uT hu=>?_⟩
 exact q r H2 u (s1.trans s2) hr2 uT (ga.least htT hu)
theorem za5 {mas:List Addr}{md:List (List Nat)}(h:i5 H mas md):∀(ks:List Nat),(∀k∈ks,k<md.length)->i5 H (ks.map λk=>mas.getD k 0) (ks.map λk=>md.getD k [])
 | [],_=>.nil
 | k::ks,hk=>by
  refine .cons ?_ (za5 h ks λj hj=>hk j (av _ hj))
  obtain⟨a,ha,hat⟩:=n6 h k _ (V6 [] (hk k ax))
  show H (mas.getD k 0)=some (.tup (tI (md.getD k [])))
  rw[au,ha]
  exact hat
def yi1 (cC cB cS:Addr):Sp:=λvs H Q _=>∃(A:ChA) (S:ChS) (n lv:Nat),vs=[.ref A.c,.int lv]/\u9 cC cB cS n H A S/\S.Inv n/\n<=60/\lv<n /\
 ∀(l:Addr) (mas:List Addr) (H':Hp),H l=none->y6 H H'->H' l=some (.lst (mas.map V.ref))->i5 H' mas ((S.atS lv).mv.map λk=>S.md.getD k [])->Q (.ref l) H'
theorem zb9:x9 ["self","level"] ["self","level"] (z9 T3):=scq
theorem zb2 (F:Fun K "movers_at" "Chain.movers_at" T3 f fd)(B:Blt mg)(cc:n4 K cC U6)(cb:n4 K cB zc3)(cs:n4 K cS E5):u8 P w K mg base CX0 1 f fd ["self","level"] (yi1 cC cB cS):=by
 refine F.ok zb9 (λvs H Q E h=>?_) (λcdv Ar outer sh H vs Q E hr h=>?_)
 ·obtain⟨A,S,n,lv,rfl,_⟩:=h
  rfl
 obtain⟨A,S,n,lv,rfl,ch,iv,hn,hlv,q⟩:=h
 obtain⟨dxc,hc⟩:=ch.c
 obtain⟨a,hA⟩:∃a,A.st[lv]?=some a:=⟨_,ae (by rw[ch.len.1];exact hlv)⟩
 have hs:=ChS.get_at (S:=S) (j:=lv) (by rw[iv.len];exact hlv)
 have st:=ch.st lv a _ hA hs
 obtain⟨dxs,hsa⟩:=st.a
 obtain⟨dxb,hb⟩:=ch.bk.b
 obtain⟨mas,hlm,hmd⟩:=ch.bk.lm
 have gi:atI (A.st.map λs=>V.ref s.a) ((lv:Nat):Int)=some (V.ref a.a):=l9 (by rw[af,hA];rfl)
 have few:=iv.few hn lv
 have hmk:∀k∈(S.atS lv).mv,k<S.md.length:=λk hk=>iv.fine.mvlt hk
 refine⟨_,z7 (v1 (Z6 [0] ["line","self"] rfl (W0 (y9 (k9 p5 (y9 (pv 0) rfl) (pv 1) (λ_ _=>rfl)) rfl)) (λ_ _ _ _=>k9 p5 (y9 (y9 (pv 1) rfl) rfl) (pv 0) (λ_ _=>rfl)))),?_⟩
 refine⟨_,rfl,A.c,cC,dxc,_,_,rfl,hc,cc.cls,cc.no "steps" (by decide),rfl,_,rfl,A.l,_,_,_,rfl,rfl,SqL.of ch.l,gi,a.a,cS,dxs,_,_,rfl,hsa,cs.cls,cs.no "movers" (by decide),rfl,a.m,rfl,⟨_,SqL.of st.m⟩,L6 (SqL.of st.m) (((S.atS lv).mv.map λk=>mas.getD k 0).map V.ref) (by rw[aa,aa,u6]) (by rw[u6];exact small (by lia)) ?_ ?_⟩
 ·intro i H' x hx s' _ _ _ _
  obtain⟨k,hk,rfl⟩:=F9 hx
  obtain⟨b,hb1,hb2⟩:=n6 hmd k _ (V6 [] (hmk k (aq hk)))
  have gk:atI (mas.map V.ref) ((k:Nat):Int)=some (V.ref b):=l9 (by rw[af,hb1];rfl)
  refine⟨_,rfl,A.c,cC,dxc,_,_,rfl,s' _ _ hc,cc.cls,cc.no "book" (by decide),rfl,A.b,cB,dxb,_,_,rfl,s' _ _ hb,cb.cls,cb.no "made" (by decide),rfl,_,rfl,A.lm,_,_,_,rfl,rfl,SqL.of (s' _ _ hlm),gk,y6.refl _,?_⟩
  rw[af,af,hk]
  show some (V.ref (mas.getD k 0))=some (V.ref b)
  rw[au,hb1]
  rfl
 ·intro D H' hD s' hl
  exact q D _ H' hD s' hl ((za5 hmd _ hmk).same s')
def ChS.lean0 (S:ChS):List (List Nat):=(S.atS 0).mv.map λk=>S.md.getD k []
def xg1 (cG cC cB cS:Addr):Sp:=λvs H Q _=>∃(g:Addr) (n:Nat) (ts:List (List Nat)) (S:ChS),vs=[.ref g]/\u7 cG cC cB cS n H g ts S/\∀(l:Addr) (mas:List Addr) (us:List (List Nat)) (H':Hp),H l=none->y6 H H'->H' l=some (.lst (mas.map V.ref))->i5 H' mas us->us.length<=354->(∀u∈us,TM.IsT n u)->(∀x,TM.Grp n (λz=>z∈us) x↔TM.Grp n (λz=>z∈ts) x)->Q (.ref l) H'
def yb6 (cG cC cB cS:Addr):Sp:=λvs H Q _=>∃(g:Addr) (n:Nat) (ts:List (List Nat)) (S:ChS),vs=[.ref g]/\u7 cG cC cB cS n H g ts S/\∀(l:Addr) (mas:List Addr) (H':Hp),H l=none->y6 H H'->H' l=some (.lst (mas.map V.ref))->i5 H' mas S.lean0->S.lean0.length<=354->TM.Indep n S.lean0->(∀u∈S.lean0,TM.IsT n u)->(∀x,TM.Grp n (λz=>z∈S.lean0) x↔TM.Grp n (λz=>z∈ts) x)->Q (.ref l) H'
theorem yu6 {mg:Str->Option Value}(M:Y5 P w K mg base 2 cG "lean_makers" ["self"] (yb6 cG cC cB cS)):Y5 P w K mg base 2 cG "lean_makers" ["self"] (xg1 cG cC cB cS):=by
 obtain⟨f,fd,F,r⟩:=M
 exact⟨f,fd,F.imp λvs H Q E ⟨g,n,ts,S,e,ga,q⟩=>⟨g,n,ts,S,e,ga,λl mas H' hl s hl' ht h1 _ h2 h3=>q l mas S.lean0 H' hl s hl' ht h1 h2 h3⟩,r⟩
theorem B1:x9 ["self"] ["self"] (z9 W8):=scq
theorem D9 (F:Fun K "lean_makers" "Group.lean_makers" W8 f fd)(B:Blt mg)(cg:n4 K cG X4)(cc:n4 K cC U6)(MM:Y5 P w K mg base 1 cC "movers_at" ["self","level"] (yi1 cC cB cS)):u8 P w K mg base CX0 2 f fd ["self"] (yb6 cG cC cB cS):=by
 refine F.ok B1 (λvs H Q E h=>?_) (λcdv Ar outer sh H vs Q E hr h=>?_)
 ·obtain⟨g,n,ts,S,rfl,_⟩:=h
  rfl
 obtain⟨g,n,ts,S,rfl,ga,q⟩:=h
 obtain⟨dx,ma,A,mas,h1,h2,h3,h4⟩:=ga.at'
 obtain⟨dxc,hc⟩:=h4.c
 refine⟨_,z7 (v1 (Y7 cc.cls MM hr (y9 (pv 0) rfl) (z0 w8 z5))),?_⟩
 refine⟨_,rfl,g,cG,dx,_,_,rfl,h1,cg.cls,cg.no "chain" (by decide),rfl,A.c,dxc,_,rfl,hc,rfl,A,S,n,0,rfl,h4,ga.st.inv,ga.n60,ga.n0,λl mas' H' hl s' hl' hts'=>?_⟩
 have few:=ga.st.inv.few ga.n60 0
 have hmv:∀s,S.chn.mv 0 s↔s∈S.lean0:=λs=>⟨λ⟨k,hk,e⟩=>ay.mpr ⟨k,hk,e⟩,λh=>by
  obtain⟨k,hk,e⟩:=ay.mp h
  exact⟨k,hk,e⟩⟩
 refine q l mas' H' hl s' hl' hts' (by rw[show S.lean0.length=(S.atS 0).mv.length from aa _];exact few) (ga.st.inv.ind 0) (λu hu=>ga.st.inv.ok.mvT 0 u ((hmv u).mpr hu)) λx=>?_
 rw[←show S.chn.mv 0=λz=>z∈S.lean0 from funext λs=>propext (hmv s)]
 exact ga.grp x
def kT (t:List Nat):List Key:=t.map λ(x:Nat)=>Sum.inl (x:Int)
theorem zb0 (t:List Nat):(kT t).map kV=tI t:=by
 unfold kT tI
 rw[bx]
 rfl
theorem zo9:∀{t u:List Nat},kT t=kT u->t=u
 | [],[],_=>rfl
 | x::t,y::u,h=>by
  have h:Sum.inl (x:Int)::kT t=(Sum.inl (y:Int)::kT u:List Key):=h
  obtain⟨h1,h2⟩:=List.cons.inj h
  have h1:=Sum.inl.inj h1
  rw[zo9 h2,show x=y by lia]
 | [],_::_,h=>by cases h
 | _::_,[],h=>by cases h
def kTs (L:List (List Nat)):List (List Key×V):=L.map λt=>(kT t,V.bl true)
theorem zj2 (u:List Nat):∀L:List (List Nat),V4 (kTs L) (kT u)=if u∈L then some (V.bl true) else none
 | []=>rfl
 | t::L=>by
  have e:kTs (t::L)=(kT t,V.bl true)::kTs L:=rfl
  rw[e]
  by_cases h:t=u
  ·subst h
   rw[if_pos ax]
   exact c4 (p:=(kT t,V.bl true)) rfl
  ·rw[i8 (p:=(kT t,V.bl true)) λz=>h (zo9 z),zj2 u L]
   by_cases h2:u∈L
   ·rw[if_pos h2,if_pos (av _ h2)]
   ·rw[if_neg h2,if_neg λz=>(aw.mp z).elim (λe=>h e.symm) h2]
theorem yv8 (h:u∉L):putK (kTs L) (kT u) (V.bl true)=kTs (L++[u]):=by
 have e:=zj2 u L
 rw[if_neg h]at e
 unfold putK
 rw[T7,e]
 show kTs L++[(kT u,V.bl true)]=kTs (L++[u])
 unfold kTs
 rw[aH]
 rfl
structure Fnd (n:Nat) (S L:List (List Nat)) (k:Nat):Prop where
 nd:L.Nodup
 one:List.range n∈L
 grp:∀x∈L,TM.Grp n (λz=>z∈S) x
 done:∀i x,i<k->L[i]?=some x->∀s∈S,TM.beh x s∈L
 le:k<=L.length
structure Ent where
 k:List Nat
 wa:Addr
 w:List Nat
 ba:Addr
 b:List Nat
def P6 (g:Ent->V)(es:List Ent):List (List Key×V):=es.map λe=>(kT e.k,g e)
theorem zy1 (g:Ent->V):∀{es:List Ent},u∉es.map Ent.k->V4 (P6 g es) (kT u)=none
 | [],_=>rfl
 | e::es,h=>by
  have e1:P6 g (e::es)=(kT e.k,g e)::P6 g es:=rfl
  rw[e1,i8 (p:=(kT e.k,g e)) λz=>h (by rw[←zo9 (show kT e.k=kT u from z)];exact ax)]
  exact zy1 g λz=>h (av _ z)
theorem zl9 (g:Ent->V){e:Ent}:∀{es:List Ent},(es.map Ent.k).Nodup->e∈es->V4 (P6 g es) (kT e.k)=some (g e)
 | d::es,hn,h=>by
  have e1:P6 g (d::es)=(kT d.k,g d)::P6 g es:=rfl
  rw[e1]
  rw[aQ,aV]at hn
  by_cases hk:d.k=e.k
  ·rcases aw.mp h with q|q
   ·rw[q]
    exact c4 (p:=(kT d.k,g d)) rfl
   ·exact absurd (hk ▸ ay.mpr ⟨e,q,rfl⟩) hn.1
  ·rw[i8 (p:=(kT d.k,g d)) λz=>hk (zo9 z)]
   rcases aw.mp h with q|q
   ·exact absurd (by rw[q]) hk
   ·exact zl9 g hn.2 q
theorem ye3 (g:Ent->V){es:List Ent}{e:Ent}(h:e.k∉es.map Ent.k):putK (P6 g es) (kT e.k) (g e)=P6 g (es++[e]):=by
 have e1:=zy1 g h
 unfold putK
 rw[T7,e1]
 show P6 g es++[(kT e.k,g e)]=P6 g (es++[e])
 unfold P6
 rw[aH]
 rfl
structure V5 (H:Hp) (wd bd:Addr) (es:List Ent):Prop where
 w:H wd=some (.dT (P6 (λe=>.ref e.wa) es))
 b:H bd=some (.dT (P6 (λe=>.ref e.ba) es))
 ne:wd≠bd
 at':∀e∈es,H e.wa=some (.tup (tI e.w))/\H e.ba=some (.tup (tI e.b))/\e.w.length<=es.length
 nd:(es.map Ent.k).Nodup
def ym7 (g a o wd bd:Addr):List (Str×V):=[("group",.ref g),("act",.ref a),("own",.ref o),("ways",.ref wd),("bringers",.ref bd)]
def zr3:List Str:=["group","act","own","ways","bringers"]
theorem V5.tup (d:V5 H wd bd es)(h:H tr=some (.tup xs)):tr≠wd/\tr≠bd:=⟨λz=>(by rw[z,d.w]at h;cases h),λz=>(by rw[z,d.b]at h;cases h)⟩
theorem V5.frame (d:V5 H wd bd es)(fr:y8 F H H')(hw:wd∉F)(hb:bd∉F)(hF:∀y∈F,∀xs,H y≠some (.tup xs)):V5 H' wd bd es :=
 ⟨fr _ _ hw d.w,fr _ _ hb d.b,d.ne,λe he=>⟨fr _ _ (λz=>hF _ z _ (d.at' e he).1) (d.at' e he).1,fr _ _ (λz=>hF _ z _ (d.at' e he).2.1) (d.at' e he).2.1,(d.at' e he).2.2⟩,d.nd⟩
theorem V5.same (d:V5 H wd bd es)(s:y6 H H'):V5 H' wd bd es:=d.frame (F:=[]) (y6.frame s) (λz=>by cases z) (λz=>by cases z) λ_ z=>by cases z
theorem P9 {R:TS->Prop}(h:DSs X st t)(r:R t):∃t,PSs X st t/\R t:=⟨t,h.h,r⟩
theorem i4 (h:∀N:St->Hp->Prop,(∀σ H,u D σ H->N σ H)->t1 { D with nx:=N } σ H):xt0 t1 u D σ H:=h (λσ H=>u D σ H) λ_ _ h=>h
def yb8 (cR X:Addr):Sp:=λvs H Q E=>∃(x dx g a o wd bd tr wr br:Addr) (es:List Ent) (k w b:List Nat) (most:Nat),vs=[.ref x,.ref tr,.ref wr,.ref br,.int most]/\H x=some (.ins cR dx (ym7 g a o wd bd))/\V5 H wd bd es/\H tr=some (.tup (tI k))/\H wr=some (.tup (tI w))/\H br=some (.tup (tI b))/\k∉es.map Ent.k/\es.length<1000000/\w.length<=es.length+1 /\
 (es.length<most->∀H',y8 [wd,bd] H H'->V5 H' wd bd (es++[⟨k,wr,w,br,b⟩])->Q .non H')/\(most<=es.length->E (.ref X) none H)
theorem ze7:x9 ["self","thing","way","turning","most"] ["self","thing","way","turning","most"] (z9 R5):=scq
theorem zd8 {cR X TE:Addr}(F:Fun K "put_thing" "Ring.put_thing" R5 f fd)(B:Blt mg)(cr:n4 K cR zr3)(EA:zc1 K mg TE "TooMany" X):u8 P w K mg base (CX1 P w) 1 f fd ["self","thing","way","turning","most"] (yb8 cR X):=by
 refine F.okX ze7 (λvs H Q E h=>?_) (λcdv A outer s H vs Q E hr h=>?_)
 ·obtain⟨x,dx,g,a,o,wd,bd,tr,wr,br,es,k,w,b,most,rfl,_⟩:=h
  rfl
 obtain⟨x,dx,g,a,o,wd,bd,tr,wr,br,es,k,w,b,most,rfl,hx,d,htr,hwr,hbr,hk,hes,hwl,q,qx⟩:=h
 have hz:=p8
 have hu:=ye5 hr
 refine⟨_,y4 (i7 (m9 xn9 (v9 yc8 rfl B.len Y1 (z0 (y9 (pv 0) rfl) z5)) (pv 4) (l5 _)) (z7 (zq9 EA.m EA.c PySem.F.excBase_ValueError rfl rfl (z0 zb3 z5))) r6)
  (y4 (J2 hu (y9 (pv 0) rfl) (pv 1) (pv 2) rfl)
  (z7 (J2 hu (y9 (pv 0) rfl) (pv 1) (pv 3) rfl))),?_⟩
 refine i4 λN hN=>⟨_,rfl,x,cR,dx,_,_,rfl,hx,cr.cls,cr.no "ways" (by decide),rfl,wd,_,rfl,d.w,_,rfl,_,_,rfl,rfl,_,rfl,?_⟩
 rw[show(P6 (λe=>V.ref e.wa) es).length=es.length from aa _]
 by_cases hm:most<=es.length
 ·rw[decide_eq_true (by lia)]
  exact Y2 ⟨by decide,qx hm⟩
 rw[decide_eq_false (by lia)]
 refine g7 (hN _ _ ?_)
 clear hN N
 have hl:∀g:Ent->V,(P6 g es).length<ge:=λg=>by rw[show(P6 g es).length=es.length from aa _];lia
 have kt:∀{G:Hp},G tr=some (.tup (tI k))->G tr=some (.tup ((kT k).map kV)):=λ{G} h=>by rw[zb0];exact h
 obtain⟨tw,tb⟩:=d.tup htr
 obtain⟨ww,wb⟩:=d.tup hwr
 obtain⟨bw,bb⟩:=d.tup hbr
 refine i4 λN hN=>⟨_,rfl,_,rfl,x,cR,dx,_,_,rfl,hx,cr.cls,cr.no "ways" (by decide),rfl,_,rfl,wd,_,rfl,.t d.w (kt htr) (hl _),hN _ _ ?_⟩
 clear hN N
 have xw:x≠wd:=λz=>by rw[z,d.w]at hx;cases hx
 have xb:x≠bd:=λz=>by rw[z,d.b]at hx;cases hx
 have e1:=ye3 (λe=>V.ref e.wa) (es:=es) (e:=⟨k,wr,w,br,b⟩) hk
 have e2:=ye3 (λe=>V.ref e.ba) (es:=es) (e:=⟨k,wr,w,br,b⟩) hk
 dsimp only at e1 e2
 rw[e1]
 have f1:y8 [wd,bd] H (upd H wd (.dT (P6 (λe=>V.ref e.wa) (es++[⟨k,wr,w,br,b⟩])))):=y8.upd y8.refl (by simp) _
 have w1:(upd H wd (.dT (P6 (λe=>V.ref e.wa) (es++[⟨k,wr,w,br,b⟩])))) wd=some (.dT (P6 (λe=>V.ref e.wa) (es++[⟨k,wr,w,br,b⟩]))):=z4
 have b1:(upd H wd (.dT (P6 (λe=>V.ref e.wa) (es++[⟨k,wr,w,br,b⟩])))) bd=some (.dT (P6 (λe=>V.ref e.ba) es)):=by rw[z6 (Ne.symm d.ne)];exact d.b
 generalize upd H wd (.dT (P6 (λe=>V.ref e.wa) (es++[⟨k,wr,w,br,b⟩])))=H1 at f1 w1 b1 ⊢
 have nF:∀{y:Addr},y≠wd->y≠bd->y∉[wd,bd]:=λh1 h2 z=>by simp only[aw,bH,or_false]at z;exact z.elim h1 h2
 refine⟨_,rfl,_,rfl,x,cR,dx,_,_,rfl,f1 _ _ (nF xw xb) hx,cr.cls,cr.no "bringers" (by decide),rfl,_,rfl,bd,_,rfl,.t b1 (kt (f1 _ _ (nF tw tb) htr)) (hl _),?_⟩
 rw[e2]
 have f2:=f1.upd (a:=bd) (by simp) (.dT (P6 (λe=>V.ref e.ba) (es++[⟨k,wr,w,br,b⟩])))
 refine q (by lia) _ f2 ⟨by rw[z6 d.ne];exact w1,z4,d.ne,λe he=>?_,?_⟩
 ·rcases aF.mp he with h|h
  ·obtain⟨p1,p2,p3⟩:=d.at' e h
   obtain⟨t1,t2⟩:=d.tup p1
   obtain⟨t3,t4⟩:=d.tup p2
   exact⟨f2 _ _ (nF t1 t2) p1,f2 _ _ (nF t3 t4) p2,by rw[ah];lia⟩
  ·rw[ar.mp h]
   exact⟨f2 _ _ (nF ww wb) hwr,f2 _ _ (nF bw bb) hbr,by rw[ah];exact hwl⟩
 ·rw[aH]
  exact bK.mpr ⟨d.nd,by simp,λu hu' v hv z=>hk (by rw[aQ,cK,ar]at hv;have hv:v=k:=hv;rw[←hv,←z];exact hu')⟩
structure xo3 (cA:Addr) (n:Nat) (AH:Hp->Addr->Prop) (ok:List Nat->Prop) (mv:List Nat->List Nat->List Nat):Prop where
 ins:∀{H a},AH H a->∃dx fs,H a=some (.ins cA dx fs)/\fs.lookup ("moved":Str)=none/\fs.lookup ("looked":Str)=none/\fs.lookup ("many":Str)=some (.int n)
 same:∀{H H' a},AH H a->y6 H H'->AH H' a
 okm:∀{l t},ok l->TM.IsT n t->ok (mv l t)
def xm3 (n:Nat)(AH:Hp->Addr->Prop)(ok:List Nat->Prop)(mv:List Nat->List Nat->List Nat):Sp:=λvs H Q _=>∃(a lr tr:Addr) (l t:List Nat),vs=[.ref a,.ref lr,.ref tr]/\AH H a/\H lr=some (.tup (tI l))/\ok l/\H tr=some (.tup (tI t))/\TM.IsT n t/\∀(r:Addr) (H':Hp),y6 H H'->H' r=some (.tup (tI (mv l t)))->Q (.ref r) H'
structure X5 (cR cG cC cB cS:Addr) (n:Nat) (AH:Hp->Addr->Prop) (ts:List (List Nat)) (S:ChS) (H0 H:Hp) (x g a o wd bd:Addr) (es:List Ent):Prop where
 x':∃dx,H x=some (.ins cR dx (ym7 g a o wd bd))
 s:y6 H0 H
 w0:H0 wd=none
 b0:H0 bd=none
 ga:u7 cG cC cB cS n H0 g ts S
 ac:AH H0 a
 d:V5 H wd bd es
section
variable {cR cG cC cB cS cA:Addr}{n:Nat}{AH:Hp->Addr->Prop}{ts:List (List Nat)}{S:ChS}{H0 H H':Hp}{x g a o wd bd:Addr}{es es':List Ent}
theorem X5.frame (r:X5 cR cG cC cB cS n AH ts S H0 H x g a o wd bd es)(fr:y8 [wd,bd] H H')(d:V5 H' wd bd es'):X5 cR cG cC cB cS n AH ts S H0 H' x g a o wd bd es':=by
 obtain⟨dx,hx⟩:=r.x'
 have xw:x≠wd:=λz=>by rw[z,r.d.w]at hx;cases hx
 have xb:x≠bd:=λz=>by rw[z,r.d.b]at hx;cases hx
 refine⟨⟨dx,fr _ _ (by simp[xw,xb]) hx⟩,λb u h=>fr b u (λz=>?_) (r.s b u h),r.w0,r.b0,r.ga,r.ac,d⟩
 simp only[aw,bH,or_false]at z
 rcases z with z|z
 ·rw[z,r.w0]at h;cases h
 ·rw[z,r.b0]at h;cases h
theorem X5.same (r:X5 cR cG cC cB cS n AH ts S H0 H x g a o wd bd es)(s:y6 H H'):X5 cR cG cC cB cS n AH ts S H0 H' x g a o wd bd es:=r.frame (y6.frame s) (r.d.same s)
end
theorem xx0 {u:List Nat}{i:Nat}(ha:H a=some (.tup (tI u)))(hb:H b=some (.tup [V.int i]))(hl:u.length+1<=ge)(q:∀(r:Addr) (H':Hp),y6 H H'->H' r=some (.tup (tI (u++[i])))->Q (.ref r) H'):xd9 K (.ref a) (.ref b) H Q:=by
 refine⟨a,b,tI u,[V.int i],rfl,rfl,SqT.of ha,SqT.of hb,by rw[u6];exact hl,λe=>?_,λ_ e=>(by cases e),λ_ _ p hp=>q p _ (z8 hp _) (by rw[z4,A4];rfl)⟩
 cases u with
 | nil=>exact q b H (y6.refl H) hb
 | cons _ _=>cases e
def xo5 (n:Nat)(ts:List (List Nat))(mv:List Nat->List Nat->List Nat)(o:List Nat)(most:Nat):Prop:=∃L:List (List Nat),L.Nodup/\(∀k∈L,TM.Rch n ts mv o k)/\most<L.length
def yr7 (cR cG cC cB cS X:Addr)(n:Nat)(AH:Hp->Addr->Prop)(ok:List Nat->Prop)(mv:List Nat->List Nat->List Nat):Sp:=λvs H Q E=>∃(ts:List (List Nat)) (S:ChS) (H0:Hp) (x g a o wd bd el:Addr) (es:List Ent) (eas:List Addr) (eks:List (List Nat)) (ow:List Nat) (most:Nat),
 vs=[.ref x,.ref el,.int most]/\X5 cR cG cC cB cS n AH ts S H0 H x g a o wd bd es/\H el=some (.lst (eas.map V.ref))/\i5 H eas eks/\(∀k∈eks,k∈es.map Ent.k)/\ok ow/\(∀e∈es,TM.Ways n ts mv ow e.k e.w e.b)/\es.length<=most/\most<1000000 /\
 (∀(fl:Addr) (fas:List Addr) (new:List Ent) (H':Hp),y8 [wd,bd] H H'->X5 cR cG cC cB cS n AH ts S H0 H' x g a o wd bd (es++new)->H' fl=some (.lst (fas.map V.ref))->i5 H' fas (new.map Ent.k)->(∀e∈new,TM.Ways n ts mv ow e.k e.w e.b)->(es++new).length<=most->(∀k∈eks,∀t∈ts,mv k t∈(es++new).map Ent.k)->Q (.ref fl) H') /\
 (∀H',y6 H0 H'->xo5 n ts mv ow most->E (.ref X) none H')
theorem h8:x9 ["self","edge","most","found","thing","number","maker","there"] ["self","edge","most"] (z9 R4):=scq
theorem zd7 {AH:Hp->Addr->Prop}{ok:List Nat->Prop}{mv:List Nat->List Nat->List Nat}(F:Fun K "next_edge" "Ring.next_edge" R4 f fd)(B:Blt mg)(cr:n4 K cR zr3)(cg:n4 K cG X4)(cl:Cls K cA)(ap:xo3 cA n AH ok mv)
  (MT:Y5 P w K mg base 1 cG "told" ["self"] (zs4 cG cC cB cS)) (MM:Y5 P w K mg base 5 cA "moved" ["self","thing","t"] (xm3 n AH ok mv)) (MP:yc3 P w K mg base 1 cR "put_thing" ["self","thing","way","turning","most"] (yb8 cR X)) (KB:o9 P w K mg base 1 "behind" ["one","other"] (N3 K)):u8 P w K mg base (CX1 P w) 6 f fd ["self","edge","most"] (yr7 cR cG cC cB cS X n AH ok mv):=by
 refine F.okX h8 (λvs H Q E h=>?_) (λcdv A outer s H vs Q E hr h=>?_)
 ·obtain⟨ts,S,H0,x,g,a,o,wd,bd,el,es,eas,eks,ow,most,rfl,_⟩:=h
  rfl
 obtain⟨ts,S,H0,x,g,a,o,wd,bd,el,es,eas,eks,ow,most,rfl,ra,hel,hts,hek,hok,hways,hle,hmost,q,qx⟩:=h
 have hz:=p8
 have hu:=ye5 hr
 apply P9
 ·apply v0
  ·exact DS.mk (u4 (i:=3) h8.nd rfl (Or.inl rfl) (c0 z5))
  apply v0
  ·exact DS.mk (U1 PassesOwn.leaving rfl (W0 (pv 1)) (o5 (i:=4) h8.nd rfl (Or.inl rfl))
    (z7 (U1 PassesOwn.leaving rfl (ze3 rfl B.enumerate (z0 (C2 cg.cls MT hr (y9 (pv 0) rfl)) z5)) (zb4 rfl (Z0 (o5 (i:=5) h8.nd rfl (Or.inl rfl)) (Z0 (o5 (i:=6) h8.nd rfl (Or.inl rfl)) J1)))
     (y4 (u4 (i:=7) h8.nd rfl (Or.inl rfl) (Y7 cl MM hr (y9 (pv 0) rfl) (z0 (pv 4) (z0 (pv 6) z5))))
     (z7 (i7 (zh8 (K1 hu (pv 7) (y9 (pv 0) rfl)))
      (y4 (i6 (yg1 cr.cls MP hr (pv 0) (z0 (pv 7) (z0 (e9 xd3 (Q3 hu (y9 (pv 0) rfl) (pv 4) (λ_ _=>rfl)) (C3 (z0 (pv 5) z5))) (z0 (p6 KB hr rfl (z0 (Q3 hu (y9 (pv 0) rfl) (pv 4) (λ_ _=>rfl)) (z0 (pv 6) z5))) (z0 (pv 2) z5))))))
      (z7 (i6 (E4 PySem.F.plainAttrs_list PySem.F.slot_list_append PySem.F.type_list_append X2 (pv 3) (z0 (pv 7) z5))))) r6))))))
  exact⟨z7 (v1 (pv 3))⟩
 have elw:el≠wd:=λz=>by rw[z,ra.d.w]at hel;cases hel
 have elb:el≠bd:=λz=>by rw[z,ra.d.b]at hel;cases hel
 refine i4 λN hN=>⟨aP _,λfl hfl=>hN _ _ ?_⟩
 clear hN N
 have s1:=z8 hfl (.lst [])
 have e1:(upd H fl (.lst [])) fl=some (.lst []):=z4
 generalize upd H fl (.lst [])=H1 at s1 e1 ⊢
 obtain⟨Iv,eI⟩:∃Iv:List (List Nat)->Hp->Prop,Iv=λCl G=>∃(new:List Ent) (fas:List Addr),y8 [wd,bd] H G/\X5 cR cG cC cB cS n AH ts S H0 G x g a o wd bd (es++new)/\G fl=some (.lst (fas.map V.ref))/\i5 G fas (new.map Ent.k)/\(∀e∈new,TM.Ways n ts mv ow e.k e.w e.b)/\(es++new).length<=most/\∀u∈Cl,u∈(es++new).map Ent.k:=⟨_,rfl⟩
 have i0:Iv [] H1:=by
  rw[eI]
  exact⟨[],[],y6.frame s1,by rw[bF];exact ra.same s1,e1,.nil,λe he=>(by cases he),by rw[bF];exact hle,λu hu'=>(by cases hu')⟩
 have iS:∀{Cl G G'},Iv Cl G->y6 G G'->Iv Cl G':=λ{Cl G G'} h s'=>by
  rw[eI]at h ⊢
  obtain⟨new,fas,a1,a2,a3,a4,a5,a6,a7⟩:=h
  exact⟨new,fas,a1.trans (y6.frame s'),a2.same s',s' _ _ a3,a4.same s',a5,a6,a7⟩
 have hpl:eas.length=eks.length:=Paired.length hts
 refine i4 λN hN=>⟨_,rfl,el,rfl,⟨_,SqL.of (s1 _ _ hel)⟩,L8 (xs:=eas.map V.ref) (λi σ G=>∃v4 v5 v6 v7,σ=[some (.ref x),some (.ref el),some (.int most),some (.ref fl),v4,v5,v6,v7]/\Iv ((eks.take i).flatMap λk=>ts.map (mv k)) G)
  ⟨none,none,none,none,rfl,by rw[dS];exact i0⟩ (λi σ G _ ⟨_,_,_,_,_,h⟩=>?_) ?_ ?_⟩
 ·rw[eI]at h
  obtain⟨_,_,fr,_⟩:=h
  exact SqL.of (fr _ _ (by simp[elw,elb]) hel)
 ·clear hN
  rintro i y σ G hy ⟨v4,v5,v6,v7,rfl,hI⟩
  obtain⟨ea,hea,rfl⟩:=Y8 hy
  obtain⟨k,hk,hHk⟩:=u0 hts i ea hea
  have hkes:=hek k (aq hk)
  obtain⟨e0,he0,rfl⟩:=ay.mp hkes
  have hw0:=hways e0 he0
  have hok0:ok e0.k:=TM.Rch.in (P:=ok) hok (λl t hl ht=>ap.okm hl (ra.ga.tT t ht)) ⟨_,_,hw0⟩
  have hI':=hI
  rw[eI]at hI'
  obtain⟨new,fas,a1,a2,a3,_⟩:=hI'
  obtain⟨dx,hx⟩:=a2.x'
  have gaG:=a2.ga.same a2.s
  obtain⟨dxg,ma,Ac,mas0,hg,_⟩:=gaG.at'
  refine⟨_,rfl,x,cR,dx,_,_,rfl,hx,cr.cls,cr.no "group" (by decide),rfl,g,dxg,_,rfl,hg,rfl,g,n,ts,S,rfl,gaG,λml mas G3 hml0 s3 hml hmas=>?_⟩
  have hmw:ml≠wd:=λz=>by rw[z,a2.d.w]at hml0;cases hml0
  have hmb:ml≠bd:=λz=>by rw[z,a2.d.b]at hml0;cases hml0
  have hmf:ml≠fl:=λz=>by rw[z,a3]at hml0;cases hml0
  have w3:=s3 _ _ a2.d.w
  have b3:=s3 _ _ a2.d.b
  have f3:=s3 _ _ a3
  have ea3:G3 ea=some (.tup (tI e0.k)):=s3 _ _ (a1 _ _ (by have:=ra.d.tup hHk;simp[this.1,this.2]) hHk)
  have hI3:=iS hI s3
  clear hI a1 a2 a3 hx gaG hg hml0
  have hTm:∀{G:Hp} {c:Addr} {u:List V},y8 [wd,bd,fl] G3 G->G3 c=some (.tup u)->G c=some (.tup u):=λ{G c u} fr h=>fr _ _ (λz=>by
   simp only[aw,bH,or_false]at z
   rcases z with z|z|z
   ·rw[z,w3]at h;cases h
   ·rw[z,b3]at h;cases h
   ·rw[z,f3]at h;cases h) h
  have hml3:mas.length=ts.length:=Paired.length hmas
  refine⟨ml,rfl,⟨_,SqL.of hml⟩,L7 (xs:=mas.map V.ref) (λj σ G=>∃v5 v6 v7,σ=[some (.ref x),some (.ref el),some (.int most),some (.ref fl),some (.ref ea),v5,v6,v7]/\y8 [wd,bd,fl] G3 G/\Iv (((eks.take i).flatMap λk=>ts.map (mv k))++(ts.take j).map (mv e0.k)) G)
   ⟨v5,v6,v7,rfl,y8.refl,by rw[dS,cK,bF];exact hI3⟩ (λj σ G _ ⟨_,_,_,_,fr,_⟩=>SqL.of (fr _ _ (by simp[hmw,hmb,hmf]) hml)) ?_ ?_⟩
  ·rintro j y σ G T hy ⟨v5,v6,v7,rfl,fr,hI⟩ hT
   obtain⟨m,hm,rfl⟩:=Y8 hy
   obtain⟨t,ht,hmt⟩:=u0 hmas j m hm
   have tT:=ra.ga.tT t (aq ht)
   refine⟨T,_,rfl,SqT.of z4,rfl,_,_,rfl,_,_,rfl,rfl,?_⟩
   have s4:=z8 hT (.tup [V.int ((j:Nat):Int),V.ref m])
   generalize upd G T (.tup [V.int ((j:Nat):Int),V.ref m])=G4 at s4 ⊢
   have ea4:=s4 _ _ (hTm fr ea3)
   have m4:=s4 _ _ (hTm fr hmt)
   have fr4:=fr.trans (y6.frame s4)
   have hI4:=iS hI s4
   clear hI s4 hT
   have hI':=hI4
   rw[eI]at hI'
   obtain⟨new,fas,a1,a2,a3,a4,a5,a6,a7⟩:=hI'
   obtain⟨dx,hx⟩:=a2.x'
   have hA:=ap.same a2.ac a2.s
   obtain⟨dxa,fsa,hains,l1,_⟩:=ap.ins hA
   refine i4 λM hM=>⟨_,rfl,x,cR,dx,_,_,rfl,hx,cr.cls,cr.no "act" (by decide),rfl,a,dxa,fsa,rfl,hains,l1,_,rfl,_,rfl,a,ea,m,e0.k,t,rfl,hA,ea4,hok0,m4,tT,λr G5 s5 hr5=>hM _ _ ?_⟩
   clear hM M hA hains l1
   have ea5:=s5 _ _ ea4
   have m5:=s5 _ _ m4
   have fr5:=fr4.trans (y6.frame s5)
   replace a1:=a1.trans (y6.frame s5)
   replace a2:=a2.same s5
   replace a3:=s5 _ _ a3
   replace a4:=a4.same s5
   replace hx:=s5 _ _ hx
   clear hI4 ea4 m4 fr4 s5
   generalize G5=G5 at *
   have kt:∀{c:Addr} {u:List Nat},G5 c=some (.tup (tI u))->G5 c=some (.tup ((kT u).map kV)):=λ{c u} h=>by rw[zb0];exact h
   have more:∀(v5' v6' v7':Option V) (new':List Ent) (fas':List Addr) (G':Hp),y8 [wd,bd,fl] G3 G'->y8 [wd,bd] H G'->X5 cR cG cC cB cS n AH ts S H0 G' x g a o wd bd (es++new')->G' fl=some (.lst (fas'.map V.ref))->i5 G' fas' (new'.map Ent.k)->(∀e∈new',TM.Ways n ts mv ow e.k e.w e.b)->(es++new').length<=most->(∀u∈(es++new).map Ent.k,u∈(es++new').map Ent.k)->mv e0.k t∈(es++new').map Ent.k ->
     ∃v5 v6 v7,[some (.ref x),some (.ref el),some (.int most),some (.ref fl),some (.ref ea),v5',v6',v7']=[some (.ref x),some (.ref el),some (.int most),some (.ref fl),some (.ref ea),v5,v6,v7]/\y8 [wd,bd,fl] G3 G'/\Iv (((eks.take i).flatMap λk=>ts.map (mv k))++(ts.take (j+1)).map (mv e0.k)) G':=by
    intro v5' v6' v7' new' fas' G' b1 b2 b3 b4 b5 b6 b7 b8 b9
    refine⟨_,_,_,rfl,b1,?_⟩
    rw[eI]
    refine⟨new',fas',b2,b3,b4,b5,b6,b7,λu hu'=>?_⟩
    rw[bJ,ht,fx,aH,←bj]at hu'
    rcases aF.mp hu' with h|h
    ·exact b8 u (a7 u h)
    ·rw[aQ,cK,ar]at h
     rw[h]
     exact b9
   by_cases hin:mv e0.k t∈(es++new).map Ent.k
   ·obtain⟨e1,he1,ek1⟩:=ay.mp hin
    have hv:=zl9 (λe=>V.ref e.wa) a2.d.nd he1
    rw[ek1]at hv
    refine⟨_,rfl,_,rfl,x,cR,dx,_,_,rfl,hx,cr.cls,cr.no "ways" (by decide),rfl,wd,_,rfl,V1.t a2.d.w (kt hr5),?_⟩
    rw[hv]
    refine⟨_,rfl,g7 ?_⟩
    exact more _ _ _ new fas G5 fr5 a1 a2 a3 a4 a5 a6 (λu h=>h) hin
   ·have hv:=zy1 (λe=>V.ref e.wa) hin
    refine⟨_,rfl,_,rfl,x,cR,dx,_,_,rfl,hx,cr.cls,cr.no "ways" (by decide),rfl,wd,_,rfl,V1.t a2.d.w (kt hr5),?_⟩
    rw[hv]
    refine⟨_,rfl,Y2 ?_⟩
    have he0':e0∈es++new:=aJ _ he0
    obtain⟨p1,p2,p3⟩:=a2.d.at' e0 he0'
    have hv1:=zl9 (λe=>V.ref e.wa) a2.d.nd he0'
    have hv2:=zl9 (λe=>V.ref e.ba) a2.d.nd he0'
    have hbT:=hw0.isT ra.ga.tT
    have hn60:=ra.ga.n60
    refine i4 λM hM=>⟨_,rfl,x,dx,_,rfl,hx,rfl,_,rfl,_,rfl,x,cR,dx,_,_,rfl,hx,cr.cls,cr.no "ways" (by decide),rfl,_,rfl,wd,_,rfl,hv1 ▸ V1.t a2.d.w (kt ea5),_,rfl,(by show 1<=ge;lia),λtp htp=>xx0 (z8 htp _ _ _ p1) z4 (by lia) λwr G6 s6 hwr=>?_⟩
    replace s6:=(z8 htp (.tup [V.int ((j:Nat):Int)])).trans s6
    refine⟨_,rfl,x,cR,dx,_,_,rfl,s6 _ _ hx,cr.cls,cr.no "bringers" (by decide),rfl,_,rfl,bd,_,rfl,hv2 ▸ V1.t (s6 _ _ a2.d.b) (by rw[zb0];exact s6 _ _ ea5),_,rfl,e0.ba,m,e0.b,t,rfl,SqT.of (s6 _ _ p2),SqT.of (s6 _ _ m5),(by rw[hbT.length];lia),(λz hz'=>by rw[tT.length];exact bv.mp ((show e0.b.Perm (List.range n) from hbT).mem_iff.mp hz')),λbr G7 _ s7 hbr=>⟨_,rfl,?_⟩⟩
    have s57:=s6.trans s7
    have hW1:TM.Ways n ts mv ow (mv e0.k t) (e0.w++[j]) (TM.beh e0.b t):=.step hw0 ht
    replace a2:=a2.same s57
    replace a1:=a1.trans (y6.frame s57)
    replace a3:=s57 _ _ a3
    replace a4:=a4.same s57
    replace fr5:=fr5.trans (y6.frame s57)
    replace hr5:=s57 _ _ hr5
    replace hx:=s57 _ _ hx
    refine⟨x,dx,g,a,o,wd,bd,r,wr,br,es++new,mv e0.k t,e0.w++[j],TM.beh e0.b t,most,rfl,hx,a2.d,hr5,s7 _ _ hwr,hbr,hin,by lia,by rw[ah];show e0.w.length+1<=_;lia,λhlt G8 f8 d8=>hM _ _ ?_,λhge=>qx G7 a2.s ⟨mv e0.k t::(es++new).map Ent.k,aV.mpr ⟨hin,a2.d.nd⟩,λu hu'=>?_,by rw[aC,aa];lia⟩⟩
    ·clear hM M
     have flw:fl≠wd:=λz=>by rw[z,a2.d.w]at a3;cases a3
     have flb:fl≠bd:=λz=>by rw[z,a2.d.b]at a3;cases a3
     have r8:=a2.frame f8 d8
     have a38:=f8 _ _ (by simp[flw,flb]) a3
     have hr8:G8 r=some (.tup (tI (mv e0.k t))):=f8 _ _ (by have:=a2.d.tup hr5;simp[this.1,this.2]) hr5
     refine⟨_,rfl,.inl ⟨rfl,_,SqL.of a38⟩,_,rfl,fl,_,_,rfl,rfl,a38,?_,?_⟩
     ·rw[aa]
      have:=Paired.length a4
      rw[aa]at this
      rw[ah]at a6
      lia
     have f9:y8 [fl] G8 (upd G8 fl (.lst (fas.map V.ref++[V.ref r]))):=y8.upd y8.refl (by simp) _
     have hfk:∀y∈[fl],∀us,G8 y≠some (.tup us):=λy hy us z=>by rw[ar.mp hy,a38]at z;cases z
     obtain⟨dx8,hx8⟩:=r8.x'
     have xf:x≠fl:=λz=>by rw[z,a38]at hx8;cases hx8
     have hflH:H fl=none:=hfl
     have H0fl:H0 fl=none:=by
      cases e:H0 fl with
      | none=>rfl
      | some u=>rw[ra.s _ _ e]at hfl;cases hfl
     refine more _ _ _ (new++[⟨mv e0.k t,wr,e0.w++[j],br,TM.beh e0.b t⟩]) (fas++[r]) _ ?_ ?_ ?_ ?_ ?_ ?_ ?_ ?_ ?_
     ·exact(fr5.trans (f8.more (by simp))).trans (f9.more (by simp))
     ·exact λb u hb h=>by rw[z6 (y0 h hfl)];exact(a1.trans f8) b u hb h
     ·rw[←bj]
      exact⟨⟨dx8,by rw[z6 xf];exact hx8⟩,λb u h=>by rw[z6 (y0 h H0fl)];exact r8.s b u h,r8.w0,r8.b0,r8.ga,r8.ac,r8.d.frame f9 (by simp[Ne.symm flw]) (by simp[Ne.symm flb]) hfk⟩
     ·rw[z4,aH];rfl
     ·have kp:∀{c:Addr} {u:List V},G7 c=some (.tup u)->(upd G8 fl (.lst (fas.map V.ref++[V.ref r]))) c=some (.tup u):=λ{c u} h=>f9 _ _ (λz=>hfk _ z u (f8 _ _ (by have:=a2.d.tup h;simp[this.1,this.2]) h)) (f8 _ _ (by have:=a2.d.tup h;simp[this.1,this.2]) h)
      rw[aH]
      exact O5 (Paired.imp' (λ_ _ z=>kp z) a4) (.cons (kp hr5) .nil)
     ·intro e he
      rcases aF.mp he with h|h
      ·exact a5 e h
      ·rw[ar.mp h];exact hW1
     ·rw[←bj,ah];show _+1<=most;lia
     ·intro u h
      rw[←bj,aH]
      exact aJ _ h
     ·rw[←bj,aH]
      exact aG _ (by simp)
    ·rcases aw.mp hu' with h|h
     ·rw[h];exact⟨_,_,hW1⟩
     ·obtain⟨e,he,rfl⟩:=ay.mp h
      rcases aF.mp he with h|h
      ·exact⟨_,_,hways e h⟩
      ·exact⟨_,_,a5 e h⟩
  ·rintro σ G ⟨v5,v6,v7,rfl,fr,hI⟩
   refine⟨_,_,_,_,rfl,?_⟩
   rw[aa,hml3,cn]at hI
   rw[bJ,hk,fx,List.flatMap_append,dZ,List.flatMap_nil,bF]
   exact hI
 ·rintro σ G ⟨v4,v5,v6,v7,rfl,hI⟩
  rw[aa,hpl,cn]at hI
  rw[eI]at hI
  obtain⟨new,fas,a1,a2,a3,a4,a5,a6,a7⟩:=hI
  exact hN _ _ ⟨_,rfl,q fl fas new G a1 a2 a3 a4 a5 a6 λk hk t ht=>a7 _ (dN.mpr ⟨k,hk,ay.mpr ⟨t,ht,rfl⟩⟩)⟩
def xf9 (cR cG cC cB cS X:Addr)(n:Nat)(AH:Hp->Addr->Prop)(ok:List Nat->Prop)(mv:List Nat->List Nat->List Nat):Sp:=λvs H Q E=>∃(ts:List (List Nat)) (S:ChS) (H0:Hp) (x g a o wd bd:Addr) (ow:List Nat) (most:Nat),
 vs=[.ref x,.int most]/\X5 cR cG cC cB cS n AH ts S H0 H x g a o wd bd []/\H o=some (.tup (tI ow))/\ok ow/\most<1000000 /\
 (∀(es:List Ent) (H':Hp),y8 [wd,bd] H H'->X5 cR cG cC cB cS n AH ts S H0 H' x g a o wd bd es->(∀e∈es,TM.Ways n ts mv ow e.k e.w e.b)->es.length<=most->ow∈es.map Ent.k->(∀k∈es.map Ent.k,∀t∈ts,mv k t∈es.map Ent.k)->Q .non H') /\
 (∀H',y6 H0 H'->xo5 n ts mv ow most->E (.ref X) none H')
theorem F0:x9 ["self","most","edge"] ["self","most"] (z9 C7):=scq
theorem zz0 {AH:Hp->Addr->Prop}{ok:List Nat->Prop}{mv:List Nat->List Nat->List Nat}(F:Fun K "fill" "Ring.fill" C7 f fd)(B:Blt mg)(cr:n4 K cR zr3)(cg:n4 K cG X4)
  (MN:yc3 P w K mg base 6 cR "next_edge" ["self","edge","most"] (yr7 cR cG cC cB cS X n AH ok mv)) (MP:yc3 P w K mg base 1 cR "put_thing" ["self","thing","way","turning","most"] (yb8 cR X)) (KS:o9 P w K mg base 1 "still" ["many"] zf4):u8 P w K mg base (CX1 P w) 7 f fd ["self","most"] (xf9 cR cG cC cB cS X n AH ok mv):=by
 refine F.okX F0 (λvs H Q E h=>?_) (λcdv A outer s H vs Q E hr h=>?_)
 ·obtain⟨ts,S,H0,x,g,a,o,wd,bd,ow,most,rfl,_⟩:=h
  rfl
 obtain⟨ts,S,H0,x,g,a,o,wd,bd,ow,most,rfl,ra,ho,hok,hmost,q,qx⟩:=h
 have hz:=p8
 apply P9
 ·apply v0
  ·exact DS.mk (u4 (i:=2) F0.nd rfl (Or.inl rfl) (c0 (z0 (y9 (pv 0) rfl) z5)))
  apply v0
  ·exact DS.mk (i6 (yg1 cr.cls MP hr (pv 0) (z0 (y9 (pv 0) rfl) (z0 (C3 z5) (z0 (p6 KS hr rfl (z0 (y9 (y9 (pv 0) rfl) rfl) z5)) (z0 (pv 1) z5))))))
  exact⟨z7 (zr0 PassesOwn.leaving (m9 yg0 (v9 q9 rfl B.len Y1 (z0 (pv 2) z5)) w8 (l5 _)) (z7 (u4 (i:=2) F0.nd rfl (Or.inl rfl) (yg1 cr.cls MN hr (pv 0) (z0 (pv 2) (z0 (pv 1) z5))))))⟩
 obtain⟨dx,hx⟩:=ra.x'
 refine i4 λN hN=>⟨_,rfl,x,cR,dx,_,_,rfl,hx,cr.cls,cr.no "own" (by decide),rfl,(by show 1<=ge;lia),λel hel=>hN _ _ ?_⟩
 clear hN N
 have s1:=z8 hel (.lst [V.ref o])
 have e1:(upd H el (.lst [V.ref o])) el=some (.lst [V.ref o]):=z4
 generalize upd H el (.lst [V.ref o])=H1 at s1 e1 ⊢
 have r1:=ra.same s1
 obtain⟨dxg,ma,Ac,mas0,hg,_⟩:=(r1.ga.same r1.s).at'
 refine i4 λN hN=>⟨_,rfl,x,dx,_,rfl,s1 _ _ hx,rfl,_,rfl,x,cR,dx,_,_,rfl,s1 _ _ hx,cr.cls,cr.no "own" (by decide),rfl,aP _,λwr hwr=>?_⟩
 have s2:=z8 hwr (.tup [])
 have e2:(upd H1 wr (.tup [])) wr=some (.tup []):=z4
 generalize upd H1 wr (.tup [])=H2 at s2 e2 ⊢
 refine⟨_,rfl,x,cR,dx,_,_,rfl,s2 _ _ (s1 _ _ hx),cr.cls,cr.no "group" (by decide),rfl,g,cG,dxg,_,_,rfl,s2 _ _ hg,cg.cls,cg.no "many" (by decide),rfl,n,rfl,by have:=ra.ga.n60;lia,λbr H3 _ s3 hbr=>⟨_,rfl,?_⟩⟩
 have s23:=s2.trans s3
 have r3:=r1.same s23
 refine⟨x,dx,g,a,o,wd,bd,o,wr,br,[],ow,[],List.range n,most,rfl,s23 _ _ (s1 _ _ hx),r3.d,s23 _ _ (s1 _ _ ho),s3 _ _ e2,hbr,(λz=>by cases z),by show 0<1000000;decide,aP _,λhlt H4 f4 d4=>hN _ _ ?_,λhge=>qx H3 r3.s ⟨[ow],by simp,λk hk=>by rw[ar.mp hk];exact TM.Rch.own,by show most<1;simp at hge;lia⟩⟩
 clear hN N
 have r4:=r3.frame f4 d4
 have F4:y8 [wd,bd] H H4:=(y6.frame (s1.trans s23)).trans f4
 have el4:H4 el=some (.lst [V.ref o]):=f4 _ _ (λz=>by
  simp only[aw,bH,or_false]at z
  rcases z with z|z
  ·rw[z,ra.d.w]at hel;cases hel
  ·rw[z,ra.d.b]at hel;cases hel) (s23 _ _ e1)
 have o4:H4 o=some (.tup (tI ow)):=f4 _ _ (by have:=r3.d.tup (s23 _ _ (s1 _ _ ho));simp[this.1,this.2]) (s23 _ _ (s1 _ _ ho))
 refine⟨λm σ G=>∃(el:Addr) (eas:List Addr) (eks:List (List Nat)) (es:List Ent),σ=[some (.ref x),some (.int most),some (.ref el)]/\y8 [wd,bd] H G/\X5 cR cG cC cB cS n AH ts S H0 G x g a o wd bd es/\G el=some (.lst (eas.map V.ref))/\i5 G eas eks/\(∀k∈eks,k∈es.map Ent.k)/\(∀e∈es,TM.Ways n ts mv ow e.k e.w e.b)/\es.length<=most/\ow∈es.map Ent.k/\(∀k∈es.map Ent.k,k∈eks∨∀t∈ts,mv k t∈es.map Ent.k)/\m=2*(most-es.length)+(if eks=[] then 0 else 1),⟨_,el,[o],[ow],[⟨ow,wr,[],br,List.range n⟩],rfl,F4,r4,el4,.cons o4 .nil,by simp,λe he=>by rw[ar.mp he];exact .own,hlt,by simp,λk hk=>.inl (by simpa using hk),rfl⟩,?_⟩
 rintro m σ G ⟨el,eas,eks,es,rfl,fG,rG,hel,hts,hek,hw,hle,how,hcl,em⟩
 have hlen:eas.length=eks.length:=Paired.length hts
 refine⟨_,rfl,el,_,rfl,.inl (SqL.of hel),_,_,rfl,rfl,_,rfl,?_⟩
 rw[aa]
 by_cases h0:eas.length=0
 ·rw[decide_eq_false (by lia)]
  have hek0:eks=[]:=dq.mp (by lia)
  refine g7 (q es G fG rG hw hle how λk hk=>?_)
  rcases hcl k hk with h|h
  ·rw[hek0]at h;cases h
  ·exact h
 rw[decide_eq_true (by lia)]
 have hek0:eks≠[]:=λz=>by rw[z]at hlen;exact h0 hlen
 rw[if_neg hek0]at em
 obtain⟨dx',hx'⟩:=rG.x'
 refine Y2 ⟨λσ' H'=>∃m',m'<m/\_,λσ' H' h=>h,?_⟩
 refine⟨_,rfl,x,dx',_,rfl,hx',rfl,_,rfl,_,rfl,ts,S,H0,x,g,a,o,wd,bd,el,es,eas,eks,ow,most,rfl,rG,hel,hts,hek,hok,hw,hle,hmost,λfl fas new H' f' r' hfl htf hw' hle' hcl'=>?_,qx⟩
 refine⟨2*(most-(es++new).length)+(if new.map Ent.k=[] then 0 else 1),?_,fl,fas,new.map Ent.k,es++new,rfl,fG.trans f',r',hfl,htf,λk hk=>?_,λe he=>?_,hle',?_,λk hk=>?_,rfl⟩
 ·rw[em,ah]
  rw[ah]at hle'
  by_cases hn:new=[]
  ·rw[hn,cK,if_pos rfl,dF];lia
  ·have:0<new.length:=List.length_pos_iff.mpr hn
   rw[if_neg λz=>hn (List.map_eq_nil_iff.mp z)];lia
 ·rw[aH];exact aG _ hk
 ·rcases aF.mp he with h|h
  ·exact hw e h
  ·exact hw' e h
 ·rw[aH];exact aJ _ how
 ·rw[aH]at hk
  rcases aF.mp hk with h|h
  ·refine .inr λt ht=>?_
   rcases hcl k h with h|h
   ·exact hcl' k h t ht
   ·rw[aH];exact aJ _ (h t ht)
  ·exact .inl h
def xs4 (AH:Hp->Addr->Prop)(LK:Hp->V->Option (List Nat)->Prop)(X:Addr):Sp:=λvs H Q E=>∃(a:Addr) (v:V) (r:Option (List Nat)),vs=[.ref a,v]/\AH H a/\LK H v r/\(∀l,r=some l->∀(o:Addr) (H':Hp),y6 H H'->H' o=some (.tup (tI l))->Q (.ref o) H')/\(r=none->∀H',y6 H H'->E (.ref X) none H')
structure xo6 (cG cC cB cS:Addr) (n:Nat) (ts:List (List Nat)) (S:ChS) (H0 H:Hp) (x g:Addr):Prop where
 s:y6 H0 H
 x0:H0 x=none
 ga:u7 cG cC cB cS n H0 g ts S
structure xt7 (n:Nat) (ts:List (List Nat)) (mv:List Nat->List Nat->List Nat) (ow:List Nat) (most:Nat) (es:List Ent):Prop where
 w:∀e∈es,TM.Ways n ts mv ow e.k e.w e.b
 le:es.length<=most
 own:ow∈es.map Ent.k
 cl:∀k∈es.map Ent.k,∀t∈ts,mv k t∈es.map Ent.k
def yb9 (cR cG cC cB cS cA X X1:Addr)(n:Nat)(AH:Hp->Addr->Prop)(LK:Hp->V->Option (List Nat)->Prop)(ok:List Nat->Prop)(mv:List Nat->List Nat->List Nat):Sp:=λvs H Q E=>∃(ts:List (List Nat)) (S:ChS) (H0:Hp) (x dx g a:Addr) (v:V) (most:Nat),
 vs=[.ref x,.ref g,.ref a,v,.int most]/\H x=some (.ins cR dx [])/\xo6 cG cC cB cS n ts S H0 H x g/\most<1000000/\AH H0 a/\∃r,LK H0 v r/\(∀l,r=some l->ok l)/\(r=none->∀H',y6 H0 H'->E (.ref X1) none H') /\
 ∀ow,r=some ow->(∀(o wd bd:Addr) (es:List Ent) (H':Hp),y8 [x] H H'->X5 cR cG cC cB cS n AH ts S H0 H' x g a o wd bd es->H' o=some (.tup (tI ow))->xt7 n ts mv ow most es->Q .non H')/\(∀H',y6 H0 H'->xo5 n ts mv ow most->E (.ref X) none H')
theorem zi2:x9 ["self","group","act","thing","most"] ["self","group","act","thing","most"] (z9 h9):=scq
theorem zz1 {cR cG cC cB cS cA X X1 TE:Addr}{AH:Hp->Addr->Prop}{LK:Hp->V->Option (List Nat)->Prop}{ok:List Nat->Prop}{mv:List Nat->List Nat->List Nat}(F:zg0 K "__init__" "Ring.__init__" h9 f fd #[.int 1000 tk])(B:Blt mg)(cr:n4 K cR zr3)(cg:n4 K cG X4)(ca:n4 K cA ["many"])(ap:xo3 cA n AH ok mv)(lk:∀{H H' v r},LK H v r->y6 H H'->LK H' v r)
  (ML:yc3 P w K mg base 6 cA "looked" ["self","thing"] (xs4 AH LK X1)) (MF:yc3 P w K mg base 7 cR "fill" ["self","most"] (xf9 cR cG cC cB cS X n AH ok mv)) (EA:zc1 K mg TE "NoThing" X1):u8 P w K mg base (CX1 P w) 8 f fd ["self","group","act","thing","most"] (yb9 cR cG cC cB cS cA X X1 n AH LK ok mv):=by
 refine F.okX zi2 (λvs H Q E h=>?_) (λcdv A outer s H vs Q E hr h=>?_)
 ·obtain⟨ts,S,H0,x,dx,g,a,v,most,rfl,_⟩:=h
  rfl
 obtain⟨ts,S,H0,x,dx,g,a,v,most,rfl,hx,ri,hmost,hA,r,hLK,hokr,qn,qs⟩:=h
 have hz:=p8
 apply P9
 ·apply v0
  ·exact DS.mk (i7 (m9 yq2 (y9 (pv 2) rfl) (y9 (pv 1) rfl) (l5 _)) (z7 (zq9 EA.m EA.c PySem.F.excBase_ValueError rfl rfl (z0 zb3 z5))) r6)
  apply v0
  ·exact DS.mk (Z3 (pv 0) (pv 1) rfl)
  apply v0
  ·exact DS.mk (Z3 (pv 0) (pv 2) rfl)
  apply v0
  ·exact DS.mk (Z3 (pv 0) (yg1 ca.cls ML hr (pv 2) (z0 (pv 3) z5)) rfl)
  apply v0
  ·exact DS.mk (Z3 (pv 0) zq4 rfl)
  apply v0
  ·exact DS.mk (Z3 (pv 0) zq4 rfl)
  exact⟨z7 (i6 (yg1 cr.cls MF hr (pv 0) (z0 (pv 4) z5)))⟩
 have gaH:=ri.ga.same ri.s
 obtain⟨dxg,ma,Ac,mas0,hg,_⟩:=gaH.at'
 obtain⟨dxa,fsa,hains,l1,l2,l3⟩:=ap.ins (ap.same hA ri.s)
 have nx:∀{b:Addr} {u:HO},H0 b=some u->b≠x:=λ{b u} h z=>by rw[z,ri.x0]at h;cases h
 refine i4 λN hN=>⟨_,rfl,a,cA,dxa,_,_,rfl,hains,ca.cls,ca.no "many" (by decide),l3,_,rfl,g,cG,dxg,_,_,rfl,hg,cg.cls,cg.no "many" (by decide),rfl,rfl,_,rfl,?_⟩
 show if (!decide (V.int n=V.int n))=true then _ else _
 rw[decide_eq_true rfl]
 refine g7 (hN _ _ ?_)
 clear hN N
 have same0:∀{H':Hp},y8 [x] H H'->y6 H0 H':=λ{H'} fr b u h=>fr b u (by simpa using nx h) (ri.s b u h)
 refine i4 λN hN=>⟨_,rfl,_,rfl,x,cR,dx,[],rfl,hx,cr.cls,cr.no "group" (by decide),by decide,hN _ _ ?_⟩
 clear hN N
 obtain⟨H1,g1,f1,x1⟩:=n8 (H:=H) (x:=x) (cS:=cR) (dx:=dx) (f:="group") (v:=V.ref g) (fs:=[]) (fs':=[("group",.ref g)]) rfl
 rw[g1]
 refine i4 λN hN=>⟨_,rfl,_,rfl,x,cR,dx,_,rfl,x1,cr.cls,cr.no "act" (by decide),by (show 1<1000;decide),hN _ _ ?_⟩
 clear hN N
 obtain⟨H2,g2,f2,x2⟩:=n8 (H:=H1) (x:=x) (cS:=cR) (dx:=dx) (f:="act") (v:=V.ref a) (fs:=[("group",.ref g)]) (fs':=[("group",.ref g),("act",.ref a)]) rfl
 rw[g2]
 have F2:y8 [x] H H2:=f1.trans f2
 have s2:=same0 F2
 obtain⟨dxa2,fsa2,hains2,_,l2',_⟩:=ap.ins (ap.same hA s2)
 refine i4 λN hN=>⟨_,rfl,a,dxa2,fsa2,rfl,hains2,l2',_,rfl,a,v,r,rfl,ap.same hA s2,lk hLK s2,λow hr0 o H3 s3 ho=>?_,λhr0 H3 s3=>qn hr0 H3 (s2.trans s3)⟩
 obtain⟨q,qx⟩:=qs ow hr0
 have hok:=hokr ow hr0
 refine⟨_,rfl,x,cR,dx,_,rfl,s3 _ _ x2,cr.cls,cr.no "own" (by decide),by (show 2<1000;decide),hN _ _ ?_⟩
 clear hN N
 obtain⟨H4,g4,f4,x4⟩:=n8 (H:=H3) (x:=x) (cS:=cR) (dx:=dx) (f:="own") (v:=V.ref o) (fs:=[("group",.ref g),("act",.ref a)]) (fs':=[("group",.ref g),("act",.ref a),("own",.ref o)]) rfl
 rw[g4]
 have F4:y8 [x] H H4:=(F2.trans (y6.frame s3)).trans f4
 have ox:o≠x:=λz=>by rw[z,s3 _ _ x2]at ho;cases ho
 have o4:=f4.keep ho ox
 refine i4 λN hN=>λwd hwd=>?_
 have s5:=z8 hwd (.dT [])
 have w5:(upd H4 wd (.dT [])) wd=some (.dT []):=z4
 generalize upd H4 wd (.dT [])=H5 at s5 w5 ⊢
 have xw:wd≠x:=λz=>by rw[z,x4]at hwd;cases hwd
 refine⟨_,rfl,x,cR,dx,_,rfl,s5 _ _ x4,cr.cls,cr.no "ways" (by decide),by (show 3<1000;decide),hN _ _ ?_⟩
 clear hN N
 obtain⟨H6,g6,f6,x6⟩:=n8 (H:=H5) (x:=x) (cS:=cR) (dx:=dx) (f:="ways") (v:=V.ref wd) (fs:=[("group",.ref g),("act",.ref a),("own",.ref o)]) (fs':=[("group",.ref g),("act",.ref a),("own",.ref o),("ways",.ref wd)]) rfl
 rw[g6]
 have F6:y8 [x] H H6:=(F4.trans (y6.frame s5)).trans f6
 have w6:=f6.keep w5 xw
 have o6:=f6.keep (s5 _ _ o4) ox
 refine i4 λN hN=>λbd hbd=>?_
 have s7:=z8 hbd (.dT [])
 have b7:(upd H6 bd (.dT [])) bd=some (.dT []):=z4
 generalize upd H6 bd (.dT [])=H7 at s7 b7 ⊢
 have xb:bd≠x:=λz=>by rw[z,x6]at hbd;cases hbd
 have wb:wd≠bd:=λz=>by rw[←z,w6]at hbd;cases hbd
 refine⟨_,rfl,x,cR,dx,_,rfl,s7 _ _ x6,cr.cls,cr.no "bringers" (by decide),by (show 4<1000;decide),hN _ _ ?_⟩
 clear hN N
 obtain⟨H8,g8,f8,x8⟩:=n8 (H:=H7) (x:=x) (cS:=cR) (dx:=dx) (f:="bringers") (v:=V.ref bd) (fs:=[("group",.ref g),("act",.ref a),("own",.ref o),("ways",.ref wd)]) (fs':=ym7 g a o wd bd) rfl
 rw[g8]
 have F8:y8 [x] H H8:=(F6.trans (y6.frame s7)).trans f8
 have fresh:∀{y:Addr} {G:Hp},y8 [x] H G->y≠x->G y=none->H0 y=none:=λ{y G} fr hy h=>by
  cases e:H0 y with
  | none=>rfl
  | some u=>rw[fr y u (by simpa using hy) (ri.s _ _ e)]at h;cases h
 have r8:X5 cR cG cC cB cS n AH ts S H0 H8 x g a o wd bd []:=⟨⟨dx,x8⟩,same0 F8,fresh F4 xw hwd,fresh F6 xb hbd,ri.ga,hA,⟨f8.keep (s7 _ _ w6) xw,f8.keep b7 xb,wb,λe he=>(by cases he),by simp⟩⟩
 have o8:=f8.keep (s7 _ _ o6) ox
 refine⟨_,rfl,x,dx,_,rfl,x8,rfl,_,rfl,ts,S,H0,x,g,a,o,wd,bd,ow,most,rfl,r8,o8,hok,hmost,λes H9 f9 r9 hw9 hle9 how9 hcl9=>?_,qx⟩
 refine q o wd bd es H9 (λb u hb h=>?_) r9 (f9 _ _ (by have:=r8.d.tup o8;simp[this.1,this.2]) o8) ⟨hw9,hle9,how9,hcl9⟩
 refine f9 b u (λz=>?_) (F8 b u hb h)
 simp only[aw,bH,or_false]at z
 rcases z with z|z
 ·rw[z]at h
  rw[F4 wd u (by simpa using xw) h]at hwd;cases hwd
 ·rw[z]at h
  rw[F6 bd u (by simpa using xb) h]at hbd;cases hbd
def zs3 (cR cG cC cB cS:Addr)(n:Nat)(AH:Hp->Addr->Prop):Sp:=λvs H Q _=>∃(ts:List (List Nat)) (S:ChS) (H0:Hp) (x g a o wd bd:Addr) (es:List Ent),vs=[.ref x]/\X5 cR cG cC cB cS n AH ts S H0 H x g a o wd bd es/\(∀e∈es,e.k≠[])/\es.length<=400000 /\
 ∀(l:Addr) (bs:List Addr) (L:List (List Nat)) (H':Hp),H l=none->y6 H H'->H' l=some (.lst (bs.map V.ref))->i5 H' bs L->L.Perm (es.map Ent.k)->Srt L->Q (.ref l) H'
theorem zr8:x9 ["self"] ["self"] (z9 M8):=scq
theorem zq0 {AH:Hp->Addr->Prop}(F:Fun K "things" "Ring.things" M8 f fd)(B:Blt mg)(cr:n4 K cR zr3):u8 P w K mg base CX0 1 f fd ["self"] (zs3 cR cG cC cB cS n AH):=by
 refine F.ok zr8 (λvs H Q E h=>?_) (λcdv A outer s H vs Q E hr h=>?_)
 ·obtain⟨ts,S,H0,x,g,a,o,wd,bd,es,rfl,_⟩:=h
  rfl
 obtain⟨ts,S,H0,x,g,a,o,wd,bd,es,rfl,ra,hne,hl,q⟩:=h
 obtain⟨dx,hx⟩:=ra.x'
 refine⟨_,z7 (v1 (v9 (zt4 rfl) rfl B.sorted zg2 (z0 (y9 (pv 0) rfl) z5))),?_⟩
 refine⟨_,rfl,x,cR,dx,_,_,rfl,hx,cr.cls,cr.no "ways" (by decide),rfl,wd,_,(es.map Ent.k).map TM.iN,rfl,ra.d.w,?_,λy hy=>?_,by rw[aa,aa];exact hl,λl bs qs hl0 hp hs hb=>?_⟩
 ·unfold P6
  rw[bx,bx,bx]
  refine bQ λe _=>?_
  show kT e.k=(TM.iN e.k).map Sum.inl
  unfold kT TM.iN
  rw[bx]
  rfl
 ·obtain⟨k,hk,rfl⟩:=ay.mp hy
  obtain⟨e,he,rfl⟩:=ay.mp hk
  exact λz=>hne e he (List.map_eq_nil_iff.mp z)
 ·obtain⟨L,hL,rfl⟩:=zw4 hp
  exact q l bs L _ hl0 (z8 hl0 _) z4 ((ya7 hb).same (z8 hl0 _)) hL (bB.mp hs)
theorem xl5 (F:zg0 K "__init__" "Ring.__init__" h9 f fd #[.int 1000 tk]):W3 K fd ["self","group","act","thing","most"] []:=λs us X hl=>by
 rw[bF]at hl ⊢
 obtain⟨dT,oc,od,kV,doc,pm,an,cdv,ct,osl,rfl,lk,hcd,o,n,lo,hd⟩:=F.ex
 match us,hl with
 | [a,b,c,d,e],_ =>
  refine BindsTo.of_defaults (k:=?k) rfl (X _ _ lo) hd ?h1 ?h2
  case h1=>rfl
  case h2=>rfl
structure zv3 (P:gf) (w:gq) (K:W.Frag) (mg:Str->Option Value) (base:Heap) (cR:Addr) (sp:Sp):Prop where
 five:xt4 P w K mg base 8 cR "Ring" ["self","group","act","thing","most"] [] sp
theorem zv3.of (F:zg0 K "__init__" "Ring.__init__" h9 f fd #[.int 1000 tk])(ok:u8 P w K mg base (CX1 P w) 8 f fd ["self","group","act","thing","most"] sp)(mk:Mk K cR f)(m:mg "Ring"=some (.ref cR)):zv3 P w K mg base cR sp :=
 ⟨⟨f,fd,[],ok,mk,m,xl5 F,.nil⟩⟩
def yh9 (K:W.Frag):Sp:=λvs H Q _=>∃(x dx C:Addr) (n:Nat),vs=[.ref x,.int n]/\H x=some (.ins C dx [])/\n4 K C ["many"]/\Q .non (upd H x (.ins C dx [("many",.int n)]))
theorem zl4:x9 ["self","many"] ["self","many"] (z9 O8):=scq
theorem yf6 (F:Fun K "__init__" "Act.__init__" O8 f fd):u8 P w K mg base CX0 1 f fd ["self","many"] (yh9 K):=by
 refine F.ok zl4 (λvs H Q E h=>?_) (λcdv A outer s H vs Q E hr h=>?_)
 ·obtain⟨x,dx,C,n,rfl,_⟩:=h
  rfl
 obtain⟨x,dx,C,n,rfl,hx,hC,q⟩:=h
 refine⟨_,z7 (Z3 (pv 0) (pv 1) rfl),?_⟩
 exact⟨_,rfl,_,rfl,x,C,dx,[],rfl,hx,hC.cls,hC.no "many" ax,by decide,q⟩
def Z9 (cD cG cC cB cS:Addr)(n:Nat)(ps:List (List Nat)):Hp->Addr->Prop:=λH a=>∃(dx p:Addr) (S:ChS),H a=some (.ins cD dx [("many",.int n),("part",.ref p)])/\u7 cG cC cB cS n H p ps S
theorem Z9.same (h:Z9 cD cG cC cB cS n ps H a)(s:y6 H H'):Z9 cD cG cC cB cS n ps H' a:=by
 obtain⟨dx,p,S,h1,h2⟩:=h
 exact⟨dx,p,S,s _ _ h1,h2.same s⟩
noncomputable def mvS (n:Nat) (ps:List (List Nat)) (l t:List Nat):List Nat:=TM.lsd n (λz=>z∈ps) (TM.beh l t)
def LKS (n:Nat)(ps:List (List Nat)):Hp->V->Option (List Nat)->Prop:=λH v r=>∃(a:Addr) (t:List Nat),v=.ref a/\H a=some (.tup (tI t))/\TM.IsT n t/\r=some (TM.lsd n (λz=>z∈ps) t)
theorem LKS.same (h:LKS n ps H v r)(s:y6 H H'):LKS n ps H' v r:=by
 obtain⟨a,t,h1,h2,h3⟩:=h
 exact⟨a,t,h1,s _ _ h2,h3⟩
theorem xt8 (cD cG cC cB cS:Addr)(hp:∀t∈ps,TM.IsT n t):xo3 cD n (Z9 cD cG cC cB cS n ps) (TM.IsT n) (mvS n ps) :=
 ⟨λ⟨dx,p,S,h,_⟩=>⟨dx,_,h,rfl,rfl,rfl⟩,λh s=>h.same s,λ{l t} h hT=>TM.lsd_isT hp (h.beh hT)⟩
def zk2:Sp:=λvs H Q _=>∃(a:Addr) (n:Nat) (t:List Nat),vs=[.ref a,.int n]/\H a=some (.tup (tI t))/\TM.IsT n t/\0<n/\n<=60/\∀H':Hp,y6 H H'->Q .non H'
theorem zl6:x9 ["thing","many"] ["thing","many"] (z9 N2):=scq
theorem zl3 (D:Def K mg "need_turning" N2 ["thing","many"] f fd)(B:Blt mg)(KT:o9 P w K mg base 3 "is_turning_of" ["thing","many"] N4):u8 P w K mg base CX0 4 f fd ["thing","many"] zk2:=by
 refine D.F.ok zl6 (λvs H Q E h=>?_) (λcdv A outer s H vs Q E hr h=>?_)
 ·obtain⟨a,n,t,rfl,_⟩:=h
  rfl
 obtain⟨a,n,t,rfl,ha,tT,n0,n60,q⟩:=h
 refine⟨_,z7 (i7 (U2 (W7 (p6 KT hr rfl (z0 (pv 0) (z0 (pv 1) z5))))) (z7 C4) r6),?_⟩
 refine⟨_,rfl,_,rfl,.ref a,_,n,rfl,zr4 ha,λds hd=>?_,λH1 s1=>⟨_,rfl,?_⟩⟩
 ·cases hd
  rw[aa,tT.length]
  lia
 show if (!(c5 (.tuple (t.map λ(x:Nat)=>PyData.int x))&&decide ((t.map λ(x:Nat)=>PyData.int x).length=n)))=true then _ else _
 rw[zf7 tT n0 n60]
 exact g7 (q H1 s1)
def zf3 (cD cG cC cB cS:Addr):Sp:=λvs H Q _=>∃(x dx p:Addr) (n:Nat) (ps:List (List Nat)) (S:ChS) (H0:Hp),vs=[.ref x,.ref p]/\H x=some (.ins cD dx [])/\y6 H0 H/\H0 x=none/\u7 cG cC cB cS n H0 p ps S/\∀H':Hp,y6 H0 H'->Z9 cD cG cC cB cS n ps H' x->Q .non H'
theorem ze8:x9 ["self","part"] ["self","part"] (z9 R6):=scq
theorem zt9 (F:Fun K "__init__" "Sides.__init__" R6 f fd)(cd:n4 K cD ["many","part"])(cg:n4 K cG X4)(KI:xo4 P w K mg base 1 cA "Act" "__init__" ["self","many"] (yh9 K)):u8 P w K mg base CX0 2 f fd ["self","part"] (zf3 cD cG cC cB cS):=by
 refine F.ok ze8 (λvs H Q E h=>?_) (λcdv A outer s H vs Q E hr h=>?_)
 ·obtain⟨x,dx,p,n,ps,S,H0,rfl,_⟩:=h
  rfl
 obtain⟨x,dx,p,n,ps,S,H0,rfl,hx,s0,x0,ga,q⟩:=h
 have gaH:=ga.same s0
 obtain⟨dxg,ma,Ac,mas0,hg,_⟩:=gaH.at'
 refine⟨_,y4 (i6 (xk7 KI hr rfl (z0 (pv 0) (z0 (y9 (pv 1) rfl) z5)))) (z7 (Z3 (pv 0) (pv 1) rfl)),?_⟩
 refine⟨_,rfl,_,rfl,p,cG,dxg,_,_,rfl,hg,cg.cls,cg.no "many" (by decide),rfl,x,dx,cD,n,rfl,hx,⟨cd.cls,λy hy=>cd.no y (by simp at hy;simp[hy])⟩,?_⟩
 have f1:y8 [x] H (upd H x (.ins cD dx [("many",.int n)])):=λb o hb h=>by rw[z6 (by simpa using hb)];exact h
 have x1:(upd H x (.ins cD dx [("many",.int n)])) x=some (.ins cD dx [("many",.int n)]):=z4
 generalize upd H x (.ins cD dx [("many",.int n)])=H1 at f1 x1 ⊢
 refine⟨_,rfl,_,rfl,x,cD,dx,_,rfl,x1,cd.cls,cd.no "part" (by decide),by (show 1<1000;decide),?_⟩
 obtain⟨H2,g2,f2,x2⟩:=n8 (H:=H1) (x:=x) (cS:=cD) (dx:=dx) (f:="part") (v:=V.ref p) (fs:=[("many",.int n)]) (fs':=[("many",.int n),("part",.ref p)]) rfl
 rw[g2]
 have s2:y6 H0 H2:=λb u h=>(f1.trans f2) b u (λz=>by rw[ar.mp z,x0]at h;cases h) (s0 b u h)
 exact q H2 s2 ⟨dx,p,S,x2,ga.same s2⟩
theorem zl5:x9 ["self","thing"] ["self","thing"] (z9 N0):=scq
theorem zl0 (F:Fun K "looked" "Sides.looked" N0 f fd)(cd:n4 K cD ["many","part"])(cg:n4 K cG X4)(KT:o9 P w K mg base 4 "need_turning" ["thing","many"] zk2)(ML:Y5 P w K mg base 4 cG "least" ["self","thing"] (yb7 cG cC cB cS))(hp:∀t∈ps,TM.IsT n t):u8 P w K mg base (CX1 P w) 6 f fd ["self","thing"] (xs4 (Z9 cD cG cC cB cS n ps) (LKS n ps) X):=by
 refine F.okX zl5 (λvs H Q E h=>?_) (λcdv A outer s H vs Q E hr h=>?_)
 ·obtain⟨a,v,r,rfl,_⟩:=h
  rfl
 obtain⟨a,v,r,rfl,⟨dx,p,S,ha,ga⟩,⟨tr,t,rfl,htr,tT,rfl⟩,q,qx⟩:=h
 refine⟨_,y4 (i6 (p6 KT hr rfl (z0 (pv 1) (z0 (y9 (pv 0) rfl) z5)))) (z7 (v1 (Y7 cg.cls ML hr (y9 (pv 0) rfl) (z0 (pv 1) z5)))),?_⟩
 refine⟨_,rfl,_,rfl,a,cD,dx,_,_,rfl,ha,cd.cls,cd.no "many" (by decide),rfl,tr,n,t,rfl,htr,tT,ga.n0,ga.n60,λH1 s1=>?_⟩
 have ga1:=ga.same s1
 obtain⟨dxg,ma,Ac,mas0,hg,_⟩:=ga1.at'
 refine⟨_,rfl,a,cD,dx,_,_,rfl,s1 _ _ ha,cd.cls,cd.no "part" (by decide),rfl,p,dxg,_,rfl,hg,rfl,_,rfl,p,tr,n,ps,S,t,rfl,ga1,s1 _ _ htr,tT,λo H2 u s2 ho uT hu=>?_⟩
 exact q _ rfl o H2 (s1.trans s2) (by rw[TM.lsd_eq hp tT hu];exact ho)
theorem zr9:x9 ["self","thing","t"] ["self","thing","t"] (z9 M9):=scq
theorem zq1 (F:Fun K "moved" "Sides.moved" M9 f fd)(cd:n4 K cD ["many","part"])(cg:n4 K cG X4)(KB:o9 P w K mg base 1 "behind" ["one","other"] (N3 K))(ML:Y5 P w K mg base 4 cG "least" ["self","thing"] (yb7 cG cC cB cS))(hp:∀t∈ps,TM.IsT n t):u8 P w K mg base CX0 5 f fd ["self","thing","t"] (xm3 n (Z9 cD cG cC cB cS n ps) (TM.IsT n) (mvS n ps)):=by
 refine F.ok zr9 (λvs H Q E h=>?_) (λcdv A outer s H vs Q E hr h=>?_)
 ·obtain⟨a,lr,tr,l,t,rfl,_⟩:=h
  rfl
 obtain⟨a,lr,tr,l,t,rfl,⟨dx,p,S,ha,ga⟩,hl,lT,ht,tT,q⟩:=h
 have n60:=ga.n60
 refine⟨_,z7 (v1 (Y7 cg.cls ML hr (y9 (pv 0) rfl) (z0 (p6 KB hr rfl (z0 (pv 1) (z0 (pv 2) z5))) z5))),?_⟩
 obtain⟨dxg,ma,Ac,mas0,hg,_⟩:=ga.at'
 refine⟨_,rfl,a,cD,dx,_,_,rfl,ha,cd.cls,cd.no "part" (by decide),rfl,p,dxg,_,rfl,hg,rfl,_,rfl,_,rfl,lr,tr,l,t,rfl,SqT.of hl,SqT.of ht,by rw[lT.length];lia,λx hx=>by rw[tT.length];exact lT.lt hx,λb H1 hb0 s1 hb=>?_⟩
 refine⟨p,b,n,ps,S,_,rfl,ga.same s1,hb,lT.beh tT,λo H2 u s2 ho uT hu=>?_⟩
 refine q o H2 (s1.trans s2) ?_
 show H2 o=some (.tup (tI (TM.lsd n (λz=>z∈ps) (TM.beh l t))))
 rw[TM.lsd_eq hp (lT.beh tT) hu]
 exact ho
def yi0 (cG cC cB cS:Addr):Sp:=λvs H Q _=>∃(p g:Addr) (n m:Nat) (ts us:List (List Nat)) (S S':ChS),vs=[.ref p,.ref g]/\u7 cG cC cB cS n H p ts S/\u7 cG cC cB cS m H g us S'/\∀(b:Bool) (H':Hp),y6 H H'->(b=true↔n=m/\∀t∈ts,TM.Grp m (λz=>z∈us) t)->Q (.bl b) H'
theorem yn0:x9 ["part","group"] ["part","group"] (z9 zh9):=scq
open Classical in
theorem yl8 (D:Def K mg "is_part" zh9 ["part","group"] f fd)(B:Blt mg)(cg:n4 K cG X4)(ML:Y5 P w K mg base 2 cG "lean_makers" ["self"] (xg1 cG cC cB cS))(MH:Y5 P w K mg base 4 cG "has" ["self","thing"] (xg0 cG cC cB cS)):u8 P w K mg base CX0 5 f fd ["part","group"] (yi0 cG cC cB cS):=by
 refine D.F.ok yn0 (λvs H Q E h=>?_) (λcdv A outer s H vs Q E hr h=>?_)
 ·obtain⟨p,g,n,m,ts,us,S,S',rfl,_⟩:=h
  rfl
 obtain⟨p,g,n,m,ts,us,S,S',rfl,gp,gg,q⟩:=h
 obtain⟨dx,ma,Ac,mas,h1,h2,h3,h4⟩:=gp.at'
 obtain⟨dx',ma',Ac',mas',h1',h2',h3',h4'⟩:=gg.at'
 refine⟨_,z7 (v1 (zq3 (B9 zj8 (y9 (pv 0) rfl) (y9 (pv 1) rfl) (l5 _)) (zq5 (v9 (B6 rfl) rfl B.all zx7 (z0 (Z6 [1] ["maker","group"] rfl (W0 (C2 cg.cls ML hr (pv 0))) (λ_ _ _ _=>Y7 cg.cls MH hr (pv 1) (z0 (pv 0) z5))) z5))))),?_⟩
 refine⟨_,rfl,p,cG,dx,_,_,rfl,h1,cg.cls,cg.no "many" (by decide),rfl,_,rfl,g,cG,dx',_,_,rfl,h1',cg.cls,cg.no "many" (by decide),rfl,rfl,_,rfl,?_⟩
 rw[X6]
 by_cases e:n=m
 ·subst e
  rw[decide_eq_true rfl]
  refine Y2 ?_
  refine⟨_,rfl,p,dx,_,rfl,h1,rfl,p,n,ts,S,rfl,gp,λl as vs' H1 hl s1 hl1 hts1 hlen hvT hvG=>?_⟩
  have hal:as.length=vs'.length:=Paired.length hts1
  refine⟨l,rfl,⟨_,SqL.of hl1⟩,L6 (SqL.of hl1) ((vs'.map λt=>decide (TM.Grp n (λz=>z∈us) t)).map V.bl) (by rw[aa,aa,aa,hal]) (by rw[aa,hal];exact small (by lia)) ?_ ?_⟩
  ·intro i H' x hx s' _ _ _ _
   obtain⟨c,hc,rfl⟩:=Y8 hx
   obtain⟨t,ht,hct⟩:=u0 hts1 i c hc
   have gg':=gg.same (s1.trans s')
   refine⟨_,rfl,g,dx',_,rfl,s' _ _ (s1 _ _ h1'),rfl,_,rfl,g,c,n,us,S',t,rfl,gg',s' _ _ hct,hvT t (aq ht),λb H2 s2 hb=>⟨s2,?_⟩⟩
   have eb:b=decide (TM.Grp n (λz=>z∈us) t):=by
    by_cases hg:TM.Grp n (λz=>z∈us) t
    ·rw[decide_eq_true hg];exact hb.mpr hg
    ·rw[decide_eq_false hg]
     cases b with
     | true=>exact absurd (hb.mp rfl) hg
     | false=>rfl
   rw[af,af,ht,eb]
   rfl
  ·intro D' H2 hD s2 hl2
   refine⟨D',_,rfl,SqL.of hl2,q _ H2 (s1.trans s2) ?_⟩
   have hus:∀u∈us,TM.IsT n u:=gg.tT
   have all:(vs'.map λt=>decide (TM.Grp n (λz=>z∈us) t)).all id=true↔∀t∈vs',TM.Grp n (λz=>z∈us) t:=by
    rw[bu]
    constructor
    ·intro h t ht
     exact of_decide_eq_true (h _ (ay.mpr ⟨t,ht,rfl⟩))
    ·intro h b hb
     obtain⟨t,ht,rfl⟩:=ay.mp hb
     exact decide_eq_true (h t ht)
   rw[all]
   constructor
   ·intro h
    exact⟨rfl,λt ht=>TM.Grp.mono hus (λz hz=>h z hz) ((hvG t).mpr (TM.Grp.of gp.tT ht))⟩
   ·rintro⟨_,h⟩ t ht
    exact TM.Grp.mono hus (λz hz=>h z hz) ((hvG t).mp (TM.Grp.of hvT ht))
 ·rw[decide_eq_false (by lia)]
  refine g7 (q false H (y6.refl _) ⟨λz=>(by cases z),λz=>absurd z.1 e⟩)
def E8 (n m:Nat)(us ts:List (List Nat)):Prop:=n=m/\∀t∈ts,TM.Grp m (λz=>z∈us) t
def zf2 (X cG cC cB cS:Addr):Sp:=λvs H Q E=>∃(p g:Addr) (n m:Nat) (ts us:List (List Nat)) (S S':ChS),vs=[.ref p,.ref g]/\u7 cG cC cB cS n H p ts S/\u7 cG cC cB cS m H g us S'/\(E8 n m us ts->∀H':Hp,y6 H H'->Q .non H')/\(¬E8 n m us ts->∀H':Hp,y6 H H'->E (.ref X) none H')
theorem yb3:x9 ["part","group"] ["part","group"] (z9 B0):=scq
theorem zz5 {X TE cG cC cB cS:Addr}(D:Def K mg "need_part" B0 ["part","group"] f fd)(B:Blt mg)(KP:o9 P w K mg base 5 "is_part" ["part","group"] (yi0 cG cC cB cS))(EA:zc1 K mg TE "NotPart" X):M4 P w K mg base 6 "need_part" ["part","group"] (zf2 X cG cC cB cS):=by
 refine⟨f,fd,?_,D.F.kp,D.m,D.b⟩
 refine D.F.okX yb3 (λvs H Q E h=>?_) (λcdv A outer s H vs Q E hr h=>?_)
 ·obtain⟨p,g,n,m,ts,us,S,S',rfl,_⟩:=h
  rfl
 obtain⟨p,g,n,m,ts,us,S,S',rfl,gp,gg,q1,q2⟩:=h
 refine⟨_,z7 (i7 (U2 (W7 (p6 KP hr rfl (z0 (pv 0) (z0 (pv 1) z5))))) (z7 (zq9 EA.m EA.c PySem.F.excBase_ValueError rfl rfl (z0 zb3 z5))) r6),?_⟩
 refine⟨_,rfl,_,rfl,p,g,n,m,ts,us,S,S',rfl,gp,gg,λb H1 s1 hb=>⟨_,rfl,?_⟩⟩
 cases b with
 | true=>exact g7 (q1 (hb.mp rfl) H1 s1)
 | false=>exact Y2 ⟨by decide,q2 (λz=>by cases hb.mpr z) H1 s1⟩
def zt2 (n:Nat)(ts:List (List Nat)):Prop:=∀us:List (List Nat),TM.Indep n us->(∀u∈us,TM.IsT n u)->(∀x,TM.Grp n (λz=>z∈us) x↔TM.Grp n (λz=>z∈ts) x)->us.length<=200
def xf8 (cG cC cB cS:Addr):Sp:=λvs H Q _=>∃(g:Addr) (n:Nat) (ts:List (List Nat)) (S:ChS),vs=[.ref g]/\u7 cG cC cB cS n H g ts S/\zt2 n ts /\
 ∀(g':Addr) (us:List (List Nat)) (S':ChS) (H':Hp),y6 H H'->u7 cG cC cB cS n H' g' us S'->(∀x,TM.Grp n (λz=>z∈us) x↔TM.Grp n (λz=>z∈ts) x)->Q (.ref g') H'
theorem K3:x9 ["group","few"] ["group"] (z9 P2):=scq
theorem zh6 (D:Def K mg "of_few_makers" P2 ["group"] f fd)(B:Blt mg)(cg:n4 K cG X4)(KG:zt3 P w K mg base 7 cG "Group" ["self","many","makers"] (B3 cG cC cB cS))(ML:Y5 P w K mg base 2 cG "lean_makers" ["self"] (yb6 cG cC cB cS))(MT:Y5 P w K mg base 1 cG "told" ["self"] (zs4 cG cC cB cS)):u8 P w K mg base CX0 9 f fd ["group"] (xf8 cG cC cB cS):=by
 refine D.F.ok K3 (λvs H Q E h=>?_) (λcdv A outer s H vs Q E hr h=>?_)
 ·obtain⟨g,n,ts,S,rfl,_⟩:=h
  rfl
 obtain⟨g,n,ts,S,rfl,ga,few,q⟩:=h
 refine⟨_,y4 (u4 (i:=1) K3.nd rfl (Or.inl rfl) (C2 cg.cls ML hr (pv 0)))
  (z7 (v1 (xd4 (m9 zj8 (v9 yc7 rfl B.len Y1 (z0 (pv 1) z5)) (v9 yc7 rfl B.len Y1 (z0 (C2 cg.cls MT hr (pv 0)) z5)) (l5 _)) (pv 0) (O6 KG hr rfl (z0 (y9 (pv 0) rfl) (z0 (pv 1) z5)))))),?_⟩
 obtain⟨dx,ma,Ac,mas0,hg,_⟩:=ga.at'
 refine⟨_,rfl,g,dx,_,rfl,hg,rfl,g,n,ts,S,rfl,ga,λl mas H1 hl0 s1 hl hm _ ind iT gr=>?_⟩
 have ga1:=ga.same s1
 have cnt:=few _ ind iT gr
 refine⟨_,rfl,.ref l,_,rfl,.inl ⟨_,SqL.of hl,rfl⟩,_,rfl,g,dx,_,rfl,s1 _ _ hg,rfl,g,n,ts,S,rfl,ga1,λl2 mas2 H2 hl20 s2 hl2 hm2=>⟨.ref l2,_,rfl,.inl ⟨_,SqL.of hl2,rfl⟩,rfl,_,rfl,?_⟩⟩
 have s12:=s1.trans s2
 have fin:∀b:Bool,(if b=true then Q (.ref g) H2 else ∀x dx,H2 x=none->H2 dx=none->dx≠x->B3 cG cC cB cS (.ref x::([.int n,.ref l]++[])) (upd (upd H2 dx (.own x)) x (.ins cG dx [])) (λv H3=>v=.non/\Q (.ref x) H3) E0):=by
  intro b
  cases b with
  | true=>exact Y2 (q g ts S H2 s12 (ga.same s12) λ_=>Iff.rfl)
  | false =>
   refine g7 λx dx hx hdx hne=>?_
   have e3:=s2 _ _ hl
   refine⟨x,dx,l,n,mas,S.lean0,rfl,z4,ga.n0,ga.n60,?_,?_,cnt,iT,λS' Hd frd gad _=>⟨rfl,?_⟩⟩
   ·rw[z6 (y0 e3 hx),z6 (y0 e3 hdx)];exact e3
   ·exact Paired.imp' (λb z e=>by rw[z6 (y0 e hx),z6 (y0 e hdx)];exact e) (hm.same s2)
   have sd:y6 H2 Hd:=λb u h=>frd b u (by simpa using y0 h hx) (by rw[z6 (y0 h hx),z6 (y0 h hdx)];exact h)
   exact q x _ S' Hd (s12.trans sd) gad gr
 show if decide (V.int ((mas.map V.ref).length:Int)=V.int ((mas2.map V.ref).length:Int))=true then _ else _
 have h0:=fin (decide (V.int ((mas.map V.ref).length:Int)=V.int ((mas2.map V.ref).length:Int)))
 cases h:decide (V.int ((mas.map V.ref).length:Int)=V.int ((mas2.map V.ref).length:Int)) with
 | true =>
  rw[h]at h0
  exact Y2 ⟨_,rfl,h0⟩
 | false =>
  rw[h]at h0
  exact g7 ⟨_,rfl,g,cG,dx,_,_,rfl,s12 _ _ hg,cg.cls,cg.no "many" (by decide),rfl,_,rfl,h0⟩
def zk3 (X cR cD cG cC cB cS:Addr):Sp:=λvs H Q E=>∃(g p:Addr) (n:Nat) (ts ps:List (List Nat)) (S S2:ChS) (most:Nat),vs=[.ref g,.ref p,.int most]/\u7 cG cC cB cS n H g ts S/\u7 cG cC cB cS n H p ps S2/\zt2 n ts/\most<1000000 /\
 (∀(us:List (List Nat)) (S':ChS) (H0 H':Hp) (x g' a o wd bd:Addr) (es:List Ent),y6 H H'->X5 cR cG cC cB cS n (Z9 cD cG cC cB cS n ps) us S' H0 H' x g' a o wd bd es->(∀k,k∈es.map Ent.k↔TM.Sd n ts ps k)->es.length<=most->Q (.ref x) H') /\
 ((∃L:List (List Nat),L.Nodup/\(∀k∈L,TM.Sd n ts ps k)/\most<L.length)->∀H',y6 H H'->E (.ref X) none H')
theorem zv1:x9 ["group","part","most"] ["group","part","most"] (z9 I0):=scq
theorem zu5 (D:Def K mg "sides_ring" I0 ["group","part","most"] f fd)(B:Blt mg)(cg:n4 K cG X4)
  (RK:∀n ps,(∀t∈ps,TM.IsT n t)->zv3 P w K mg base cR (yb9 cR cG cC cB cS cD X X1 n (Z9 cD cG cC cB cS n ps) (LKS n ps) (TM.IsT n) (mvS n ps)))
  (KF:o9 P w K mg base 9 "of_few_makers" ["group"] (xf8 cG cC cB cS)) (KD:zt3 P w K mg base 2 cD "Sides" ["self","part"] (zf3 cD cG cC cB cS)) (KS:o9 P w K mg base 1 "still" ["many"] zf4):M4 P w K mg base 10 "sides_ring" ["group","part","most"] (zk3 X cR cD cG cC cB cS):=by
 refine⟨f,fd,?_,D.F.kp,D.m,D.b⟩
 refine D.F.okX zv1 (λvs H Q E h=>?_) (λcdv A outer s H vs Q E hr h=>?_)
 ·obtain⟨g,p,n,ts,ps,S,S2,most,rfl,_⟩:=h
  rfl
 obtain⟨g,p,n,ts,ps,S,S2,most,rfl,ga,gp,few,hm,q,qx⟩:=h
 have hp:=gp.tT
 refine⟨_,z7 (v1 (xl0 (RK n ps hp).five hr rfl (z0 (p6 KF hr rfl (z0 (pv 0) z5)) (z0 (O6 KD hr rfl (z0 (pv 1) z5)) (z0 (p6 KS hr rfl (z0 (y9 (pv 0) rfl) z5)) (z0 (pv 2) z5)))))),?_⟩
 obtain⟨dx,ma,Ac,mas0,hg,_⟩:=ga.at'
 refine⟨_,rfl,g,n,ts,S,rfl,ga,few,λg' us S' H1 s1 ga1 gr=>?_⟩
 refine⟨_,rfl,λa dxa ha0 hdxa _=>⟨a,dxa,p,n,ps,S2,H1,rfl,z4,p4 (z8 hdxa _) ha0 _,ha0,gp.same s1,λH2 s2 ha=>⟨rfl,?_⟩⟩⟩
 refine⟨_,rfl,g,cG,dx,_,_,rfl,s2 _ _ (s1 _ _ hg),cg.cls,cg.no "many" (by decide),rfl,n,rfl,by have:=ga.n60;lia,λr H3 hr0 s3 hr3=>?_⟩
 refine⟨_,rfl,λx dx' hx hdx hne=>?_⟩
 have s0:y6 H3 (upd (upd H3 dx' (.own x)) x (.ins cR dx' [])):=p4 (z8 hdx _) hx _
 have s13:=s1.trans (s2.trans s3)
 have rT:=TM.IsT.range n
 have hu:=ga1.tT
 refine⟨us,S',H3,x,dx',g',a,.ref r,most,rfl,z4,⟨s0,hx,ga1.same (s2.trans s3)⟩,hm,ha.same s3,some (TM.lsd n (λz=>z∈ps) (List.range n)),⟨r,_,rfl,hr3,rT,rfl⟩,λl hl=>?_,λz=>(by cases z),λow ho=>?_⟩
 ·cases hl
  exact TM.lsd_isT hp rT
 cases ho
 have rch:∀k,TM.Rch n us (mvS n ps) (TM.lsd n (λz=>z∈ps) (List.range n)) k↔TM.Sd n ts ps k:=λk=>(TM.rch_sides hu hp k).trans (TM.Sd.alike gr k)
 refine⟨λo wd bd es H' fr ra ho wh=>⟨rfl,?_⟩,λH' s' ov=>?_⟩
 ·refine q us S' H3 H' x g' a o wd bd es (s13.trans (λb u h=>fr b u (by simpa using y0 h hx) (s0 b u h))) ra (λk=>?_) wh.le
  rw[←rch k]
  constructor
  ·intro hk
   obtain⟨e,he,rfl⟩:=ay.mp hk
   exact⟨_,_,wh.w e he⟩
  ·exact λhk=>TM.Rch.in (P:=λk=>k∈es.map Ent.k) wh.own (λk t hk ht=>wh.cl k hk t ht) hk
 ·obtain⟨L,h1,h2,h3⟩:=ov
  exact qx ⟨L,h1,λk hk=>(rch k).mp (h2 k hk),h3⟩ H' (s13.trans s')
def zm6 (X XP cG cC cB cS:Addr):Sp:=λvs H Q E=>∃(g p:Addr) (n m:Nat) (ts ps:List (List Nat)) (S S2:ChS) (most:Nat),vs=[.ref g,.ref p,.int most]/\u7 cG cC cB cS m H g ts S/\u7 cG cC cB cS n H p ps S2/\zt2 m ts/\most<=400000 /\
 (¬E8 n m ts ps->∀H',y6 H H'->E (.ref XP) none H') /\
 (E8 n m ts ps->(∀(l:Addr) (bs:List Addr) (L:List (List Nat)) (H':Hp),H l=none->y6 H H'->H' l=some (.lst (bs.map V.ref))->i5 H' bs L->Srt L->L.Nodup->(∀k,k∈L↔TM.Sd m ts ps k)->L.length<=most->Q (.ref l) H') /\
  ((∃L:List (List Nat),L.Nodup/\(∀k∈L,TM.Sd m ts ps k)/\most<L.length)->∀H',y6 H H'->E (.ref X) none H'))
theorem xf3:x9 ["group","part","most"] ["group","part","most"] (z9 M1):=scq
theorem xd1 (F:zg0 K "sides" "sides" M1 f fd #[.int 1000 tk])(B:Blt mg)(cr:n4 K cR zr3)
  (KN:M4 P w K mg base 6 "need_part" ["part","group"] (zf2 XP cG cC cB cS)) (KR:M4 P w K mg base 10 "sides_ring" ["group","part","most"] (zk3 X cR cD cG cC cB cS)) (MTH:∀n ps,Y5 P w K mg base 1 cR "things" ["self"] (zs3 cR cG cC cB cS n (Z9 cD cG cC cB cS n ps))):u8 P w K mg base (CX1 P w) 11 f fd ["group","part","most"] (zm6 X XP cG cC cB cS):=by
 refine F.okX xf3 (λvs H Q E h=>?_) (λcdv A outer s H vs Q E hr h=>?_)
 ·obtain⟨g,p,n,m,ts,ps,S,S2,most,rfl,_⟩:=h
  rfl
 obtain⟨g,p,n,m,ts,ps,S,S2,most,rfl,ga,gp,few,hm,qn,qs⟩:=h
 refine⟨_,y4 (i6 (xd5 KN hr rfl (z0 (pv 1) (z0 (pv 0) z5)))) (z7 (v1 (C2 cr.cls (MTH m ps) hr (xd5 KR hr rfl (z0 (pv 0) (z0 (pv 1) (z0 (pv 2) z5))))))),?_⟩
 refine⟨_,rfl,_,rfl,p,g,n,m,ps,ts,S2,S,rfl,gp,ga,λhP H1 s1=>?_,qn⟩
 obtain⟨q,qx⟩:=qs hP
 obtain⟨rfl,hin⟩:=hP
 refine⟨_,rfl,_,rfl,_,rfl,g,p,n,ts,ps,S,S2,most,rfl,ga.same s1,gp.same s1,few,by lia,λus S' H0 H2 x g' a o wd bd es s2 ra hk hle=>?_,λhov H2 s2=>qx hov H2 (s1.trans s2)⟩
 obtain⟨dx,hx⟩:=ra.x'
 have hT:∀k,k∈es.map Ent.k->TM.IsT n k:=λk h=>TM.Sd.isT ga.tT gp.tT ((hk k).mp h)
 refine⟨x,dx,_,rfl,hx,rfl,us,S',H0,x,g',a,o,wd,bd,es,rfl,ra,λe he z=>?_,by lia,λl bs L H3 hl0 s3 hl hb hpm hs=>?_⟩
 ·have:=(hT e.k (ay.mpr ⟨e,he,rfl⟩)).length
  rw[z]at this
  have n0:=ga.n0
  simp at this
  lia
 ·refine q l bs L H3 ?_ ((s1.trans s2).trans s3) hl hb hs (hpm.nodup_iff.mpr ra.d.nd) (λk=>(hpm.mem_iff).trans (hk k)) (by rw[hpm.length_eq,aa];exact hle)
  cases e:H l with
  | none=>rfl
  | some u=>rw[(s1.trans s2) _ _ e]at hl0;cases hl0
theorem xf7 (F:zg0 K "sides" "sides" M1 f fd #[.int 1000 tk]):W3 K fd ["group","part","most"] []:=λs us X hl=>by
 rw[bF]at hl ⊢
 obtain⟨dT,oc,od,kV,doc,pm,an,cdv,ct,osl,rfl,lk,hcd,o,n,lo,hd⟩:=F.ex
 match us,hl with
 | [a,b,c],_ =>
  refine BindsTo.of_defaults (k:=?k) rfl (X _ _ lo) hd ?h1 ?h2
  case h1=>rfl
  case h2=>rfl
theorem xf6 (F:zg0 K "sides" "sides" M1 f fd #[.int 1000 tk]):W3 K fd ["group","part","most"] [.int 1000 tk]:=λs us X hl=>by
 rw[ah]at hl
 obtain⟨dT,oc,od,kV,doc,pm,an,cdv,ct,osl,rfl,lk,hcd,o,n,lo,hd⟩:=F.ex
 have hl:us.length=2:=Nat.succ.inj hl
 match us,hl with
 | [a,b],_ =>
  refine BindsTo.of_defaults (k:=?k) rfl (X _ _ lo) hd ?h1 ?h2
  case h1=>rfl
  case h2=>rfl
structure zn1 (P:gf) (w:gq) (K:W.Frag) (mg:Str->Option Value) (base:Heap) (sp:Sp):Prop where
 three:zx3 P w K mg base 11 "sides" ["group","part","most"] [] sp
 two:zx3 P w K mg base 11 "sides" ["group","part","most"] [.int 1000] sp
theorem zn1.of (F:zg0 K "sides" "sides" M1 f fd #[.int 1000 tk])(ok:u8 P w K mg base (CX1 P w) 11 f fd ["group","part","most"] sp)(m:mg "sides"=some (.ref f)):zn1 P w K mg base sp :=
 ⟨⟨f,fd,[],ok,F.kp,m,xf7 F,.nil⟩,⟨f,fd,[.int 1000 tk],ok,F.kp,m,xf6 F,.cons ⟨tk,rfl⟩ .nil⟩⟩
def zs2 (cG cC cB cS:Addr):Sp:=λvs H Q _=>∃(g p:Addr) (n:Nat) (ts ps:List (List Nat)) (S S2:ChS) (most:Nat) (M0:List (List Nat)),vs=[.ref g,.ref p,.int most]/\u7 cG cC cB cS n H g ts S/\u7 cG cC cB cS n H p ps S2/\zt2 n ts/\most<=400000/\(∀q∈ps,TM.Grp n (λz=>z∈ts) q)/\(∀k,TM.Sd n ts ps k->k∈M0)/\M0.length<=most /\
 ∀(l:Addr) (bs:List Addr) (L:List (List Nat)) (H':Hp),H l=none->y6 H H'->H' l=some (.lst (bs.map V.ref))->i5 H' bs L->Srt L->L.Nodup->(∀k,k∈L↔TM.Sd n ts ps k)->Q (.ref l) H'
theorem xm2 (h:zs2 cG cC cB cS vs H Q E):zm6 X XP cG cC cB cS vs H Q E0:=by
 obtain⟨g,p,n,ts,ps,S,S2,most,M0,rfl,ga,gp,few,hm,hin,hall,hle,q⟩:=h
 refine⟨g,p,n,n,ts,ps,S,S2,most,rfl,ga,gp,few,hm,λno=>(no ⟨rfl,hin⟩).elim,λ_=>⟨λl bs L H' h1 h2 h3 h4 h5 h6 h7 _=>q l bs L H' h1 h2 h3 h4 h5 h6 h7,λ⟨L,h1,h2,h3⟩=>?_⟩⟩
 have:=TM.nodup_le h1 λk hk=>hall k (h2 k hk)
 lia
theorem yh4 {mg:Str->Option Value}(k:zx3 P w K mg base 11 "sides" ["group","part","most"] [.int 1000] (zm6 X XP cG cC cB cS)):yj6 P w K mg base 11 "sides" ["group","part","most"] [.int 1000] (zs2 cG cC cB cS):=by
 obtain⟨f,fd,ds,F,h1,h2,h3,h4⟩:=k
 exact⟨f,fd,ds,F.calm.imp λvs H Q E h=>xm2 h,h1,h2,h3,h4⟩
def yh6 (K:W.Frag):Sp:=λvs H Q _=>∃(a:Addr) (ns:List Int) (k:Nat),vs=[.ref a,.int k]/\SqL K H a (ns.map V.int)/\Q (.int (ns.getD k 0)) H
theorem yb2:x9 ["_law_script","_law_k"] ["_law_script","_law_k"] (z9 C8):=scq
theorem zz3 (D:Def K mg "_law_cell" C8 ["_law_script","_law_k"] f fd)(B:Blt mg):u8 P w K mg base CX0 1 f fd ["_law_script","_law_k"] (yh6 K):=by
 refine D.F.ok yb2 (λvs H Q E h=>?_) (λcdv A outer s H vs Q E hr h=>?_)
 ·obtain⟨a,ns,k,rfl,_⟩:=h
  rfl
 obtain⟨a,ns,k,rfl,hS,q⟩:=h
 refine⟨_,y4 (i7 (m9 yq1 (pv 1) (v9 q9 rfl B.len Y1 (z0 (pv 0) z5)) (l5 _)) (z7 (v1 (k9 p5 (pv 0) (pv 1) (λ_ _=>rfl)))) r6) (z7 (v1 w8)),?_⟩
 refine⟨_,rfl,_,rfl,a,_,rfl,.inl hS,_,_,rfl,rfl,_,rfl,?_⟩
 refine ye7 (λc=>?_) (λc=>?_)
 ·have c':(k:Int)<(((ns.map V.int).length:Nat):Int):=of_decide_eq_true c
  rw[aa]at c'
  have hk:k<ns.length:=by lia
  have e:ns.getD k 0=ns[k]:=by rw[au,ae hk];rfl
  rw[e]at q
  exact⟨_,rfl,_,rfl,a,_,_,_,rfl,rfl,hS,l9 (by rw[af,ae hk];rfl),q⟩
 ·have c':¬(k:Int)<(((ns.map V.int).length:Nat):Int):=of_decide_eq_false (cQ.mpr c)
  rw[aa]at c'
  have e:ns.getD k 0=0:=by rw[au,aW (by lia)];rfl
  rw[e]at q
  exact q
def yi4:Sp:=λvs H Q _=>∃i:Int,vs=[.int i]/\Q (.bl true) H
theorem zu8:x9 ["_law_found"] ["_law_found"] (z9 J7):=scq
theorem zu2 (D:Def K mg "_law_whole" J7 ["_law_found"] f fd)(B:Blt mg):u8 P w K mg base CX0 1 f fd ["_law_found"] yi4:=by
 refine D.F.ok zu8 (λvs H Q E h=>?_) (λcdv A outer s H vs Q E hr h=>?_)
 ·obtain⟨i,rfl,_⟩:=h
  rfl
 obtain⟨i,rfl,q⟩:=h
 refine⟨_,z7 (v1 (zq3 (v9 Z7 rfl B.isinstance l8 (z0 (pv 0) (z0 (N8 (v:=.ty "int") rfl B.int yx4 rfl) z5)))
  (zq5 (xd7 (v9 Z7 rfl B.isinstance l8 (z0 (pv 0) (z0 (N8 (v:=.ty "bool") rfl B.bool yo7 rfl) z5))))))),?_⟩
 refine⟨_,rfl,_,_,_,_,rfl,K6.int i,K8 yk9,_,rfl,Y2 ?_⟩
 exact⟨_,rfl,_,_,_,_,rfl,K6.int i,K8 yf0,_,rfl,q⟩
def zz8 (c:Int)(n:Nat):Nat->Int×List Nat×List Nat
 | 0=>(c,[],List.range n)
 | i+1=>((zz8 c n i).1 / ((n:Int)-(i:Int)),(zz8 c n i).2.1++[(zz8 c n i).2.2.getD ((zz8 c n i).1 % ((n:Int)-(i:Int))).toNat 0],(zz8 c n i).2.2.eraseIdx ((zz8 c n i).1 % ((n:Int)-(i:Int))).toNat)
def xu9 (c:Int)(n:Nat):List Nat:=(zz8 c n n).2.1
def zi8:Sp:=λvs H Q _=>∃(c:Int) (n:Nat),vs=[.int c,.int n]/\n<=100/\∀(r:Addr) (H':Hp) (row:List Nat),H r=none->y6 H H'->TM.IsT n row->row=xu9 c n->H' r=some (.lst (tI row))->Q (.ref r) H'
theorem X3:x9 ["_law_number","_law_many","_law_left","_law_made","_law_k","_law_at"] ["_law_number","_law_many"] (z9 J6):=scq
theorem zu1 (D:Def K mg "_law_order" J6 ["_law_number","_law_many"] f fd)(B:Blt mg):u8 P w K mg base CX0 1 f fd ["_law_number","_law_many"] zi8:=by
 refine D.F.ok X3 (λvs H Q E h=>?_) (λcdv A outer s H vs Q E hr h=>?_)
 ·obtain⟨c,n,rfl,_⟩:=h
  rfl
 obtain⟨c,n,rfl,hn,q⟩:=h
 refine⟨_,y4 (u4 (i:=2) X3.nd rfl (Or.inl rfl) (u5 (V2 rfl) rfl B.list P5 (z0 (u5 S9 rfl B.range O1 (z0 (pv 1) z5)) z5)))
  (y4 (u4 (i:=3) X3.nd rfl (Or.inl rfl) (c0 z5))
  (y4 (U1 PassesOwn.never rfl (K2 rfl B.range (z0 (pv 1) z5)) (o5 (i:=4) X3.nd rfl (Or.inl rfl))
   (y4 (zh7 (v9 yc6 rfl B.divmod ys6 (z0 (pv 0) (z0 (e9 ym2 (pv 1) (pv 4)) z5))) (zb4 rfl (Z0 (o5 (i:=0) X3.nd rfl (Or.inl rfl)) (Z0 (o5 (i:=5) X3.nd rfl (Or.inl rfl)) J1))))
   (z7 (i6 (E4 PySem.F.plainAttrs_list PySem.F.slot_list_append PySem.F.type_list_append X2 (pv 3) (z0 (E4 PySem.F.plainAttrs_list PySem.F.slot_list_pop PySem.F.type_list_pop xc5 (pv 2) (z0 (pv 5) z5)) z5))))))
  (z7 (v1 (pv 3))))),?_⟩
 refine⟨_,rfl,_,rfl,λp hp=>⟨p,0,(n:Int),rfl,z4,⟨by lia,by lia,by lia,by lia,by lia⟩,λl hl=>?_⟩⟩
 rw[show((n:Int)-0).toNat=n by lia,N5]
 have pl:p≠l:=y0 z4 hl
 have hl0:H l=none:=by
  have:=hl
  rwa [z6 (Ne.symm pl)]at this
 have s1:y6 H (upd (upd H p (.rng 0 (n:Int))) l (.lst (tI (List.range n)))):=p4 (z8 hp _) hl0 _
 have el:(upd (upd H p (.rng 0 (n:Int))) l (.lst (tI (List.range n)))) l=some (.lst (tI (List.range n))):=z4
 generalize upd (upd H p (.rng 0 (n:Int))) l (.lst (tI (List.range n)))=H1 at s1 el ⊢
 refine⟨(by show 0<=ge;decide),λr hr'=>?_⟩
 have lr:l≠r:=y0 el hr'
 have hr0:H r=none:=s1.free hr'
 refine⟨_,rfl,_,rfl,by lia,by lia,zg8 (n:=((n:Nat):Int).toNat) (λi σ H2=>∃(nu:Int) (row left:List Nat) (v6 v7:Option V),σ=[some (.int nu),some (.int n),some (.ref l),some (.ref r),v6,v7]/\y6 H H2/\H2 l=some (.lst (tI left))/\H2 r=some (.lst (tI row))/\TM.IsT n (row++left)/\left.length+i=n/\zz8 c n i=(nu,row,left))
  ⟨_,[],List.range n,none,none,rfl,s1.trans (z8 hr' _),by rw[z6 lr];exact el,z4,TM.IsT.range n,by rw[aS];rfl,rfl⟩ ?_ ?_⟩
 ·rintro i σ H2 hi ⟨nu,row,left,v6,v7,rfl,s2,hl2,hr2,hT,hlen,hos⟩
  have hi':i<n:=by lia
  have e0:(0:Int)+(i:Int)=((i:Nat):Int):=by lia
  rw[e0]
  have hsz:(0:Int)<(n:Int)-(i:Int):=by lia
  obtain⟨k,ek,hk⟩:∃k:Nat,nu % ((n:Int)-(i:Int))=(k:Int)/\k<left.length:=by
   have h1:=cP nu (show(n:Int)-(i:Int)≠0 by lia)
   have h2:=dI nu hsz
   exact⟨(nu % ((n:Int)-(i:Int))).toNat,by lia,by lia⟩
  have hx:left[k]?=some left[k]:=ae hk
  have hrl:row.length<=n:=by
   have:=hT.length
   rw[ah]at this
   lia
  refine⟨_,rfl,_,rfl,_,rfl,_,_,rfl,rfl,_,_,rfl,⟨hsz,by lia⟩,λtp htp=>?_⟩
  have hlt:l≠tp:=y0 hl2 htp
  have hrt:r≠tp:=y0 hr2 htp
  refine⟨tp,_,rfl,SqT.of z4,rfl,_,_,rfl,_,_,rfl,rfl,?_⟩
  have s3:=s2.trans (z8 htp (.tup [V.int (nu / ((n:Int)-(i:Int))),V.int (nu % ((n:Int)-(i:Int)))]))
  have hl3:(upd H2 tp (.tup [V.int (nu / ((n:Int)-(i:Int))),V.int (nu % ((n:Int)-(i:Int)))])) l=some (.lst (tI left)):=by rw[z6 hlt];exact hl2
  have hr3:(upd H2 tp (.tup [V.int (nu / ((n:Int)-(i:Int))),V.int (nu % ((n:Int)-(i:Int)))])) r=some (.lst (tI row)):=by rw[z6 hrt];exact hr2
  generalize upd H2 tp (.tup [V.int (nu / ((n:Int)-(i:Int))),V.int (nu % ((n:Int)-(i:Int)))])=H3 at s3 hl3 hr3 ⊢
  rw[ek]
  refine⟨_,rfl,.inl ⟨rfl,_,SqL.of hr3⟩,_,rfl,.inl ⟨rfl,_,SqL.of hl3⟩,_,rfl,l,_,_,k,V.int (left[k]:Int),rfl,rfl,hl3,by lia,by lia,by rw[u6];exact xm0 hk,ys2 hx,r,tI row,_,rfl,rfl,?_,?_,?_⟩
  ·rw[z6 (Ne.symm lr)]
   exact hr3
  ·rw[u6]
   exact zi6 (by lia)
  refine⟨_,row++[left[k]],left.eraseIdx k,_,_,rfl,p4 (p4 s3 hl0 _) hr0 _,?_,?_,TM.draw_perm hT hx,?_,?_⟩
  ·rw[z6 lr,z4,yi7]
  ·rw[z4,A4]
   rfl
  ·rw[List.length_eraseIdx_of_lt hk]
   lia
  ·rw[zz8,hos]
   dsimp only
   rw[ek,cU,au,hx]
   rfl
 ·rintro σ H2 ⟨nu,row,left,v6,v7,rfl,s2,hl2,hr2,hT,hlen,hos⟩
  have e:left=[]:=dq.mp (by lia)
  subst e
  rw[bF]at hT
  have hn':((n:Nat):Int).toNat=n:=by lia
  rw[hn']at hos
  exact⟨_,rfl,q r H2 row hr0 s2 hT (by unfold xu9;rw[hos]) hr2⟩
def Q7 (t:List Nat):PyData:=.tuple ((t.map λ(x:Nat)=>(x:Int)).map PyData.int)
theorem ya5 (e:H b=some (.tup (tI t))):RdD K H (.ref b) (Q7 t):=.tup (SqT.of (by rw[←ys1];exact e)) (D1.ints _)
theorem yg7 {as:List Addr}{ts:List (List Nat)}(h:i5 H as ts):D1 K H (as.map V.ref) (ts.map Q7):=by
 induction h with
 | nil=>exact .nil
 | cons f _ ih=>exact .cons (ya5 f) ih
theorem ye6 (ns:List Int):PyData.canLayAll0 (ns.map PyData.int)=true/\PyData.depthAll (ns.map PyData.int)<=1:=by
 induction ns with
 | nil=>simp[PyData.canLayAll0,PyData.depthAll]
 | cons n r ih =>
  obtain⟨h1,h2⟩:=ih
  refine⟨by simp[PyData.canLayAll0,PyData.canLay0,h1],?_⟩
  simp only[aQ,PyData.depthAll,PyData.depth]
  lia
theorem xe6 (ts:List (List Nat)):PyData.canLayAll0 (ts.map Q7)=true/\PyData.depthAll (ts.map Q7)<=2:=by
 induction ts with
 | nil=>simp[PyData.canLayAll0,PyData.depthAll]
 | cons t r ih =>
  obtain⟨h1,h2⟩:=ih
  obtain⟨h3,h4⟩:=ye6 (t.map λ(x:Nat)=>(x:Int))
  refine⟨by simp only[aQ,PyData.canLayAll0,Q7,PyData.canLay0,h1,h3];rfl,?_⟩
  simp only[aQ,PyData.depthAll,Q7,PyData.depth]
  lia
theorem zk1 (ts:List (List Nat)):PyData.eqv (.list (ts.map Q7)) (.list (ts.map Q7))=true/\PySem.SeqAt.shaped (.list (ts.map Q7))=true:=by
 obtain⟨h1,h2⟩:=xe6 ts
 have h3:(PyData.list (ts.map Q7)).canLay0=true:=by simp only[PyData.canLay0];exact h1
 refine⟨PySem.SeqAt.eqv_refl _ h3,?_⟩
 unfold PySem.SeqAt.shaped
 rw[cf]
 refine⟨h3,decide_eq_true ?_⟩
 simp only[PyData.depth]
 lia
theorem yy5 (e:H b=some (.tup (tI t))):Dt H (.ref b) (Q7 t):=by
 unfold Q7
 rw[bx]
 exact zr4 e
theorem yy6 {as:List Addr}{ts:List (List Nat)}(h:i5 H as ts):Dts H (as.map V.ref) (ts.map Q7):=by
 induction h with
 | nil=>exact .nil
 | cons f _ ih=>exact .cons (yy5 f) ih
theorem zc0 (t:List Nat):PySem.SeqAt.shaped (Q7 t)=true:=by
 obtain⟨h1,h2⟩:=ye6 (t.map λ(x:Nat)=>(x:Int))
 have h3:(Q7 t).canLay0=true:=by simp only[Q7,PyData.canLay0];exact h1
 unfold PySem.SeqAt.shaped
 rw[cf]
 refine⟨h3,decide_eq_true ?_⟩
 simp only[Q7,PyData.depth]
 lia
theorem yc9:∀{t u:List Nat},(t.map λ(x:Nat)=>(x:Int))=(u.map λ(x:Nat)=>(x:Int))->t=u
 | [],[],_=>rfl
 | x::t,y::u,h=>by
  rw[aQ,aQ]at h
  obtain⟨h1,h2⟩:=List.cons.inj h
  rw[yc9 h2,show x=y by lia]
 | [],_::_,h=>by cases h
 | _::_,[],h=>by cases h
theorem zy2 (t u:List Nat):PyData.eqv (Q7 t) (Q7 u)=decide (t=u):=by
 unfold Q7
 rw[PyData.eqv,D5]
 exact decide_eq_decide.mpr ⟨yc9,λh=>by rw[h]⟩
def zw6:Sp:=λvs H Q _=>∃(c:Int) (wa:Addr) (n:Nat) (W:List Nat),vs=[.int c,.ref wa,.int n]/\H wa=some (.lst (tI W))/\W.Nodup/\(∀x∈W,x<n)/\W.length<=60/\n<=60 /\
 ∀(r:Addr) (H':Hp) (t:List Nat),H r=none->y6 H H'->TM.IsT n t->TM.Only n W t->H' r=some (.tup (tI t))->Q (.ref r) H'
theorem Q4:x9 ["_law_cell_here","_law_window","_law_many","_law_made","_law_k","_law_to"] ["_law_cell_here","_law_window","_law_many"] (z9 J5):=scq
theorem zu0 (D:Def K mg "_law_maker" J5 ["_law_cell_here","_law_window","_law_many"] f fd)(B:Blt mg)(KO:o9 P w K mg base 1 "_law_order" ["_law_number","_law_many"] zi8):u8 P w K mg base CX0 2 f fd ["_law_cell_here","_law_window","_law_many"] zw6:=by
 refine D.F.ok Q4 (λvs H Q E h=>?_) (λcdv A outer s H vs Q E hr h=>?_)
 ·obtain⟨c,wa,n,W,rfl,_⟩:=h
  rfl
 obtain⟨c,wa,n,W,rfl,hwa,hW,hlt,hWl,hn,q⟩:=h
 refine⟨_,y4 (u4 (i:=3) Q4.nd rfl (Or.inl rfl) (u5 (V2 rfl) rfl B.list P5 (z0 (u5 S9 rfl B.range O1 (z0 (pv 2) z5)) z5)))
  (y4 (U1 PassesOwn.never rfl (ze3 rfl B.enumerate (z0 (p6 KO hr rfl (z0 (pv 0) (z0 (v9 q9 rfl B.len Y1 (z0 (pv 1) z5)) z5))) z5)) (zb4 rfl (Z0 (o5 (i:=4) Q4.nd rfl (Or.inl rfl)) (Z0 (o5 (i:=5) Q4.nd rfl (Or.inl rfl)) J1)))
   (z7 (zh7 (k9 p5 (pv 1) (pv 5) (λ_ _=>rfl)) (zq7 (pv 3) (k9 p5 (pv 1) (pv 4) (λ_ _=>rfl)) B2))))
  (z7 (v1 (u5 o7 rfl B.tuple d0 (z0 (pv 3) z5))))),?_⟩
 refine⟨_,rfl,_,rfl,λp hp=>⟨p,0,(n:Int),rfl,z4,⟨by lia,by lia,by lia,by lia,by lia⟩,λl hl=>?_⟩⟩
 rw[show((n:Int)-0).toNat=n by lia,N5]
 have pl:p≠l:=y0 z4 hl
 have hl0:H l=none:=by
  have:=hl
  rwa [z6 (Ne.symm pl)]at this
 have s1:y6 H (upd (upd H p (.rng 0 (n:Int))) l (.lst (tI (List.range n)))):=p4 (z8 hp _) hl0 _
 have el:(upd (upd H p (.rng 0 (n:Int))) l (.lst (tI (List.range n)))) l=some (.lst (tI (List.range n))):=z4
 generalize upd (upd H p (.rng 0 (n:Int))) l (.lst (tI (List.range n)))=H1 at s1 el ⊢
 refine⟨_,rfl,_,rfl,wa,_,rfl,.inl (SqL.of (s1 _ _ hwa)),c,(tI W).length,rfl,by rw[u6];lia,λr H2 row hr2 s2 hrow _ hr2'=>?_⟩
 rw[u6]at hrow
 have rl:r≠l:=λz=>by subst z;rw[el]at hr2;cases hr2
 have S2:=s1.trans s2
 refine⟨r,rfl,⟨_,SqL.of hr2'⟩,L7 (xs:=tI row) (λi σ H3=>∃(g:List Nat) (v4 v5:Option V),σ=[some (.int c),some (.ref wa),some (.int n),some (.ref l),v4,v5]/\y6 H H3/\H3 r=some (.lst (tI row))/\H3 l=some (.lst (tI g))/\TM.Sprd n W row i g)
  ⟨List.range n,none,none,rfl,S2,hr2',s2 _ _ el,TM.Sprd.start⟩ (λi σ H3 _ ⟨_,_,_,_,_,h3,_⟩=>SqL.of h3) ?_ ?_⟩
 ·rintro i x σ H3 T hx ⟨g,v4,v5,rfl,s3,h3,h3l,sp⟩ hT3
  obtain⟨y,hy,rfl⟩:=F9 hx
  have hi:i<W.length:=by rw[←hrow.length];exact(al.mp hy).1
  have hWi:W[i]?=some W[i]:=ae hi
  have hyl:y<W.length:=hrow.get_lt hy
  have hWy:W[y]?=some W[y]:=ae hyl
  have ey:row.getD i 0=y:=TM.getD_of hy
  have ew:W.getD (row.getD i 0) 0=W[y]:=by rw[ey];exact TM.getD_of hWy
  have s4:=z8 hT3 (.tup [V.int ((i:Nat):Int),V.int ((y:Nat):Int)])
  refine⟨T,_,rfl,SqT.of z4,rfl,_,_,rfl,_,_,rfl,rfl,?_⟩
  generalize upd H3 T (.tup [V.int ((i:Nat):Int),V.int ((y:Nat):Int)])=H4 at s4 ⊢
  have w4:=s4 _ _ (s3 _ _ hwa)
  have hgl:W[i]<g.length:=by rw[sp.len];exact hlt _ (bX hi)
  refine⟨_,rfl,_,rfl,wa,_,_,_,rfl,rfl,SqL.of w4,zf5 hWy,_,rfl,_,rfl,_,rfl,wa,_,_,_,rfl,rfl,SqL.of w4,zf5 hWi,l,tI g,_,W[i],rfl,rfl,s4 _ _ h3l,by rw[u6];exact B8 hgl,?_⟩
  have st:=sp.step hW hlt hWi
  rw[ew]at st
  refine⟨g.set W[i] W[y],_,_,rfl,p4 (s3.trans s4) hl0 _,by rw[z6 rl];exact s4 _ _ h3,by rw[z4,zj0],st⟩
 ·rintro σ H3 ⟨g,v4,v5,rfl,s3,h3,h3l,sp⟩
  rw[u6,hrow.length]at sp
  obtain⟨gT,gO⟩:=sp.done hW hlt hrow
  exact⟨_,rfl,l,_,rfl,.inl ⟨SqL.of h3l,λtp htp=>q tp _ g (s3.free htp) (s3.trans (z8 htp _)) gT gO z4⟩⟩
def A3 (K:W.Frag):Sp:=λvs H Q _=>∃(a b:Addr) (one other:List Nat),vs=[.ref a,.ref b]/\SqT K H a (tI one)/\SqT K H b (tI other)/\one.length<=1000/\(∀x∈one,x<other.length) /\
 ∀(r:Addr) (H':Hp),H r=none->y6 H H'->H' r=some (.tup (tI (one.map λx=>other.getD x 0)))->Q (.ref r) H'
theorem zs0:x9 ["_law_one","_law_other"] ["_law_one","_law_other"] (z9 L0):=scq
theorem zq2 (D:Def K mg "_law_behind" L0 ["_law_one","_law_other"] f fd)(B:Blt mg):u8 P w K mg base CX0 1 f fd ["_law_one","_law_other"] (A3 K):=by
 refine D.F.ok zs0 (λvs H Q E h=>?_) (λcdv A outer s H vs Q E hr h=>?_)
 ·obtain⟨a,b,one,other,rfl,_⟩:=h
  rfl
 obtain⟨a,b,one,other,rfl,ha,hb,hl,hlt,q⟩:=h
 refine⟨_,z7 (v1 (u5 o7 rfl B.tuple d0 (z0 (Z6 [1] ["_law_to","_law_other"] rfl (ya2 (pv 0)) (λ_ _ _ _=>k9 D6 (pv 1) (pv 0) (λ_ _=>rfl))) z5))),?_⟩
 refine⟨_,rfl,a,rfl,⟨_,ha⟩,zc5 ha (tI (one.map λx=>other.getD x 0)) (by rw[u6,u6,aa]) (by rw[u6];exact small hl) ?_ ?_⟩
 ·intro i H1 x hx s1 _ _ _ _
  obtain⟨p,hp,rfl⟩:=F9 hx
  have hpl:p<other.length:=hlt p (aq hp)
  have hg:other[p]?=some other[p]:=ae hpl
  refine⟨_,rfl,_,rfl,b,_,_,_,rfl,rfl,s1.seqT hb,zf5 hg,y6.refl _,?_⟩
  rw[yc0,af,hp]
  simp[au,hg]
 ·intro Dl H1 hD s1 hl1
  exact⟨Dl,_,rfl,.inl ⟨SqL.of hl1,λl hl2=>q l _ (s1.free hl2) (p4 s1 (s1.free hl2) _) z4⟩⟩
def yr2:Sp:=λvs H Q _=>∃(la:Addr) (n:Nat) (mas:List Addr) (S:List (List Nat)),vs=[.ref la,.int n]/\H la=some (.lst (mas.map V.ref))/\i5 H mas S/\(∀s∈S,TM.IsT n s)/\TM.Few n S 360360/\0<n/\n<=60 /\
 ∀(l:Addr) (as:List Addr) (L:List (List Nat)) (H':Hp),H l=none->y6 H H'->H' l=some (.lst (as.map V.ref))->i5 H' as L->L.length<=360360->L.Nodup->Srt L->(∀x,x∈L↔TM.Grp n (λz=>z∈S) x)->Q (.ref l) H'
theorem X7:x9 ["_law_makers","_law_many","_law_found","_law_held","_law_at","_law_maker_here","_law_made"] ["_law_makers","_law_many"] (z9 zb6):=scq
theorem yf8 (D:Def K mg "_law_all" zb6 ["_law_makers","_law_many"] f fd)(B:Blt mg)(KB:o9 P w K mg base 1 "_law_behind" ["_law_one","_law_other"] (A3 K)):u8 P w K mg base CX0 2 f fd ["_law_makers","_law_many"] yr2:=by
 refine D.F.ok X7 (λvs H Q E h=>?_) (λcdv A outer s H vs Q E hr h=>?_)
 ·obtain⟨la,n,mas,S,rfl,_⟩:=h
  rfl
 obtain⟨la,n,mas,S,rfl,hla,hmas,hS,few,hn0,hn,q⟩:=h
 have hu:=ye5 hr
 refine⟨_,y4 (u4 (i:=2) X7.nd rfl (Or.inl rfl) (c0 (z0 (u5 (D3 rfl) rfl B.tuple d0 (z0 (u5 S9 rfl B.range O1 (z0 (pv 1) z5)) z5)) z5)))
  (y4 (u4 (i:=3) X7.nd rfl (Or.inl rfl) (yv5 hu (k9 p5 (pv 2) w8 (λ_ _=>rfl)) W4))
  (y4 (u4 (i:=4) X7.nd rfl (Or.inl rfl) w8)
  (y4 (zr0 PassesOwn.never (m9 yq1 (pv 4) (v9 q9 rfl B.len Y1 (z0 (pv 2) z5)) (l5 _))
   (y4 (U1 PassesOwn.never rfl (W0 (pv 0)) (o5 (i:=5) X7.nd rfl (Or.inl rfl))
    (y4 (u4 (i:=6) X7.nd rfl (Or.inl rfl) (p6 KB hr rfl (z0 (k9 p5 (pv 2) (pv 4) (λ_ _=>rfl)) (z0 (pv 5) z5))))
    (z7 (i7 (zh8 (K1 hu (pv 6) (pv 3))) (y4 (J2 hu (pv 3) (pv 6) W4 rfl)
     (z7 (i6 (E4 PySem.F.plainAttrs_list PySem.F.slot_list_append PySem.F.type_list_append X2 (pv 2) (z0 (pv 6) z5))))) r6))))
   (z7 (u4 (i:=4) X7.nd rfl (Or.inl rfl) (e9 O3 (pv 4) w8)))))
  (z7 (v1 (v9 zx8 rfl B.sorted zg2 (z0 (pv 2) z5))))))),?_⟩
 refine i4 λN hN=>⟨_,rfl,_,rfl,λp hp=>⟨p,0,(n:Int),rfl,z4,⟨by lia,by lia,by lia,by lia,by lia⟩,λr hr'=>?_⟩⟩
 rw[show((n:Int)-0).toNat=n by lia,N5]
 have pr:p≠r:=y0 z4 hr'
 have hr0:H r=none:=by
  have:=hr'
  rwa [z6 (Ne.symm pr)]at this
 have s1:y6 H (upd (upd H p (.rng 0 (n:Int))) r (.tup (tI (List.range n)))):=p4 (z8 hp _) hr0 _
 have r1:(upd (upd H p (.rng 0 (n:Int))) r (.tup (tI (List.range n)))) r=some (.tup (tI (List.range n))):=z4
 generalize upd (upd H p (.rng 0 (n:Int))) r (.tup (tI (List.range n)))=H1 at s1 r1 ⊢
 refine⟨(by show 1<=ge;decide),λfl hfl=>hN _ _ ?_⟩
 clear hN N
 have hfl0:H fl=none:=s1.free hfl
 have s2:=z8 hfl (.lst [V.ref r])
 have f2:(upd H1 fl (.lst [V.ref r])) fl=some (.lst ([r].map V.ref)):=z4
 generalize upd H1 fl (.lst [V.ref r])=H2 at s2 f2 ⊢
 refine i4 λN hN=>λhd hhd=>?_
 have hhd0:H hd=none:=s1.free (s2.free hhd)
 have fd:fl≠hd:=y0 f2 hhd
 have rd:r≠hd:=y0 (s2 _ _ r1) hhd
 refine⟨_,rfl,fl,_,_,_,rfl,rfl,SqL.of (by rw[z6 fd];exact f2),rfl,z4,kT (List.range n),r,rfl,by rw[zb0,z6 rd];exact s2 _ _ r1,hN _ _ ?_⟩
 clear hN N
 have S3:y6 H (upd (upd H2 hd (.dT [])) hd (.dT [(kT (List.range n),V.bl true)])):=p4 (p4 (s1.trans s2) hhd0 _) hhd0 _
 have d3:(upd (upd H2 hd (.dT [])) hd (.dT [(kT (List.range n),V.bl true)])) hd=some (.dT (kTs [List.range n])):=z4
 have f3:(upd (upd H2 hd (.dT [])) hd (.dT [(kT (List.range n),V.bl true)])) fl=some (.lst ([r].map V.ref)):=by rw[z6 fd,z6 fd];exact f2
 have r3:(upd (upd H2 hd (.dT [])) hd (.dT [(kT (List.range n),V.bl true)])) r=some (.tup (tI (List.range n))):=by rw[z6 rd,z6 rd];exact s2 _ _ r1
 generalize upd (upd H2 hd (.dT [])) hd (.dT [(kT (List.range n),V.bl true)])=H3 at S3 d3 f3 r3 ⊢
 have hsz:360361<ge:=by decide
 refine i4 λN hN=>hN _ _ ?_
 clear hN N
 refine i4 λN hN=>xh6 (λσ H4=>∃(k:Nat) (L:List (List Nat)) (as:List Addr) (v5 v6:Option V),σ=[some (.ref la),some (.int n),some (.ref fl),some (.ref hd),some (.int k),v5,v6]/\y6 H H4/\H4 fl=some (.lst (as.map V.ref))/\i5 H4 as L/\H4 hd=some (.dT (kTs L))/\Fnd n S L k)
  (λ(σ:St) (_:Hp)=>match σ with|[_,_,_,_,some (.int k),_,_]=>360361-k.toNat|_=>0)
  ⟨0,[List.range n],[r],none,none,rfl,S3,f3,.cons r3 .nil,d3,by simp,by simp,λx hx=>by rw[ar.mp hx];exact .one,λi x hi=>absurd hi (cO _),aP _⟩ ?_ ?_
 ·rintro σ H4 ⟨k,L,as,v5,v6,rfl,s4,f4,t4,d4,fnd⟩
  have hLl:=few L fnd.nd fnd.grp
  have hal:as.length=L.length:=Paired.length t4
  refine⟨_,rfl,_,rfl,fl,_,rfl,.inl (SqL.of f4),_,_,rfl,rfl,_,rfl,?_⟩
  rw[aa,hal]
  by_cases hk:k<L.length
  ·rw[decide_eq_true (show((k:Nat):Int)<((L.length:Nat):Int) by lia)]
   refine Y2 ?_
   have hx:L[k]?=some L[k]:=ae hk
   have hxG:=fnd.grp _ (bX hk)
   have hxT:=hxG.isT hS
   generalize L[k]=x at hx hxG hxT
   refine i4 λM hM=>⟨_,rfl,la,rfl,⟨_,SqL.of (s4 _ _ hla)⟩,L8 (xs:=mas.map V.ref) (λj σ H5=>∃(L':List (List Nat)) (as':List Addr) (v5 v6:Option V),σ=[some (.ref la),some (.int n),some (.ref fl),some (.ref hd),some (.int k),v5,v6]/\y6 H H5/\H5 fl=some (.lst (as'.map V.ref))/\i5 H5 as' L'/\H5 hd=some (.dT (kTs L'))/\L'.Nodup/\(∀y∈L',TM.Grp n (λz=>z∈S) y)/\(∃m,L'=L++m)/\∀s∈S.take j,TM.beh x s∈L')
    ⟨L,as,v5,v6,rfl,s4,f4,t4,d4,fnd.nd,fnd.grp,⟨[],(bF _).symm⟩,λs hs=>by rw[dS]at hs;cases hs⟩ (λj σ H5 _ ⟨_,_,_,_,_,s5,_⟩=>SqL.of (s5 _ _ hla)) ?_ ?_⟩
   ·clear hM hN
    rintro j y σ H5 hj ⟨L',as',v5,v6,rfl,s5,f5,t5,d5,nd5,grp5,⟨m5,em5⟩,dn5⟩
    obtain⟨c,hc,rfl⟩:=Y8 hj
    obtain⟨t,ht,hct⟩:=u0 hmas j c hc
    have htS:t∈S:=aq ht
    have htT:=hS t htS
    have hx5:L'[k]?=some x:=by rw[em5,aN hk];exact hx
    obtain⟨b,hb1,hb2⟩:=n6 t5 k x hx5
    have gb:atI (as'.map V.ref) ((k:Nat):Int)=some (V.ref b):=l9 (by rw[af,hb1];rfl)
    have zT:=hxT.beh htT
    have hL5:=few L' nd5 grp5
    have hal5:as'.length=L'.length:=Paired.length t5
    refine i4 λM2 hM2=>⟨_,rfl,_,rfl,fl,_,_,_,rfl,rfl,SqL.of f5,gb,_,rfl,b,c,x,t,rfl,SqT.of hb2,SqT.of (s5 _ _ hct),by rw[hxT.length];lia,λz hz=>by rw[htT.length];exact hxT.lt hz,λtp H7 htp s7 e7=>hM2 _ _ ?_⟩
    clear hM2 M2
    have e7:H7 tp=some (.tup (tI (TM.beh x t))):=e7
    have S7:=s5.trans s7
    have d7:=s7 _ _ d5
    have f7:=s7 _ _ f5
    have t7:=t5.same s7
    have e7k:H7 tp=some (.tup ((kT (TM.beh x t)).map kV)):=by rw[zb0];exact e7
    have zG:TM.Grp n (λz=>z∈S) (TM.beh x t):=.mul hxG htS
    refine⟨_,rfl,_,rfl,hd,_,rfl,V1.t d7 e7k,_,rfl,?_⟩
    rw[zj2]
    by_cases hz:TM.beh x t∈L'
    ·rw[if_pos hz]
     refine g7 ⟨L',as',_,_,rfl,S7,f7,t7,d7,nd5,grp5,⟨m5,em5⟩,λs hs=>?_⟩
     rw[bJ,ht]at hs
     rcases aF.mp hs with h|h
     ·exact dn5 s h
     ·obtain rfl:s=t:=by simpa using h
      exact hz
    ·rw[if_neg hz]
     refine Y2 ?_
     have hkl:(kTs L').length<ge:=by unfold kTs;rw[aa];lia
     refine i4 λM3 hM3=>⟨_,rfl,_,rfl,hd,_,rfl,zm8.t d7 e7k hkl,hM3 _ _ ?_⟩
     clear hM3 M3
     rw[yv8 hz]
     have fd7:fl≠hd:=fd
     have tph:tp≠hd:=λz=>by subst z;rw[d7]at e7;cases e7
     have ntd:∀xs,H7 hd≠some (.tup xs):=λxs z=>by rw[d7]at z;cases z
     have S8:y6 H (upd H7 hd (.dT (kTs (L'++[TM.beh x t])))):=p4 S7 hhd0 _
     have f8:(upd H7 hd (.dT (kTs (L'++[TM.beh x t])))) fl=some (.lst (as'.map V.ref)):=by rw[z6 fd7];exact f7
     have d8:(upd H7 hd (.dT (kTs (L'++[TM.beh x t])))) hd=some (.dT (kTs (L'++[TM.beh x t]))):=z4
     have t8:=i5.upd (o:=.dT (kTs (L'++[TM.beh x t]))) t7 ntd
     have e8:(upd H7 hd (.dT (kTs (L'++[TM.beh x t])))) tp=some (.tup (tI (TM.beh x t))):=by rw[z6 tph];exact e7
     generalize upd H7 hd (.dT (kTs (L'++[TM.beh x t])))=H8 at S8 f8 d8 t8 e8 ⊢
     refine⟨_,rfl,.inl ⟨rfl,_,SqL.of f8⟩,_,rfl,fl,_,_,rfl,rfl,f8,by rw[aa,hal5];lia,?_⟩
     have ntf:∀xs,H8 fl≠some (.tup xs):=λxs z=>by rw[f8]at z;cases z
     refine⟨L'++[TM.beh x t],as'++[tp],_,_,rfl,p4 S8 hfl0 _,by rw[z4,aH];rfl,Paired.snoc (t8.upd ntf) (by rw[z6 (λz=>by subst z;rw[f8]at e8;cases e8)];exact e8),by rw[z6 (Ne.symm fd)];exact d8,?_,λy hy=>?_,⟨m5++[TM.beh x t],by rw[em5,bj]⟩,λs hs=>?_⟩
     ·refine bK.mpr ⟨nd5,by simp,λa ha c hc e=>hz ?_⟩
      rw[←ar.mp hc,←e]
      exact ha
     ·rcases aF.mp hy with h|h
      ·exact grp5 y h
      ·rw[ar.mp h];exact zG
     ·rw[bJ,ht]at hs
      rcases aF.mp hs with h|h
      ·exact aJ _ (dn5 s h)
      ·obtain rfl:s=t:=by simpa using h
       exact aG _ (by simp)
   ·rintro σ H5 ⟨L',as',v5,v6,rfl,s5,f5,t5,d5,nd5,grp5,⟨m5,em5⟩,dn5⟩
    rw[aa,Paired.length hmas,cn]at dn5
    refine hM _ _ ?_
    clear hM M hN
    have hL5:=few L' nd5 grp5
    refine⟨_,rfl,_,_,rfl,rfl,⟨k+1,L',as',v5,v6,?_,s5,f5,t5,d5,nd5,by rw[em5];exact aJ _ fnd.one,grp5,λi y hi hy s hs=>?_,?_⟩,?_⟩
    ·rw[show((k+1:Nat):Int)=(k:Int)+1 by lia]
     rfl
    ·by_cases e:i=k
     ·subst e
      rw[em5,aN hk,hx]at hy
      rw[←Option.some.inj hy]
      exact dn5 s hs
     ·have hi':i<k:=by lia
      rw[em5,aN (by lia)]at hy
      rw[em5]
      exact aJ _ (fnd.done i y hi' hy s hs)
    ·rw[em5,ah]
     lia
    ·show 360361-((k:Int)+1).toNat<360361-((k:Int)).toNat
     lia
  ·rw[decide_eq_false (show ¬((k:Nat):Int)<((L.length:Nat):Int) by lia)]
   refine g7 (hN _ _ ?_)
   clear hN N
   have hle:=fnd.le
   have gAll:=TM.grp_closed hS fnd.nd fnd.one fnd.grp λy hy s hs=>by
    obtain⟨i,hi,e⟩:=bg.mp hy
    exact fnd.done i y (by lia) (by rw[ae hi,e]) s hs
   refine⟨_,rfl,fl,as,L.map TM.iN,rfl,SqL.of f4,xn3 t4,λx hx=>?_,by rw[aa];lia,λl bs qs hl0 hq1 hq2 hq3=>?_⟩
   ·obtain⟨y,hy,rfl⟩:=ay.mp hx
    intro e
    have hl:=((fnd.grp y hy).isT hS).length
    have:y.length=0:=by rw[show y.length=(TM.iN y).length by unfold TM.iN;rw[aa],e];rfl
    lia
   ·obtain⟨M,hM,rfl⟩:=zw4 hq1
    have sl:=z8 hl0 (.lst (bs.map V.ref))
    refine q l bs M _ (s4.free hl0) (s4.trans sl) z4 ((ya7 hq3).same sl) (by rw[hM.length_eq];lia) (hM.nodup_iff.mpr fnd.nd) (bB.mp hq2) λx=>?_
    rw[hM.mem_iff]
    exact gAll x
 ·rintro σ H4 Q1 Q2 h ⟨a1,e1,a2,e2,a3,a4,e3,sq,b1,b2,e4,e5,k,e6,q1⟩
  exact⟨a1,e1,a2,e2,a3,a4,e3,sq,b1,b2,e4,e5,k,e6,h _ _ q1⟩
theorem zt0 :∀(bs:List (Addr×List Nat)),(∀b∈bs,H b.1=some (.tup (tI b.2)))->i5 H (bs.map Prod.fst) (bs.map Prod.snd)
 | [],_=>.nil
 | b::bs,h=>.cons (h b ax) (zt0 bs λc hc=>h c (av _ hc))
abbrev zx4 (rs:List (List Nat)) (i:Nat) (H:Hp) (v:V) (H4:Hp):Prop:=y6 H H4/\∃b:Addr×List Nat,v=.ref (Prod.fst b)/\(H4 b.1=some (.tup (tI b.2))/\rs[i]?=some b.2)/\((λ_=>[]) b:List Addr).Nodup/\∀a∈((λ_=>[]) b:List Addr),H a=none/\∃o,H4 a=some o
theorem zx4.mk (h:rs[i]?=some r)(s:y6 H H4)(hb:H4 b=some (.tup (tI r))):zx4 rs i H (.ref b) H4:=⟨s,(b,r),rfl,⟨hb,h⟩,by simp,λa ha=>by cases ha⟩
theorem yk4 {J:It}{fr:List Nat}{te:CT TE}{Q:Addr->Hp->Prop}(rs:List (List Nat))(hz:rs.length<=ge)(hstop:∀H,y6 H1 H->J.stop rs.length H)(hgo:∀i H,i<rs.length->y6 H1 H->J.go i H)
  (turn:∀(i:Nat) H x H2 r,rs[i]?=some r->y6 H1 H->J.yld i H x H2->H2=H/\∀C₀ s₀ H₀ fp,te C₀ s₀ H₀ fp (some x::fr.map λj=>(σ[j]?).getD none) H λv H4=>zx4 rs i H v H4)
  (fin:∀(D:Addr) (H:Hp) (as:List Addr),H1 D=none->y6 H1 H->H D=some (.lst (as.map V.ref))->i5 H as rs->Q D H) :
  ∀D,H1 D=none->∃W:Nat->Nat->St->Hp->Prop,(∃m,W 0 m (P3 1 fr σ) (upd H1 D (.lst [])))/\∀i m σ' H',W i m σ' H' ->
  (J.stop i H'/\Q D H')∨(J.go i H'/\∀x H2,J.yld i H' x H2->∀C₀ s₀ H₀ fp,Q8 0 x σ' H2 λσ3 H3=>∃N:VK,te C₀ s₀ H₀ fp σ3 H3 N/\∀y H4,N y H4 ->
   ∃ys m',H4 D=some (.lst ys)/\ys.length<ge/\m'<m/\W (i+1) m' σ3 (upd H4 D (.lst (ys++[y])))):=by
 refine zn7 (J:=J) (Prod.fst:Addr×List Nat->Addr) (λ_=>[]) (λH i b=>H b.1=some (.tup (tI b.2))/\rs[i]?=some b.2) (n:=rs.length) hz (λH3 H4 D' xs i b hb hD fr _=>⟨fr _ _ (λz=>?_) hb.1,hb.2⟩) hstop hgo ?_ ?_
 ·rw[ar.mp z,hD]at hb
  cases hb.1
 ·intro i Hx v Hy hi sx hy
  exact turn i Hx v Hy _ (ae hi) sx hy
 ·intro D' H3 bs hD s3 hl3 hbl hR _ _
  have hR':∀b∈bs,H3 b.1=some (.tup (tI b.2)):=λb hb=>by
   obtain⟨i,hi,e⟩:=bg.mp hb
   exact(hR i b (by rw[ae hi,e])).1
  have e:bs.map Prod.snd=rs:=cE λi=>by
   rw[af]
   cases e:bs[i]? with
   | none =>
    rw[aW (by have:=eZ.mp e;lia)]
    rfl
   | some b=>exact(hR i b e).2.symm
  refine fin D' H3 (bs.map Prod.fst) hD s3 (by rw[bx];exact hl3) ?_
  rw[←e]
  exact zt0 bs hR'
theorem yz7 {as:List Addr}{L:List (List Nat)}(hl:H l=some (.lst (as.map V.ref)))(hL:i5 H as L)(ha:H a=some (.tup (tI r)))(hr:r∈L)(hn:L.length<2 ^ 60)(q:Q (.int ((L.idxOf r:Nat):Int)) H):yq9 (.ref l) [.ref a] H Q:=by
 have hi:=bL hr
 refine⟨l,_,L.map Q7,.ref a,Q7 r,L.idxOf r,rfl,rfl,hl,yy6 hL,yy5 ha,(zk1 L).2,zc0 r,by lia,?_,λi h=>?_,q⟩
 ·rw[af,ae hi,List.getElem_idxOf hi]
  show some (PyData.eqv (Q7 r) (Q7 r))=_
  rw[zy2,decide_eq_true rfl]
 ·rw[af,ae (eD h hi)]
  show some (PyData.eqv (Q7 L[i]) (Q7 r))=_
  rw[zy2,decide_eq_false λe=>?_]
  have h2:(L[i]'(eD h hi)==r)=false:=List.not_of_lt_findIdx (p:=λx=>x==r) (xs:=L) h
  rw[e]at h2
  simp at h2
def B5 (X XP cG cC cB cS:Addr):Sp:=λvs H Q E=>∃(g p:Addr) (n m:Nat) (ts ps:List (List Nat)) (S S2:ChS),vs=[.ref g,.ref p]/\u7 cG cC cB cS m H g ts S/\u7 cG cC cB cS n H p ps S2/\zt2 m ts /\
 (¬E8 n m ts ps->∀H',y6 H H'->E (.ref XP) none H') /\
 (E8 n m ts ps->(∀(l:Addr) (bs:List Addr) (L:List (List Nat)) (H':Hp),H l=none->y6 H H'->H' l=some (.lst (bs.map V.ref))->Srt L->L.Nodup->(∀k,k∈L↔TM.Sd m ts ps k)->L.length<=60->i5 H' bs (ts.map (TM.shd m ps L))->Q (.ref l) H') /\
  ((∃L:List (List Nat),L.Nodup/\(∀k∈L,TM.Sd m ts ps k)/\60<L.length)->∀H',y6 H H'->E (.ref X) none H'))
theorem zi5:x9 ["group","part","found","act"] ["group","part"] (z9 ze5):=scq
theorem yv3 (D:Def K mg "shadow" ze5 ["group","part"] f fd)(B:Blt mg)(cg:n4 K cG X4)(cd:n4 K cD ["many","part"])(SK:zn1 P w K mg base (zm6 X XP cG cC cB cS))(KD:zt3 P w K mg base 2 cD "Sides" ["self","part"] (zf3 cD cG cC cB cS))(MT:Y5 P w K mg base 1 cG "told" ["self"] (zs4 cG cC cB cS))
  (MM:∀n ps,(∀t∈ps,TM.IsT n t)->Y5 P w K mg base 5 cD "moved" ["self","thing","t"] (xm3 n (Z9 cD cG cC cB cS n ps) (TM.IsT n) (mvS n ps))) (GM:zk4 mg "MOST_SHADOW" (.int 60)):M4 P w K mg base 12 "shadow" ["group","part"] (B5 X XP cG cC cB cS):=by
 refine⟨f,fd,?_,D.F.kp,D.m,D.b⟩
 refine D.F.okX zi5 (λvs H Q E h=>?_) (λcdv A outer s H vs Q E hr h=>?_)
 ·obtain⟨g,p,n,m,ts,ps,S,S2,rfl,_⟩:=h
  rfl
 obtain⟨g,p,n,m,ts,ps,S,S2,rfl,ga,gp,few,qn,qs⟩:=h
 have hz:=p8
 have hu:(A.deeper (PyProof.Rows.envOfC "shadow" (z9 ze5) s.heap.objs.size f cdv)).units+66<cLine:=by have:=hr.un;lia
 apply P9
 ·apply v0
  ·exact DS.mk (u4 (i:=2) zi5.nd rfl (Or.inr rfl) (xr7 SK.three hr rfl (z0 (pv 0) (z0 (pv 1) (z0 (ze2 GM rfl) z5)))))
  apply v0
  ·exact DS.mk (u4 (i:=3) zi5.nd rfl (Or.inr rfl) (O6 KD hr rfl (z0 (pv 1) z5)))
  exact⟨z7 (v1 (yv4 [2,3] ["maker","found","act"] rfl (W0 (C2 cg.cls MT hr (pv 0))) (λ_ _ _ _=>u5 o7 rfl B.tuple d0 (z0 (Z6 [1,0,2] ["side","found","maker","act"] rfl (W0 (pv 1)) (λ_ _ _ _=>E4 PySem.F.plainAttrs_list PySem.F.slot_list_index PySem.F.type_list_index (yv0 hu) (pv 1) (z0 (Y7 cd.cls (MM n ps gp.tT) hr (pv 3) (z0 (pv 0) (z0 (pv 2) z5))) z5))) z5))))⟩
 have g0:=ga.at'
 obtain⟨dxg,ma,Ac,mas0,hg,_⟩:=ga.at'
 refine i4 λN hN=>⟨_,rfl,_,rfl,g,p,n,m,ts,ps,S,S2,60,rfl,ga,gp,few,by decide,qn,λhP=>?_⟩
 obtain⟨q,qx⟩:=qs hP
 refine⟨λfl bs L H1 hfl0 s1 hfl hL sL nL aL lL=>hN _ _ ?_,qx⟩
 clear hN N
 obtain⟨rfl,hin⟩:=hP
 refine i4 λN hN=>⟨_,rfl,λa dxa ha0 hdxa _=>⟨a,dxa,p,n,ps,S2,H1,rfl,z4,p4 (z8 hdxa _) ha0 _,ha0,gp.same s1,λH2 s2 ha=>⟨rfl,hN _ _ ?_⟩⟩⟩
 clear hN N
 have s12:=s1.trans s2
 have n60:=ga.n60
 refine⟨_,rfl,g,dxg,_,rfl,s12 _ _ hg,rfl,g,n,ts,S,rfl,ga.same s12,λml mas H3 hml0 s3 hml hmas=>?_⟩
 have hmal:mas.length=ts.length:=Paired.length hmas
 have htl:=ga.few
 refine⟨ml,rfl,⟨_,SqL.of hml⟩,yk4 (ts.map (TM.shd n ps L)) (by rw[aa];lia) (λG sG=>⟨_,SqL.of (sG _ _ hml),by rw[aa,aa,hmal];exact ag _⟩) (λi G hi sG=>⟨_,_,SqL.of (sG _ _ hml),ae (by rw[aa]at hi ⊢;lia)⟩) ?_ ?_⟩
 ·rintro i G x G2 r hr' sG ⟨rfl,hxx⟩
  obtain⟨ta,hta,rfl⟩:=Y8 (hxx _ (SqL.of (sG _ _ hml)))
  obtain⟨t,ht,hHt⟩:=u0 hmas i ta hta
  have tG:=TM.Grp.of ga.tT (aq ht)
  have tT:=ga.tT t (aq ht)
  refine⟨rfl,λ_ _ _ _=>?_⟩
  have er:r=TM.shd n ps L t:=by
   rw[af,ht]at hr'
   exact(Option.some.inj hr').symm
  subst er
  have s23:=s2.trans s3
  have flG:=(s23.trans sG) _ _ hfl
  have LG:=hL.same (s23.trans sG)
  have bl:bs.length=L.length:=Paired.length LG
  refine⟨_,rfl,fl,rfl,⟨_,SqL.of flG⟩,L6 (SqL.of flG) (tI (TM.shd n ps L t)) (by unfold TM.shd;rw[u6,aa,aa,bl]) (by rw[aa,bl];lia) ?_ ?_⟩
  ·intro j G3 y hy s' _ _ _ _
   obtain⟨sa,hsa,rfl⟩:=Y8 hy
   obtain⟨sd,hsd,hHs⟩:=u0 LG j sa hsa
   have hm:=aq hsd
   have sT:=TM.Sd.isT ga.tT gp.tT ((aL sd).mp hm)
   obtain⟨dxa,pa,S3,hains,_⟩:=ha.same (s3.trans (sG.trans s'))
   refine⟨_,rfl,.inl ⟨rfl,_,SqL.of (s' _ _ flG)⟩,_,rfl,a,dxa,_,rfl,hains,rfl,_,rfl,_,rfl,a,sa,ta,sd,t,rfl,ha.same (s3.trans (sG.trans s')),s' _ _ hHs,sT,(sG.trans s') _ _ hHt,tT,λr G4 s4 hr4=>?_⟩
   refine yz7 (Q:=λy H4=>y6 G3 H4/\(tI (TM.shd n ps L t))[j]?=some y) ((s'.trans s4) _ _ flG) (LG.same (s'.trans s4)) hr4 (TM.shd_in ga.tT gp.tT aL hm tG) (by lia) ?_
   refine⟨s4,?_⟩
   unfold TM.shd
   exact ys2 (by rw[af,hsd];rfl)
  ·intro dl G3 _ s' hdl
   exact⟨dl,_,rfl,.inl ⟨SqL.of hdl,λr hr0=>zx4.mk hr' (s'.trans (z8 hr0 _)) z4⟩⟩
 ·intro dl G as hdl0 sG hdl has
  refine q dl as L G ?_ (s12.trans (s3.trans sG)) hdl sL nL aL lL has
  cases e:H dl with
  | none=>rfl
  | some u=>rw[(s12.trans s3) _ _ e]at hdl0;cases hdl0
def U3 (cG cC cB cS:Addr)(H:Hp)(g p:Addr)(b:Bool):Prop:=∃(n m:Nat) (ts ps:List (List Nat)) (S S2:ChS),u7 cG cC cB cS m H g ts S/\u7 cG cC cB cS n H p ps S2/\zt2 m ts/\(b=true->E8 n m ts ps/\∃L:List (List Nat),L.Nodup/\(∀k∈L,TM.Sd m ts ps k)/\60<L.length)/\(b=false->¬E8 n m ts ps)
theorem U3.same (h:U3 cG cC cB cS H g p b)(s:y6 H H'):U3 cG cC cB cS H' g p b:=by
 obtain⟨n,m,ts,ps,S,S2,h1,h2,h3⟩:=h
 exact⟨n,m,ts,ps,S,S2,h1.same s,h2.same s,h3⟩
theorem U3.ask (h:U3 cG cC cB cS H g p b)(qx:∀H',y6 H H'->E (.ref (if b then X else XP)) none H'):B5 X XP cG cC cB cS [.ref g,.ref p] H Q E:=by
 obtain⟨n,m,ts,ps,S,S2,h1,h2,h3,h5,h6⟩:=h
 refine⟨g,p,n,m,ts,ps,S,S2,rfl,h1,h2,h3,λno H' s'=>?_,λyes=>?_⟩
 ·cases b with
  | true=>exact(no (h5 rfl).1).elim
  | false=>exact qx H' s'
 ·cases b with
  | false=>exact(h6 rfl yes).elim
  | true =>
   refine⟨λl bs L H' _ _ _ _ _ hk hl _=>?_,λ_ H' s'=>qx H' s'⟩
   obtain⟨_,M,hM,hs,hlt⟩:=h5 rfl
   have:=TM.nodup_le hM λk hk'=>(hk k).mpr (hs k hk')
   lia
def B4 (cG cC cB cS:Addr):Sp:=λvs H Q _=>∃(g p:Addr) (b:Bool),vs=[.ref g,.ref p]/\U3 cG cC cB cS H g p b/\∀(r:Addr) (H':Hp),y6 H H'->H' r=some (.lst [.bl b,.bl !b])->Q (.ref r) H'
theorem V8:x9 ["_law_group","_law_part","_law_kinds","e"] ["_law_group","_law_part"] (z9 T5):=scq
theorem ze4 {cG cC cB cS X XP TE:Addr}(D:Def K mg "_law_refused" T5 ["_law_group","_law_part"] f fd)(B:Blt mg)(KT:M4 P w K mg base 12 "shadow" ["group","part"] (B5 X XP cG cC cB cS))(ET:yj5 K mg TE)(EX:zc1 K mg TE "TooMany" X)(EN:zc1 K mg TE "NotPart" XP)
  (b:Bool)   (eC:C=if b then X else XP) (EA:zc1 K mg TE nm C) (AK:zk5 K C) (k1:W.kitOne K (.ref C) (.ref X)=some b) (k2:W.kitOne K (.ref C) (.ref XP)=some !b):u8 P w K mg base CX0 13 f fd ["_law_group","_law_part"] (λvs H Q _=>∃(g p:Addr),vs=[.ref g,.ref p]/\U3 cG cC cB cS H g p b/\∀(r:Addr) (H':Hp),y6 H H'->H' r=some (.lst [.bl b,.bl !b])->Q (.ref r) H'):=by
 refine D.F.ok V8 (λvs H Q E h=>?_) (λcdv A outer s H vs Q E hr h=>?_)
 ·obtain⟨g,p,rfl,_⟩:=h
  rfl
 obtain⟨g,p,rfl,hb,q⟩:=h
 have hz:=p8
 apply P9
 ·apply v0
  ·exact DS.mk (u4 (i:=2) V8.nd rfl (Or.inl rfl) (c0 z5))
  apply v0
  ·exact DS.mk (xl1 KT hr rfl (z0 (pv 0) (z0 (pv 1) z5)) (xv0 (i:=3) EA.c ET.c (by simp) rfl ET.m V8.nd rfl rfl (λea=>z7 (u4 (i:=2) V8.nd rfl (Or.inl rfl) (c0
    (z0 (v9 za0 rfl B.isinstance l8 (z0 (pv 3) (z0 (ya1 (v:=.ref X) rfl EX.m rfl) z5))) (z0 (v9 za0 rfl B.isinstance l8 (z0 (pv 3) (z0 (ya1 (v:=.ref XP) rfl EN.m rfl) z5))) z5)))))) rfl rfl)
  exact⟨z7 (v1 (pv 2))⟩
 refine i4 λN hN=>⟨aP _,λkl hkl=>hN _ _ ?_⟩
 clear hN N
 have s1:=z8 hkl (.lst [])
 generalize upd H kl (.lst [])=H1 at s1 ⊢
 refine i4 λN hN=>⟨λC' _ H'=>C'=.ref C/\y6 H1 H',⟨_,rfl,_,rfl,(hb.same s1).ask (X:=X) (XP:=XP) (Q:=λ_ H2=>N _ H2) (E:=λC' _ H'=>C'=.ref C/\y6 H1 H') λH' s'=>⟨by rw[eC],s'⟩⟩,?_⟩
 rintro ea C' H2 ⟨e,s2⟩ hea
 cases e
 have s3:=s1.trans (s2.trans (z8 hea (zx2 ea C)))
 have x3:(upd H2 ea (zx2 ea C)) ea=some (zx2 ea C):=z4
 refine⟨rfl,?_⟩
 generalize upd H2 ea (zx2 ea C)=H3 at s3 x3 ⊢
 refine⟨_,rfl,ea,C,X,b,rfl,x3,AK,k1,_,rfl,ea,C,XP,!b,rfl,x3,AK,k2,(by show 2<=ge;lia),λl1 hl1=>hN _ _ ⟨_,rfl,q l1 _ (s3.trans (z8 hl1 _)) z4⟩⟩
theorem zl2 {cG cC cB cS X XP TE:Addr}(D:Def K mg "_law_refused" T5 ["_law_group","_law_part"] f fd)(B:Blt mg)(KT:M4 P w K mg base 12 "shadow" ["group","part"] (B5 X XP cG cC cB cS))(ET:yj5 K mg TE)(EX:zc1 K mg TE "TooMany" X)(EN:zc1 K mg TE "NotPart" XP)(AX:zk5 K X)(AN:zk5 K XP)
  (k1:W.kitOne K (.ref X) (.ref X)=some true) (k2:W.kitOne K (.ref X) (.ref XP)=some false) (n1:W.kitOne K (.ref XP) (.ref X)=some false) (n2:W.kitOne K (.ref XP) (.ref XP)=some true):u8 P w K mg base CX0 13 f fd ["_law_group","_law_part"] (B4 cG cC cB cS) :=
 ⟨λvs H Q E ⟨g,p,b,e,_⟩=>by rw[e];rfl,λA outer s H args us vs Q E hr he hb hv ⟨g,p,b,e,hbad,q⟩=>match b,hbad,q with
  | true,hbad,q=>(ze4 D B KT ET EX EN true rfl EX AX k1 k2).run A outer s H args us vs Q E hr he hb hv ⟨g,p,e,hbad,q⟩
  | false,hbad,q=>(ze4 D B KT ET EX EN false rfl EN AN n1 n2).run A outer s H args us vs Q E hr he hb hv ⟨g,p,e,hbad,q⟩⟩
def zn2 (L I:List (List Nat))(i j:Nat)(kvs:List (List Key×V)):Prop:=∀k m s o,L[k]?=some s->I[m]?=some o->(k<i∨k=i/\m<j)->V4 kvs (kT (TM.beh o s))=some (.int k)
theorem zn2.put {L I:List (List Nat)}{fm:List Nat->List Nat}(h:zn2 L I i j kvs)(hf:∀s∈L,∀o∈I,fm (TM.beh o s)=s)(nd:L.Nodup)(hs:L[i]?=some s)(ho:I[j]?=some o):zn2 L I i (j+1) (putK kvs (kT (TM.beh o s)) (.int i)):=by
 intro k m s' o' hs' ho' hk
 rw[xh4]
 by_cases e:kT (TM.beh o' s')=kT (TM.beh o s)
 ·rw[if_pos e]
  have e:=zo9 e
  have h1:=hf s' (aq hs') o' (aq ho')
  rw[e,hf s (aq hs) o (aq ho)]at h1
  subst h1
  obtain⟨hi,ei⟩:=al.mp hs
  obtain⟨hk',ek⟩:=al.mp hs'
  have:i=k:=(eJ nd).mp (ei.trans ek.symm)
  rw[this]
 ·rw[if_neg e]
  refine h k m s' o' hs' ho' ?_
  rcases hk with c|⟨c1,c2⟩
  ·exact .inl c
  ·refine .inr ⟨c1,?_⟩
   rcases bW (cT c2) with c|c
   ·exact c
   ·subst c1 c
    rw[hs]at hs'
    rw[ho]at ho'
    cases hs'
    cases ho'
    exact absurd rfl e
def yi2:Sp:=λvs H Q _=>∃(la ia:Addr) (n:Nat) (las ias:List Addr) (L I:List (List Nat)) (fm:List Nat->List Nat),vs=[.ref la,.ref ia]/\H la=some (.lst (las.map V.ref))/\i5 H las L/\H ia=some (.lst (ias.map V.ref))/\i5 H ias I/\(∀s∈L,TM.IsT n s)/\(∀o∈I,TM.IsT n o)/\n<=60/\(∀s∈L,∀o∈I,fm (TM.beh o s)=s)/\L.Nodup/\L.length<=60/\I.length<=1000 /\
 ∀(d:Addr) (kvs:List (List Key×V)) (H':Hp),H d=none->y6 H H'->H' d=some (.dT kvs)->(∀(k:Nat) s o,L[k]?=some s->o∈I->V4 kvs (kT (TM.beh o s))=some (.int k))->Q (.ref d) H'
theorem X0:x9 ["_law_some","_law_inner","_law_numbers_here","_law_k","_law_side","_law_one"] ["_law_some","_law_inner"] (z9 N1):=scq
theorem zl1 (D:Def K mg "_law_numbers" N1 ["_law_some","_law_inner"] f fd)(B:Blt mg)(KB:o9 P w K mg base 1 "_law_behind" ["_law_one","_law_other"] (A3 K)):u8 P w K mg base CX0 2 f fd ["_law_some","_law_inner"] yi2:=by
 refine D.F.ok X0 (λvs H Q E h=>?_) (λcdv A outer s H vs Q E hr h=>?_)
 ·obtain⟨la,ia,n,las,ias,L,I,fm,rfl,_⟩:=h
  rfl
 obtain⟨la,ia,n,las,ias,L,I,fm,rfl,hla,hL,hia,hI,LT,IT,n60,hf,nd,l60,i1000,q⟩:=h
 have hz:=p8
 have hu:=ye5 hr
 apply P9
 ·apply v0
  ·exact DS.mk (u4 (i:=2) X0.nd rfl (Or.inl rfl) zq4)
  apply v0
  ·exact DS.mk (U1 PassesOwn.never rfl (ze3 rfl B.enumerate (z0 (pv 0) z5)) (zb4 rfl (Z0 (o5 (i:=3) X0.nd rfl (Or.inl rfl)) (Z0 (o5 (i:=4) X0.nd rfl (Or.inl rfl)) J1)))
    (z7 (U1 PassesOwn.never rfl (W0 (pv 1)) (o5 (i:=5) X0.nd rfl (Or.inl rfl))
     (z7 (J2 hu (pv 2) (p6 KB hr rfl (z0 (pv 5) (z0 (pv 4) z5))) (pv 3) rfl)))))
  exact⟨z7 (v1 (pv 2))⟩
 have hll:las.length=L.length:=Paired.length hL
 have hil:ias.length=I.length:=Paired.length hI
 refine i4 λN hN=>λd hd=>hN _ _ ?_
 clear hN N
 have s1:=z8 hd (.dT [])
 have d1:(upd H d (.dT [])) d=some (.dT []):=z4
 generalize upd H d (.dT [])=H1 at s1 d1 ⊢
 refine i4 λN hN=>⟨_,rfl,la,rfl,⟨_,SqL.of (s1 _ _ hla)⟩,L7 (xs:=las.map V.ref) (λi σ G=>∃(kvs:List (List Key×V)) (v3 v4 v5:Option V),σ=[some (.ref la),some (.ref ia),some (.ref d),v3,v4,v5]/\y6 H G/\G d=some (.dT kvs)/\kvs.length<=i*I.length/\zn2 L I i 0 kvs)
  ⟨[],none,none,none,rfl,s1,d1,aP _,λk m s o _ _ hk=>absurd hk (by lia)⟩ (λi σ G _ ⟨_,_,_,_,_,ss,_⟩=>SqL.of (ss _ _ hla)) ?_ ?_⟩
 ·clear hN
  rintro i y σ G T hy ⟨kvs,v3,v4,v5,rfl,ss,hdG,hkl,told⟩ hT
  obtain⟨sa,hsa,rfl⟩:=Y8 hy
  obtain⟨sd,hsd,hHs⟩:=u0 hL i sa hsa
  have sT:=LT sd (aq hsd)
  have hi:i<L.length:=(al.mp hsd).1
  refine⟨T,_,rfl,SqT.of z4,rfl,_,_,rfl,_,_,rfl,rfl,?_⟩
  have s4:=z8 hT (.tup [V.int ((i:Nat):Int),V.ref sa])
  have hd4:=s4 _ _ hdG
  have ss4:=ss.trans s4
  generalize upd G T (.tup [V.int ((i:Nat):Int),V.ref sa])=G1 at s4 hd4 ss4 ⊢
  refine⟨_,rfl,ia,rfl,⟨_,SqL.of (ss4 _ _ hia)⟩,L8 (xs:=ias.map V.ref) (λj σ G2=>∃(kvs:List (List Key×V)) (v5:Option V),σ=[some (.ref la),some (.ref ia),some (.ref d),some (.int i),some (.ref sa),v5]/\y6 H G2/\G2 d=some (.dT kvs)/\kvs.length<=i*I.length+j/\zn2 L I i j kvs)
   ⟨kvs,v5,rfl,ss4,hd4,hkl,told⟩ (λj σ G2 _ ⟨_,_,_,s',_⟩=>SqL.of (s' _ _ hia)) ?_ ?_⟩
  ·rintro j z σ G2 hz' ⟨kvs,v5,rfl,s',hd',hkl',told'⟩
   obtain⟨oa,hoa,rfl⟩:=Y8 hz'
   obtain⟨o,ho,hHo⟩:=u0 hI j oa hoa
   have oT:=IT o (aq ho)
   have hj:j<I.length:=(al.mp ho).1
   have hij:i*I.length+j<=61000:=by
    have:i*I.length<=60*1000:=fO (by lia) i1000
    lia
   refine⟨_,rfl,_,rfl,_,rfl,_,rfl,oa,sa,o,sd,rfl,SqT.of (s' _ _ hHo),SqT.of (s' _ _ hHs),by rw[oT.length];lia,λx hx=>by rw[sT.length];exact oT.lt hx,λtp G3 htp s7 e7=>?_⟩
   have e7k:G3 tp=some (.tup ((kT (TM.beh o sd)).map kV)):=by rw[zb0];exact e7
   refine⟨d,_,rfl,zm8.t (s7 _ _ hd') e7k (by lia),?_⟩
   refine⟨_,_,rfl,p4 (s'.trans s7) hd _,z4,?_,told'.put hf nd hsd ho⟩
   have:=N7 kvs (kT (TM.beh o sd)) (.int i)
   lia
  ·rintro σ G2 ⟨kvs,v5,rfl,s',hd',hkl',told'⟩
   rw[aa,hil]at hkl' told'
   refine⟨kvs,_,_,_,rfl,s',hd',by rw[fU];exact hkl',λk m s o h1 h2 hk=>told' k m s o h1 h2 ?_⟩
   have:=(al.mp h2).1
   lia
 ·rintro σ G ⟨kvs,v3,v4,v5,rfl,ss,hdG,hkl,told⟩
  rw[aa,hll]at told
  refine hN _ _ ⟨_,rfl,q d kvs G hd ss hdG λk s o h1 h2=>?_⟩
  obtain⟨m,hm,em⟩:=bg.mp h2
  exact told k m s o h1 (by rw[ae hm,em]) (.inl (al.mp h1).1)
theorem yi5 {L M:List (List Nat)}(h:Srt L)(h':Srt M)(p:L.Perm M):L=M :=
 List.Perm.eq_of_pairwise (λa b _ _ h1 h2=>by
  have e:=yf2 h2 h1
  rw[←zm1 a,←zm1 b,e]) h h' p
theorem zp0 (hx:H x=none)(hd:H dx=none)(h:H b=some o):(upd (upd H dx (.own x)) x (.ins cG dx [])) b=some o:=by
 rw[z6 (y0 h hx),z6 (y0 h hd)]
 exact h
theorem tsU (hx:H x=none)(hd:H dx=none)(h:i5 H as ts):i5 (upd (upd H dx (.own x)) x (.ins cG dx [])) as ts:=Paired.imp' (λb z e=>zp0 hx hd e) h
theorem yh0 (hx:H x=none)(hd:H dx=none)(fr:y8 [x] (upd (upd H dx (.own x)) x (.ins cG dx [])) H'):y6 H H':=λb u h=>fr b u (by simpa using y0 h hx) (zp0 hx hd h)
def zw7 (cG cC cB cS:Addr):Sp:=λvs H Q _=>∃(g p:Addr) (n:Nat) (ts ps M0:List (List Nat)) (S S2:ChS),vs=[.ref g,.ref p]/\u7 cG cC cB cS n H g ts S/\u7 cG cC cB cS n H p ps S2/\zt2 n ts/\(∀q∈ps,TM.Grp n (λz=>z∈ts) q)/\(∀k,TM.Sd n ts ps k->k∈M0)/\M0.length<=60 /\
 ∀(l:Addr) (bs:List Addr) (L:List (List Nat)) (H':Hp),H l=none->y6 H H'->H' l=some (.lst (bs.map V.ref))->Srt L->L.Nodup->(∀k,k∈L↔TM.Sd n ts ps k)->L.length<=60->i5 H' bs (ts.map (TM.shd n ps L))->Q (.ref l) H'
theorem yh3 {mg:Str->Option Value}(k:M4 P w K mg base 12 "shadow" ["group","part"] (B5 X XP cG cC cB cS)):o9 P w K mg base 12 "shadow" ["group","part"] (zw7 cG cC cB cS):=by
 obtain⟨f,fd,F,r⟩:=k
 refine⟨f,fd,F.calm.imp λvs H Q E h=>?_,r⟩
 obtain⟨g,p,n,ts,ps,M0,S,S2,rfl,ga,gp,few,hin,hall,hle,q⟩:=h
 refine⟨g,p,n,n,ts,ps,S,S2,rfl,ga,gp,few,λno=>(no ⟨rfl,hin⟩).elim,λ_=>⟨q,λ⟨L,h1,h2,h3⟩=>?_⟩⟩
 have:=TM.nodup_le h1 λk hk=>hall k (h2 k hk)
 lia
def yh8 (cG cC cB cS:Addr):Sp:=λvs H Q _=>∃(g p ma ia:Addr) (n:Nat) (ts ps I E:List (List Nat)) (S S2:ChS) (mas ias:List Addr),vs=[.ref g,.ref p,.ref ma,.ref ia]/\u7 cG cC cB cS n H g ts S/\u7 cG cC cB cS n H p ps S2/\H ma=some (.lst (mas.map V.ref))/\i5 H mas ts/\H ia=some (.lst (ias.map V.ref))/\i5 H ias I/\(∀q∈ps,TM.Grp n (λz=>z∈ts) q)/\(∀x,x∈I↔TM.Grp n (λz=>z∈ps) x)/\zt2 n ts/\(∀x,TM.Grp n (λz=>z∈ts) x->x∈E)/\E.length<=1000/\I.length<=1000/\ts.length<=100/\∀H',y6 H H'->Q (.bl true) H'
theorem Y4:x9 ["_law_group","_law_part","_law_makers","_law_inner","_law_some","_law_numbers_here","_law_found","_law_k","_law_t","_law_pair"] ["_law_group","_law_part","_law_makers","_law_inner"] (z9 C9):=scq
theorem zz4 (D:Def K mg "_law_good" C9 ["_law_group","_law_part","_law_makers","_law_inner"] f fd)(B:Blt mg)(cg:n4 K cG X4)(KG:zt3 P w K mg base 7 cG "Group" ["self","many","makers"] (B3 cG cC cB cS))(KD:yj6 P w K mg base 11 "sides" ["group","part","most"] [.int 1000] (zs2 cG cC cB cS))(KS:o9 P w K mg base 12 "shadow" ["group","part"] (zw7 cG cC cB cS))(KF:o9 P w K mg base 13 "_law_refused" ["_law_group","_law_part"] (B4 cG cC cB cS))
  (KN:o9 P w K mg base 2 "_law_numbers" ["_law_some","_law_inner"] yi2) (KB:o9 P w K mg base 1 "_law_behind" ["_law_one","_law_other"] (A3 K)) (KW:o9 P w K mg base 1 "_law_whole" ["_law_found"] yi4):u8 P w K mg base CX0 14 f fd ["_law_group","_law_part","_law_makers","_law_inner"] (yh8 cG cC cB cS):=by
 refine D.F.ok Y4 (λvs H Q E h=>?_) (λcdv A outer s H vs Q E hr h=>?_)
 ·obtain⟨g,p,ma,ia,n,ts,ps,I,E',S,S2,mas,ias,rfl,_⟩:=h
  rfl
 obtain⟨g,p,ma,ia,n,ts,ps,I,E',S,S2,mas,ias,rfl,ga,gp,hma,tma,hia,tia,hin,aI,few,aE,lE,lI,lt,q⟩:=h
 have hz:=p8
 have hu:=ye5 hr
 apply P9
 ·apply v0
  ·exact DS.mk (u4 (i:=4) Y4.nd rfl (Or.inl rfl) (xk9 KD hr rfl (z0 (pv 0) (z0 (pv 1) z5))))
  apply v0
  ·exact DS.mk (i7 (m9 yg0 (v9 q9 rfl B.len Y1 (z0 (pv 4) z5)) w8 (l5 _)) (z7 (v1 (B9 (ym0 hr.units) (p6 KF hr rfl (z0 (pv 0) (z0 (pv 1) z5))) (c0 (z0 W4 (z0 W4 z5))) (l5 _)))) r6)
  apply v0
  ·exact DS.mk (u4 (i:=5) Y4.nd rfl (Or.inr rfl) (p6 KN hr rfl (z0 (pv 4) (z0 (pv 3) z5))))
  apply v0
  ·exact DS.mk (u4 (i:=6) Y4.nd rfl (Or.inl rfl) (p6 KS hr rfl (z0 (pv 0) (z0 (pv 1) z5))))
  apply v0
  ·exact DS.mk (i7 (PW.pt (yg6 (U2 (W7 (v9 Z7 rfl B.isinstance l8 (z0 (pv 6) (z0 (N8 (v:=.ty "list") rfl B.list P5 rfl) z5))))) (zr2 (m9 yq2 (v9 q9 rfl B.len Y1 (z0 (pv 6) z5)) (v9 q9 rfl B.len Y1 (z0 (pv 2) z5)) (l5 _))))) (z7 (v1 W4)) r6)
  apply v0
  ·exact DS.mk (U1 PassesOwn.never rfl (ze3 rfl B.enumerate (z0 (pv 6) z5)) (zb4 rfl (Z0 (o5 (i:=7) Y4.nd rfl (Or.inr rfl)) (Z0 (o5 (i:=8) Y4.nd rfl (Or.inl rfl)) J1)))
    (y4 (i7 (PW.pt (yg6 (U2 (W7 (v9 Z7 rfl B.isinstance l8 (z0 (pv 8) (z0 (N8 (v:=.ty "tuple") rfl B.tuple d0 rfl) z5))))) (zr2 (U2 (W7 (v9 (B6 rfl) rfl B.all zx7 (z0 (Z6 [] ["_law_to"] rfl (ya2 (pv 8)) (λ_ _ _ _=>p6 KW hr rfl (z0 (pv 0) z5))) z5))))))) (z7 (v1 W4)) r6)
    (z7 (i7 (m9 (ym1 hr.units) (pv 8) (u5 o7 rfl B.tuple d0 (z0 (Z6 [5,2,7] ["_law_side","_law_numbers_here","_law_makers","_law_k"] rfl (W0 (pv 4)) (λ_ _ _ _=>Q3 hu (pv 1) (p6 KB hr rfl (z0 (pv 0) (z0 (k9 p5 (pv 2) (pv 3) (λ_ _=>rfl)) z5))) (λ_ _=>rfl))) z5)) (l5 _)) (z7 (v1 W4)) r6))))
  apply v0
  ·exact DS.mk (i7 (m9 yg0 (v9 q9 rfl B.len Y1 (z0 (pv 2) z5)) w8 (l5 _))
    (y4 (u4 (i:=9) Y4.nd rfl (Or.inl rfl) (O6 KG hr rfl (z0 (y9 (pv 0) rfl) (z0 (e9 zz6 (c0 (z0 (p6 KB hr rfl (z0 (k9 p5 (pv 2) w8 (λ_ _=>rfl)) (z0 (k9 p5 (pv 2) w8 (λ_ _=>rfl)) z5))) z5)) (pv 2)) z5))))
    (z7 (i7 (m9 (ym1 hr.units) (p6 KS hr rfl (z0 (pv 9) (z0 (pv 1) z5))) (e9 zz6 (c0 (z0 (p6 KB hr rfl (z0 (k9 p5 (pv 6) w8 (λ_ _=>rfl)) (z0 (k9 p5 (pv 6) w8 (λ_ _=>rfl)) z5))) z5)) (pv 6)) (l5 _)) (z7 (v1 W4)) r6))) r6)
  exact⟨z7 (v1 W4)⟩
 have aSE:∀k,TM.Sd n ts ps k->k∈E':=λk hk=>aE k ((TM.sd_iff ga.tT gp.tT hin k).mp hk).1
 have n60:=ga.n60
 have iT:∀o∈I,TM.IsT n o:=λo ho=>((aI o).mp ho).isT gp.tT
 refine i4 λN hN=>⟨_,rfl,_,rfl,g,p,n,ts,ps,S,S2,1000,E',rfl,ga,gp,few,by decide,hin,aSE,lE,λsl sas L H1 hsl0 s1 hsl hL sL nL aL=>hN _ _ ?_⟩
 clear hN N
 have hsal:sas.length=L.length:=Paired.length hL
 have ga1:=ga.same s1
 have gp1:=gp.same s1
 have LT:∀k∈L,TM.IsT n k:=λk hk=>TM.Sd.isT ga.tT gp.tT ((aL k).mp hk)
 refine i4 λN hN=>⟨_,rfl,sl,_,rfl,.inl (SqL.of hsl),_,_,rfl,rfl,_,rfl,?_⟩
 rw[aa,hsal]
 by_cases h60:60<L.length
 ·rw[decide_eq_true (by lia)]
  have hbad:U3 cG cC cB cS H1 g p true:=⟨n,n,ts,ps,S,S2,ga1,gp1,few,λ_=>⟨⟨rfl,hin⟩,L,nL,λk hk=>(aL k).mp hk,h60⟩,λz=>by cases z⟩
  refine Y2 ⟨_,rfl,_,rfl,g,p,true,rfl,hbad,λr H3 s3 hr3=>⟨(by show 2<=ge;lia),λl hl=>?_⟩⟩
  refine⟨.list [.bool true,.bool false],.list [.bool true,.bool false],.lst (SqL.of (z8 hl _ _ _ hr3)) (.cons (.bl _) (.cons (.bl _) .nil)),.lst (SqL.of z4) (.cons (.bl _) (.cons (.bl _) .nil)),by decide +kernel,by decide +kernel,?_⟩
  rw[show PyData.eqv (.list [.bool true,.bool false]) (.list [.bool true,.bool false])=true by decide +kernel]
  exact q _ (s1.trans (s3.trans (z8 hl _)))
 rw[decide_eq_false (by lia)]
 refine g7 (hN _ _ ?_)
 clear hN N
 have l60:L.length<=60:=by lia
 have hfm:∀s∈L,∀o∈I,TM.lsd n (λz=>z∈ps) (TM.beh o s)=s:=λs hs o ho=>by
  have sS:=(TM.sd_iff ga.tT gp.tT hin s).mp ((aL s).mp hs)
  have sT:=LT s hs
  have:=(TM.lsd_iff gp.tT sT ((iT o ho).beh sT)).mpr ⟨o,(aI o).mp ho,rfl⟩
  rw[←this,sS.2]
 refine i4 λN hN=>⟨_,rfl,_,rfl,sl,ia,n,sas,ias,L,I,TM.lsd n (λz=>z∈ps),rfl,hsl,hL,s1 _ _ hia,tia.same s1,LT,iT,n60,hfm,nL,l60,lI,λd kvs H2 hd0 s2 hd hkv=>hN _ _ ?_⟩
 clear hN N
 have ga2:=ga1.same s2
 have gp2:=gp1.same s2
 have s02:=s1.trans s2
 refine i4 λN hN=>⟨_,rfl,_,rfl,g,p,n,ts,ps,L,S,S2,rfl,ga2,gp2,few,hin,λk hk=>(aL k).mpr hk,l60,λfl fas L' H3 hfl0 s3 hfl sL' nL' aL' _ hF=>hN _ _ ?_⟩
 clear hN N
 obtain rfl:=yi5 sL' sL ((eU nL' nL).mpr λk=>(aL' k).trans (aL k).symm)
 clear sL' nL' aL'
 have hfal:fas.length=ts.length:=by rw[Paired.length hF,aa]
 have hmal:mas.length=ts.length:=Paired.length tma
 have s03:=s02.trans s3
 have s13:=s2.trans s3
 have hd3:=s3 _ _ hd
 have shl:∀t,(TM.shd n ps L' t).length=L'.length:=λt=>aa _
 have shlt:∀t,TM.Grp n (λz=>z∈ts) t->∀x∈TM.shd n ps L' t,x<L'.length:=λt ht x hx=>by
  obtain⟨s,hs,rfl⟩:=ay.mp hx
  exact bL (TM.shd_in ga.tT gp.tT aL hs ht)
 refine i4 λN hN=>⟨_,rfl,_,_,_,_,rfl,K6.lst hfl,K8 zd1,_,rfl,g7 ?_⟩
 refine⟨_,rfl,fl,_,rfl,.inl (SqL.of hfl),_,rfl,ma,_,rfl,.inl (SqL.of (s03 _ _ hma)),rfl,_,rfl,?_⟩
 rw[X6,aa,aa,hfal,hmal,decide_eq_true rfl]
 refine g7 (hN _ _ ?_)
 clear hN N
 refine i4 λN hN=>⟨_,rfl,fl,rfl,⟨_,SqL.of hfl⟩,L7 (xs:=fas.map V.ref) (λi σ G=>∃v7 v8,σ=[some (.ref g),some (.ref p),some (.ref ma),some (.ref ia),some (.ref sl),some (.ref d),some (.ref fl),v7,v8,none]/\y6 H3 G) ⟨none,none,rfl,y6.refl _⟩ (λi σ G _ ⟨_,_,_,ss⟩=>ss.seq (SqL.of hfl)) ?_ ?_⟩
 ·clear hN
  rintro i y σ G T hy ⟨v7,v8,rfl,ss⟩ hT
  obtain⟨ra,hra,rfl⟩:=Y8 hy
  obtain⟨r,hr',hHr⟩:=u0 hF i ra hra
  have hi:i<ts.length:=by rw[←hfal];exact(al.mp hra).1
  have ht:ts[i]?=some ts[i]:=ae hi
  have tm:=bX hi
  generalize ts[i]=t at ht tm
  have er:r=TM.shd n ps L' t:=by
   rw[af,ht]at hr'
   exact(Option.some.inj hr').symm
  subst er
  have tG:=TM.Grp.of ga.tT tm
  have tT:=ga.tT t tm
  obtain⟨ta,hta,hHt⟩:=n6 tma i t ht
  refine⟨T,_,rfl,SqT.of z4,rfl,_,_,rfl,_,_,rfl,rfl,?_⟩
  have s4:=ss.trans (z8 hT (.tup [V.int ((i:Nat):Int),V.ref ra]))
  generalize upd G T (.tup [V.int ((i:Nat):Int),V.ref ra])=G1 at s4 ⊢
  have s04:=s03.trans s4
  have hr1:=s4 _ _ hHr
  refine i4 λN hN=>⟨_,rfl,_,_,_,_,rfl,K6.tup hr1,K8 zp3,_,rfl,g7 ?_⟩
  refine⟨_,rfl,ra,rfl,⟨_,SqT.of hr1⟩,zc5 (SqT.of hr1) ((List.replicate (tI (TM.shd n ps L' t)).length true).map V.bl) (by rw[aa,ck]) (by rw[u6,shl];lia) ?_ ?_⟩
  ·intro j G2 z hz' s2' _ _ _ _
   obtain⟨x,hx,rfl⟩:=F9 hz'
   refine⟨_,rfl,_,rfl,y6.refl _,?_⟩
   rw[af,cF,if_pos (al.mp hz').1]
   rfl
  intro b' G2 _ s5 hb'
  refine⟨b',_,rfl,SqL.of hb',_,rfl,?_⟩
  rw[show(List.replicate (tI (TM.shd n ps L' t)).length true).all id=true from bu.mpr λy hy=>by rw[List.eq_of_mem_replicate hy];rfl]
  refine g7 (hN _ _ ?_)
  clear hN N
  have s05:=s04.trans s5
  have s35:=s4.trans s5
  have sl5:=(s13.trans s35) _ _ hsl
  have L5:=hL.same (s13.trans s35)
  refine⟨_,rfl,_,rfl,sl,rfl,⟨_,SqL.of sl5⟩,L6 (SqL.of sl5) (tI (TM.shd n ps L' t)) (by rw[u6,shl,aa,hsal]) (by rw[aa,hsal];lia) ?_ ?_⟩
  ·intro j G3 y hy s' _ _ _ _
   obtain⟨sa,hsa,rfl⟩:=Y8 hy
   obtain⟨sd,hsd,hHs⟩:=u0 L5 j sa hsa
   have hm:=aq hsd
   have sT:=LT sd hm
   have sm:=TM.shd_in ga.tT gp.tT aL hm tG
   have xT:=sT.beh tT
   obtain⟨o,hoG,ho⟩:=TM.Side.symm gp.tT xT (TM.lsd_side gp.tT xT)
   have s0':=s05.trans s'
   refine⟨_,rfl,_,rfl,_,rfl,_,rfl,ma,_,_,_,rfl,rfl,SqL.of (s0' _ _ hma),l9 (by rw[af,hta];rfl),sa,ta,sd,t,rfl,SqT.of (s' _ _ hHs),SqT.of (s0' _ _ hHt),by rw[sT.length];lia,λx hx=>by rw[tT.length];exact sT.lt hx,λtp G4 htp s7 e7=>?_⟩
   have e7k:G4 tp=some (.tup ((kT (TM.beh sd t)).map kV)):=by rw[zb0];exact e7
   have hix:=bL sm
   have hval:V4 kvs (kT (TM.beh sd t))=some (.int ((L'.idxOf (TM.lsd n (λz=>z∈ps) (TM.beh sd t)):Nat):Int)):=by
    have:=hkv _ _ o (by rw[ae hix,List.getElem_idxOf hix]) ((aI o).mpr hoG)
    rwa [←ho]at this
   refine⟨d,_,rfl,(by rw[←hval];exact V1.t ((s35.trans (s'.trans s7)) _ _ hd3) e7k),s7,?_⟩
   unfold TM.shd
   exact ys2 (by rw[af,hsd];rfl)
  intro dl G3 _ s6 hdl
  refine⟨dl,_,rfl,.inl ⟨SqL.of hdl,λtp htp=>?_⟩⟩
  have s36:=s35.trans (s6.trans (z8 htp (.tup (tI (TM.shd n ps L' t)))))
  refine⟨_,_,ya5 (s36 _ _ hHr),ya5 z4,zc0 _,zc0 _,_,rfl,?_⟩
  rw[zy2,decide_eq_true rfl]
  exact g7 ⟨_,_,rfl,s36⟩
 rintro σ G ⟨v7,v8,rfl,ss⟩
 refine hN _ _ ?_
 clear hN N
 have s0g:=s03.trans ss
 have maG:=s0g _ _ hma
 refine i4 λN hN=>⟨_,rfl,ma,_,rfl,.inl (SqL.of maG),_,_,rfl,rfl,_,rfl,?_⟩
 rw[aa,hmal]
 by_cases h2:1<ts.length
 ·rw[decide_eq_true (by lia)]
  refine Y2 ?_
  obtain⟨t0,t1,P8,e012⟩:∃t0 t1 P8,ts=t0::t1::P8:=by
   match ts,h2 with
   | t0::t1::P8,_=>exact⟨t0,t1,P8,rfl⟩
  have h0:ts[0]?=some t0:=by rw[e012];rfl
  have h1:ts[1]?=some t1:=by rw[e012];rfl
  clear e012 P8
  have m0:=aq h0
  have m1:=aq h1
  have T0:=ga.tT t0 m0
  have T1:=ga.tT t1 m1
  have G0:=TM.Grp.of ga.tT m0
  have G1:=TM.Grp.of ga.tT m1
  obtain⟨a0,ha0,hH0⟩:=n6 tma 0 t0 h0
  obtain⟨a1,ha1,hH1⟩:=n6 tma 1 t1 h1
  have gaG:=ga.same s0g
  obtain⟨dxg,mag,Ag,masg,hg,_⟩:=gaG.at'
  refine i4 λM hM=>⟨_,rfl,g,cG,dxg,_,_,rfl,hg,cg.cls,cg.no "many" (by decide),rfl,_,rfl,ma,_,_,_,rfl,rfl,SqL.of maG,l9 (j:=0) (by rw[af,ha0];rfl),_,rfl,ma,_,_,_,rfl,rfl,SqL.of maG,l9 (j:=1) (by rw[af,ha1];rfl),a0,a1,t0,t1,rfl,SqT.of (s0g _ _ hH0),SqT.of (s0g _ _ hH1),by rw[T0.length];lia,λx hx=>by rw[T1.length];exact T0.lt hx,λbp G2 hbp s2' hb2=>?_⟩
  have s02':=s0g.trans s2'
  refine⟨(by show 1<=ge;lia),λl1 hl1=>?_⟩
  have s3':=z8 hl1 (.lst [V.ref bp])
  have e3':(upd G2 l1 (.lst [V.ref bp])) l1=some (.lst [V.ref bp]):=z4
  generalize upd G2 l1 (.lst [V.ref bp])=G3 at s3' e3' ⊢
  refine⟨_,rfl,l1,ma,_,_,rfl,rfl,SqL.of e3',SqL.of ((s02'.trans s3') _ _ hma),(by rw[aa,hmal];show 1+ts.length<=ge;lia),λl2 hl2=>?_⟩
  have s4':=z8 hl2 (.lst ([V.ref bp]++mas.map V.ref))
  have e4':(upd G3 l2 (.lst ([V.ref bp]++mas.map V.ref))) l2=some (.lst ((bp::mas).map V.ref)):=z4
  generalize upd G3 l2 (.lst ([V.ref bp]++mas.map V.ref))=G4 at s4' e4' ⊢
  have s24:=s3'.trans s4'
  have s04':=s02'.trans s24
  have t4:i5 G4 (bp::mas) (TM.beh t0 t1::ts):=.cons (s24 _ _ hb2) (tma.same s04')
  have bT:=T0.beh T1
  have bG:=TM.Grp.beh (λs hs=>ga.tT s hs) G0 G1
  have iT':∀t∈TM.beh t0 t1::ts,TM.IsT n t:=λt ht=>by
   rcases aw.mp ht with z|z
   ·rw[z];exact bT
   ·exact ga.tT t z
  have gr:∀x,TM.Grp n (λz=>z∈TM.beh t0 t1::ts) x↔TM.Grp n (λz=>z∈ts) x:=λx=>⟨TM.Grp.mono ga.tT λs hs=>by
   rcases aw.mp hs with z|z
   ·rw[z];exact bG
   ·exact TM.Grp.of ga.tT z,TM.Grp.mono iT' λs hs=>TM.Grp.of iT' (av _ hs)⟩
  refine λpg dp hp hdp _=>⟨pg,dp,l2,n,bp::mas,TM.beh t0 t1::ts,rfl,z4,ga.n0,n60,zp0 hp hdp e4',tsU hp hdp t4,by rw[aC];lia,iT',λS3 G5 fr5 gpa _=>⟨rfl,hM _ _ ?_⟩⟩
  clear hM M
  have s5':=yh0 hp hdp fr5
  have s05':=s04'.trans s5'
  have aL2:∀k,k∈L'↔TM.Sd n (TM.beh t0 t1::ts) ps k:=λk=>(aL k).trans (TM.Sd.alike gr k).symm
  refine⟨_,rfl,_,rfl,pg,p,n,TM.beh t0 t1::ts,ps,L',S3,S2,rfl,gpa,gp.same s05',λus ind iT gr'=>few us ind iT λx=>(gr' x).trans (gr x),λq hq=>(gr q).mpr (hin q hq),λk hk=>(aL2 k).mpr hk,l60,λxl xas M G6 _ s6' hxl sM nM aM _ hX=>?_⟩
  obtain rfl:=yi5 sM sL ((eU nM nL).mpr λk=>(aM k).trans (aL2 k).symm)
  have s36:=ss.trans (s2'.trans (s24.trans (s5'.trans s6')))
  have flG:=s36 _ _ hfl
  have FG:=hF.same s36
  obtain⟨b0,hb0,hB0⟩:=n6 FG 0 (TM.shd n ps M t0) (by rw[af,h0];rfl)
  obtain⟨b1,hb1,hB1⟩:=n6 FG 1 (TM.shd n ps M t1) (by rw[af,h1];rfl)
  refine⟨_,rfl,fl,_,_,_,rfl,rfl,SqL.of flG,l9 (j:=0) (by rw[af,hb0];rfl),_,rfl,fl,_,_,_,rfl,rfl,SqL.of flG,l9 (j:=1) (by rw[af,hb1];rfl),b0,b1,_,_,rfl,SqT.of hB0,SqT.of hB1,by rw[shl];lia,λx hx=>by rw[shl];exact shlt t0 G0 x hx,λcp G7 _ s7' hc7=>?_⟩
  refine⟨(by show 1<=ge;lia),λl3 hl3=>?_⟩
  have s8':=z8 hl3 (.lst [V.ref cp])
  have e8':(upd G7 l3 (.lst [V.ref cp])) l3=some (.lst [V.ref cp]):=z4
  generalize upd G7 l3 (.lst [V.ref cp])=G8 at s8' e8' ⊢
  have s68:=s7'.trans s8'
  refine⟨_,rfl,l3,fl,_,_,rfl,rfl,SqL.of e8',SqL.of (s68 _ _ flG),(by rw[aa,hfal];show 1+ts.length<=ge;lia),λl4 hl4=>?_⟩
  have s9':=z8 hl4 (.lst ([V.ref cp]++fas.map V.ref))
  have e9':(upd G8 l4 (.lst ([V.ref cp]++fas.map V.ref))) l4=some (.lst ((cp::fas).map V.ref)):=z4
  generalize upd G8 l4 (.lst ([V.ref cp]++fas.map V.ref))=G9 at s9' e9' ⊢
  have s69:=s68.trans s9'
  have hc9:G9 cp=some (.tup (tI (TM.beh (TM.shd n ps M t0) (TM.shd n ps M t1)))):=(s8'.trans s9') _ _ hc7
  rw[TM.shd_beh ga.tT gp.tT aL G0 G1]at hc9
  have t9:i5 G9 (cp::fas) ((TM.beh t0 t1::ts).map (TM.shd n ps M)):=.cons hc9 (FG.same s69)
  obtain⟨tR,tS⟩:=zk1 ((TM.beh t0 t1::ts).map (TM.shd n ps M))
  refine⟨_,_,.lst (SqL.of (s69 _ _ hxl)) (yg7 (hX.same s69)),.lst (SqL.of e9') (yg7 t9),tS,tS,_,rfl,?_⟩
  rw[tR]
  exact g7 (hN _ _ (q _ (s05'.trans (s6'.trans s69))))
 ·rw[decide_eq_false (by lia)]
  exact g7 (hN _ _ (q _ s0g))
def zw8:Sp:=λvs H Q _=>∃(c:Int) (st:Addr) (n:Nat) (row:List Nat),vs=[.int c,.ref st,.int n]/\H st=some (.lst (tI row))/\TM.IsT n row/\5<=n/\n<=60 /\
 ∀(l:Addr) (as:List Addr) (ts:List (List Nat)) (H':Hp),H l=none->y6 H H'->H' l=some (.lst (as.map V.ref))->i5 H' as ts->ts.length=2->(∀t∈ts,TM.IsT n t)->(∀t∈ts,TM.Only n (row.take 5) t)->(∀x,TM.IsT n x->TM.Only n (row.take 5) x->TM.Grp n (λz=>z∈ts) x)->Q (.ref l) H'
theorem Z2:x9 ["_law_cell_here","_law_strewn","_law_many","_law_turn","_law_swap","_law_k"] ["_law_cell_here","_law_strewn","_law_many"] (z9 W9):=scq
theorem C1 (D:Def K mg "_law_whole_makers" W9 ["_law_cell_here","_law_strewn","_law_many"] f fd)(B:Blt mg):u8 P w K mg base CX0 1 f fd ["_law_cell_here","_law_strewn","_law_many"] zw8:=by
 refine D.F.ok Z2 (λvs H Q E h=>?_) (λcdv A outer s H vs Q E hr h=>?_)
 ·obtain⟨c,st,n,row,rfl,_⟩:=h
  rfl
 obtain⟨c,st,n,row,rfl,hst,rT,h5,n60,q⟩:=h
 have hz:=p8
 apply P9
 ·apply v0
  ·exact DS.mk (u4 (i:=3) Z2.nd rfl (Or.inl rfl) (u5 (V2 rfl) rfl B.list P5 (z0 (u5 S9 rfl B.range O1 (z0 (pv 2) z5)) z5)))
  apply v0
  ·exact DS.mk (u4 (i:=4) Z2.nd rfl (Or.inl rfl) (u5 (V2 rfl) rfl B.list P5 (z0 (u5 S9 rfl B.range O1 (z0 (pv 2) z5)) z5)))
  apply v0
  ·exact DS.mk (U1 PassesOwn.never rfl (K2 rfl B.range (z0 w8 z5)) (o5 (i:=5) Z2.nd rfl (Or.inl rfl))
    (z7 (zh7 (k9 p5 (pv 1) (e9 O4 (e9 O3 (pv 5) w8) w8) (λ_ _=>rfl)) (zq7 (pv 3) (k9 p5 (pv 1) (pv 5) (λ_ _=>rfl)) B2))))
  apply v0
  ·exact DS.mk (zh7 (k9 p5 (pv 1) w8 (λ_ _=>rfl)) (zq7 (pv 4) (k9 p5 (pv 1) w8 (λ_ _=>rfl)) B2))
  apply v0
  ·exact DS.mk (zh7 (k9 p5 (pv 1) w8 (λ_ _=>rfl)) (zq7 (pv 4) (k9 p5 (pv 1) w8 (λ_ _=>rfl)) B2))
  apply v0
  ·exact DS.mk (i7 (m9 zj8 (e9 O4 (pv 0) w8) w8 (l5 _)) (z7 (v1 (c0 (z0 (u5 o7 rfl B.tuple d0 (z0 (pv 4) z5)) (z0 (u5 o7 rfl B.tuple d0 (z0 (pv 3) z5)) z5))))) r6)
  exact⟨z7 (v1 (c0 (z0 (u5 o7 rfl B.tuple d0 (z0 (pv 3) z5)) (z0 (u5 o7 rfl B.tuple d0 (z0 (pv 4) z5)) z5))))⟩
 have rl:=rT.length
 generalize hWd:row.take 5=W at q
 have hW:W.Nodup:=by rw[←hWd];exact rT.nodup.sublist (cz _ _)
 have hlt:∀x∈W,x<n:=λx hx=>rT.lt (bC (by rw[hWd];exact hx))
 have hl5:W.length=5:=by rw[←hWd,bo];lia
 have wat:∀k,k<5->W[k]?=some (W.getD k 0):=λk hk=>by rw[au,ae (by lia)];rfl
 have wlt:∀k,k<5->W.getD k 0<n:=λk hk=>hlt _ (aq (wat k hk))
 have rat:∀k,k<5->atI (tI row) ((k:Nat):Int)=some (V.int ((W.getD k 0:Nat):Int)):=λk hk=>zf5 (by rw[←cq hk,hWd];exact wat k hk)
 have hW2:(W.take 2).Nodup:=hW.sublist (cz _ _)
 have hlt2:∀x∈W.take 2,x<n:=λx hx=>hlt x (bC hx)
 refine i4 λN hN=>⟨_,rfl,_,rfl,λp hp=>⟨p,0,(n:Int),rfl,z4,⟨by lia,by lia,by lia,by lia,by lia⟩,λl hl=>hN _ _ ?_⟩⟩
 clear hN N
 rw[show((n:Int)-0).toNat=n by lia,N5]
 have pl:p≠l:=y0 z4 hl
 have hl0:H l=none:=by
  have:=hl
  rwa [z6 (Ne.symm pl)]at this
 have s1:y6 H (upd (upd H p (.rng 0 (n:Int))) l (.lst (tI (List.range n)))):=p4 (z8 hp _) hl0 _
 have el:(upd (upd H p (.rng 0 (n:Int))) l (.lst (tI (List.range n)))) l=some (.lst (tI (List.range n))):=z4
 generalize upd (upd H p (.rng 0 (n:Int))) l (.lst (tI (List.range n)))=H1 at s1 el ⊢
 clear hp pl p hl
 refine i4 λN hN=>⟨_,rfl,_,rfl,λp hp=>⟨p,0,(n:Int),rfl,z4,⟨by lia,by lia,by lia,by lia,by lia⟩,λe hl=>hN _ _ ?_⟩⟩
 clear hN N
 rw[show((n:Int)-0).toNat=n by lia,N5]
 have pl:p≠e:=y0 z4 hl
 have he1:H1 e=none:=by
  have:=hl
  rwa [z6 (Ne.symm pl)]at this
 have s2':y6 H1 (upd (upd H1 p (.rng 0 (n:Int))) e (.lst (tI (List.range n)))):=p4 (z8 hp _) he1 _
 have ee:(upd (upd H1 p (.rng 0 (n:Int))) e (.lst (tI (List.range n)))) e=some (.lst (tI (List.range n))):=z4
 generalize upd (upd H1 p (.rng 0 (n:Int))) e (.lst (tI (List.range n)))=H2 at s2' ee ⊢
 have el2:=s2' _ _ el
 have he0:H e=none:=s1.free he1
 have le:l≠e:=y0 el he1
 have s2:=s1.trans s2'
 refine i4 λN hN=>⟨5,rfl,by decide,by decide,zg8 (n:=5) (λi σ G=>∃(g:List Nat) (v5:Option V),σ=[some (.int c),some (.ref st),some (.int n),some (.ref l),some (.ref e),v5]/\y6 H G/\G l=some (.lst (tI g))/\G e=some (.lst (tI (List.range n)))/\TM.Sprd n W [1,2,3,4,0] i g)
  ⟨List.range n,none,rfl,s2,el2,ee,TM.Sprd.start⟩ ?_ ?_⟩
 ·clear hN
  rintro i σ G hi ⟨g,v5,rfl,ss,hgl,hge,sp⟩
  rw[show(0:Int)+(i:Int)=((i:Nat):Int) by lia]
  have em:(((i:Nat):Int)+1) % 5=(((i+1) % 5:Nat):Int):=by lia
  have h0:G st=some (.lst (tI row)):=ss _ _ hst
  have hgn:W.getD i 0<g.length:=by rw[sp.len];exact wlt i hi
  refine⟨_,rfl,_,rfl,_,_,rfl,rfl,_,_,rfl,rfl,(by show(0:Int)<5;decide),st,_,_,_,rfl,rfl,SqL.of h0,(by rw[em];exact rat ((i+1) % 5) (Nat.mod_lt _ (by decide))),_,rfl,_,rfl,_,rfl,st,_,_,_,rfl,rfl,SqL.of h0,rat i hi,l,tI g,_,W.getD i 0,rfl,rfl,hgl,by rw[u6];exact B8 hgn,?_⟩
  have stp:=sp.step hW hlt (wat i hi)
  rw[show([1,2,3,4,0]:List Nat).getD i 0=(i+1) % 5 by
   have:i=0∨i=1∨i=2∨i=3∨i=4:=by lia
   rcases this with z|z|z|z|z <;> subst z <;> rfl]at stp
  refine⟨_,_,rfl,p4 ss hl0 _,by rw[z4,zj0],by rw[z6 (Ne.symm le)];exact hge,stp⟩
 rintro σ G ⟨g,v5,rfl,ss,hgl,hge,sp⟩
 refine hN _ _ ?_
 clear hN N
 have h2l:(W.take 2).length=2:=by rw[bo];lia
 have w2:∀k,k<2->(W.take 2)[k]?=some (W.getD k 0):=λk hk=>by rw[cq hk];exact wat k (by lia)
 have g2:∀k,k<2->(W.take 2).getD k 0=W.getD k 0:=λk hk=>TM.getD_of (w2 k hk)
 have h0:G st=some (.lst (tI row)):=ss _ _ hst
 have ste:st≠e:=λz=>by rw[z,he0]at hst;cases hst
 refine i4 λN hN=>⟨_,rfl,st,_,_,_,rfl,rfl,SqL.of h0,rat 1 (by decide),_,rfl,_,rfl,st,_,_,_,rfl,rfl,SqL.of h0,rat 0 (by decide),e,_,_,W.getD 0 0,rfl,rfl,hge,by rw[u6,aS];exact B8 (wlt 0 (by decide)),hN _ _ ?_⟩
 clear hN N
 have sp1:=(TM.Sprd.start (n:=n) (W:=W.take 2) (row:=[1,0])).step hW2 hlt2 (w2 0 (by decide))
 rw[show([1,0]:List Nat).getD 0 0=1 from rfl,g2 1 (by decide)]at sp1
 rw[zj0]
 have ss3:y6 H (upd G e (.lst (tI ((List.range n).set (W.getD 0 0) (W.getD 1 0))))):=p4 ss he0 _
 have hg3:(upd G e (.lst (tI ((List.range n).set (W.getD 0 0) (W.getD 1 0))))) l=some (.lst (tI g)):=by rw[z6 le];exact hgl
 have he3:(upd G e (.lst (tI ((List.range n).set (W.getD 0 0) (W.getD 1 0))))) e=some (.lst (tI ((List.range n).set (W.getD 0 0) (W.getD 1 0)))):=z4
 generalize upd G e (.lst (tI ((List.range n).set (W.getD 0 0) (W.getD 1 0))))=G3 at ss3 hg3 he3 ⊢
 have h03:G3 st=some (.lst (tI row)):=ss3 _ _ hst
 refine i4 λN hN=>⟨_,rfl,st,_,_,_,rfl,rfl,SqL.of h03,rat 0 (by decide),_,rfl,_,rfl,st,_,_,_,rfl,rfl,SqL.of h03,rat 1 (by decide),e,_,_,W.getD 1 0,rfl,rfl,he3,by rw[u6,sp1.len];exact B8 (wlt 1 (by decide)),hN _ _ ?_⟩
 clear hN N
 have sp2:=sp1.step hW2 hlt2 (w2 1 (by decide))
 rw[show([1,0]:List Nat).getD 1 0=0 from rfl,g2 0 (by decide)]at sp2
 rw[zj0]
 generalize ((List.range n).set (W.getD 0 0) (W.getD 1 0)).set (W.getD 1 0) (W.getD 0 0)=ex at sp2 ⊢
 have ss4:y6 H (upd G3 e (.lst (tI ex))):=p4 ss3 he0 _
 have hg4:(upd G3 e (.lst (tI ex))) l=some (.lst (tI g)):=by rw[z6 le];exact hg3
 have he4:(upd G3 e (.lst (tI ex))) e=some (.lst (tI ex)):=z4
 generalize upd G3 e (.lst (tI ex))=G4 at ss4 hg4 he4 ⊢
 obtain⟨⟨gT,gO⟩,⟨eT,eO⟩,all⟩:=TM.whole5 hW hlt hl5 sp sp2
 have fin:∀(a b:List Nat) (x y:Addr) (G6:Hp),(a=g/\b=ex∨a=ex/\b=g)->y6 H G6->G6 x=some (.tup (tI a))->G6 y=some (.tup (tI b))->∀l2,G6 l2=none->Q (.ref l2) (upd G6 l2 (.lst [V.ref x,V.ref y])):=by
  intro a b x y G6 hab s6 hx hy l2 hl2
  have hm:∀t,t∈[a,b]->t=g∨t=ex:=λt ht=>by
   simp only[aw,bH,or_false]at ht
   rcases hab with⟨rfl,rfl⟩|⟨rfl,rfl⟩
   ·exact ht
   ·exact ht.symm
  have hgm:g∈[a,b]/\ex∈[a,b]:=by rcases hab with⟨rfl,rfl⟩|⟨rfl,rfl⟩ <;> simp
  have iT:∀t∈[a,b],TM.IsT n t:=λt ht=>by rcases hm t ht with rfl|rfl <;> assumption
  have oT:∀t∈[a,b],TM.Only n W t:=λt ht=>by rcases hm t ht with rfl|rfl <;> assumption
  have sl:=z8 hl2 (.lst [V.ref x,V.ref y])
  exact q l2 [x,y] [a,b] _ (s6.free hl2) (s6.trans sl) z4 (.cons (sl _ _ hx) (.cons (sl _ _ hy) .nil)) rfl iT oT λz zT zO=>all (λz=>z∈[a,b]) hgm.1 hgm.2 iT oT z zT zO
 refine i4 λN hN=>⟨_,rfl,_,_,rfl,rfl,(by show(0:Int)<2;decide),rfl,_,rfl,?_⟩
 show if decide (V.int (c % 2)=V.int 1)=true then _ else _
 cases decide (V.int (c % 2)=V.int 1) with
 | true =>
  refine Y2 ⟨_,rfl,e,_,rfl,.inl ⟨SqL.of he4,λx hx=>⟨_,rfl,l,_,rfl,.inl ⟨SqL.of (z8 hx _ _ _ hg4),λy hy=>⟨(by show 2<=ge;lia),λl2 hl2=>?_⟩⟩⟩⟩⟩
  exact fin ex g x y _ (.inr ⟨rfl,rfl⟩) (ss4.trans ((z8 hx _).trans (z8 hy _))) (z8 hy _ _ _ z4) z4 l2 hl2
 | false =>
  refine g7 (hN _ _ ⟨_,rfl,l,_,rfl,.inl ⟨SqL.of hg4,λx hx=>⟨_,rfl,e,_,rfl,.inl ⟨SqL.of (z8 hx _ _ _ he4),λy hy=>⟨(by show 2<=ge;lia),λl2 hl2=>?_⟩⟩⟩⟩⟩)
  exact fin g ex x y _ (.inl ⟨rfl,rfl⟩) (ss4.trans ((z8 hx _).trans (z8 hy _))) (z8 hy _ _ _ z4) z4 l2 hl2
theorem zs9 :∀(bs:List (Addr×List Nat)),(∀b∈bs,H b.1=some (.tup (tI b.2)))->i5 H (bs.map Prod.fst) (bs.map Prod.snd)
 | [],_=>.nil
 | b::bs,h=>.cons (h b ax) (zs9 bs λc hc=>h c (av _ hc))
theorem yd4 {fr:List Nat}{te:CT TE}{Q:Addr->Hp->Prop}(Pr:List Nat->Prop)(hz:m<=ge)
  (turn:∀(i:Nat) (H:Hp),i<m->y6 H1 H->∀C₀ s₀ H₀ fp,te C₀ s₀ H₀ fp (some (V.int ((0:Int)+(i:Int)))::fr.map λj=>(σ[j]?).getD none) H λv H4=>y6 H H4/\∃b:Addr×List Nat,v=.ref b.1/\(H4 b.1=some (.tup (tI b.2))/\Pr b.2)/\[b.1].Nodup/\∀a∈[b.1],H a=none/\∃o,H4 a=some o)
  (fin:∀(D:Addr) (H:Hp) (as:List Addr) (us:List (List Nat)),H1 D=none->y6 H1 H->H D=some (.lst (as.map V.ref))->i5 H as us->us.length=m->(∀u∈us,Pr u)->Q D H) :
  ∀D,H1 D=none->∃W:Nat->Nat->St->Hp->Prop,(∃m,W 0 m (P3 1 fr σ) (upd H1 D (.lst [])))/\∀i m' σ' H',W i m' σ' H'->((Itr 0 m).stop i H'/\Q D H')∨((Itr 0 m).go i H'/\∀x H2,(Itr 0 m).yld i H' x H2->∀C₀ s₀ H₀ fp,Q8 0 x σ' H2 λσ3 H3=>∃N:VK,te C₀ s₀ H₀ fp σ3 H3 N/\∀y H4,N y H4 ->
   ∃ys m'',H4 D=some (.lst ys)/\ys.length<ge/\m''<m'/\W (i+1) m'' σ3 (upd H4 D (.lst (ys++[y])))):=by
 refine zn7 (J:=Itr 0 m) (Prod.fst:Addr×List Nat->Addr) (λb=>[b.1]) (λH _ b=>H b.1=some (.tup (tI b.2))/\Pr b.2) (n:=m) hz (λH3 H4 D' xs i b hb hD fr hn'=>⟨fr _ _ (λz=>hn' (by rw[ar.mp z];simp)) hb.1,hb.2⟩) (λ_ _=>ag _) (λi _ hi _=>hi) ?_ ?_
 ·rintro i Hx v Hy hi sx ⟨rfl,rfl⟩
  exact⟨rfl,turn i _ hi sx⟩
 ·intro D' H3 bs hD s3 hl3 hbl hR _ _
  have hR':∀b∈bs,H3 b.1=some (.tup (tI b.2))/\Pr b.2:=λb hb=>by
   obtain⟨i,hi,e⟩:=bg.mp hb
   exact hR i b (by rw[ae hi,e])
  refine fin D' H3 (bs.map Prod.fst) (bs.map Prod.snd) hD s3 (by rw[bx];exact hl3) (zs9 bs λb hb=>(hR' b hb).1) (by rw[aa];exact hbl) λu hu=>?_
  obtain⟨b,hb,rfl⟩:=ay.mp hu
  exact(hR' b hb).2
theorem yx7 (ns:List Int)(lo hi:Option Int):∃ms:List Int,zg7 (ns.map V.int) lo hi=ms.map V.int/\ms.length<=ns.length:=by
 refine⟨(ns.drop (HT.sIx (ns.map V.int).length 0 lo)).take (HT.sIx (ns.map V.int).length (ns.map V.int).length hi-HT.sIx (ns.map V.int).length 0 lo),?_,?_⟩
 ·unfold zg7
  rw[fk,fP]
 ·rw[bo,bP]
  lia
theorem yx8 (row:List Nat)(lo hi:Option Int):∃k m,zg7 (tI row) lo hi=tI ((row.drop k).take m):=by
 refine⟨HT.sIx (tI row).length 0 lo,HT.sIx (tI row).length (tI row).length hi-HT.sIx (tI row).length 0 lo,?_⟩
 unfold zg7 tI
 rw[fk,fP]
theorem zn9 (row:List Nat)(k:Nat):zg7 (tI row) none (some (k:Int))=tI (row.take k):=by
 unfold zg7
 rw[HT.sIx_none,HT.sIx_nat,fM,dP]
 unfold tI
 rw[fk]
 by_cases h:k<=(row.map λ(x:Nat)=>V.int x).length
 ·rw[fK h]
 ·rw[Nat.min_eq_right (by lia),cn,bO (by lia)]
theorem xi6 (h:TM.Few n ts k)(hk:k<=1000000):zt2 n ts:=λus ind iT gr=>by
 obtain⟨L,h1,h2,h3⟩:=TM.indep_many us.length us rfl iT ind
 have h4:=h L h1 λx hx=>(gr x).mp (h2 x hx)
 rw[h3]at h4
 rcases dH us.length 21 with z|z
 ·lia
 ·have:=dU (show 0<2 by decide) z
  lia
theorem u7.list (ga:u7 cG cC cB cS n H g ts S):∃M:List (List Nat),M.Nodup/\∀x,x∈M↔TM.Grp n (λz=>z∈ts) x:=by
 obtain⟨M,h1,h2,h3⟩:=ga.st.inv.ok.all n (ag _) λj _ hj=>ga.st.inv.shut (ga.st.done j hj)
 rw[cX]at h2
 exact⟨M,h1,λx=>(h2 x).trans (ga.grp x)⟩
theorem V0:x9 ["_law_script","_law_many","_law_cell_here","_law_strewn","_law_window","_law_makers","_law_some","_law_every","_law_k","_law_group","_law_part","_law_asked","_law_t"] ["_law_script"] (z9 zj9):=scq
theorem xr3 (D:Def K mg "law" zj9 ["_law_script"] f fd)(B:Blt mg)(cg:n4 K cG X4)(KG:zt3 P w K mg base 7 cG "Group" ["self","many","makers"] (B3 cG cC cB cS))(MH:Y5 P w K mg base 4 cG "has" ["self","thing"] (xg0 cG cC cB cS))(KC:o9 P w K mg base 1 "_law_cell" ["_law_script","_law_k"] (yh6 K))(KO:o9 P w K mg base 1 "_law_order" ["_law_number","_law_many"] zi8)(KM:o9 P w K mg base 2 "_law_maker" ["_law_cell_here","_law_window","_law_many"] zw6)(KA:o9 P w K mg base 2 "_law_all" ["_law_makers","_law_many"] yr2)
  (KW:o9 P w K mg base 1 "_law_whole_makers" ["_law_cell_here","_law_strewn","_law_many"] zw8) (KGd:o9 P w K mg base 14 "_law_good" ["_law_group","_law_part","_law_makers","_law_inner"] (yh8 cG cC cB cS)) (KF:o9 P w K mg base 13 "_law_refused" ["_law_group","_law_part"] (B4 cG cC cB cS)):u8 P w K mg base CX0 15 f fd ["_law_script"] (yr5 K):=by
 refine D.F.ok V0 (λvs H Q E h=>?_) (λcdv A outer s H vs Q E hr h=>?_)
 ·obtain⟨a,ns,rfl,_⟩:=h
  rfl
 obtain⟨sa,ns,rfl,hS,h63,hbits,q⟩:=h
 have hz:=p8
 apply P9
 ·apply v0
  ·exact DS.mk (u4 (i:=1) V0.nd rfl (Or.inr rfl) (e9 O3 w8 (e9 O4 (p6 KC hr rfl (z0 (pv 0) (z0 w8 z5))) w8)))
  apply v0
  ·exact DS.mk (u4 (i:=2) V0.nd rfl (Or.inl rfl) (p6 KC hr rfl (z0 (pv 0) (z0 w8 z5))))
  apply v0
  ·exact DS.mk (u4 (i:=3) V0.nd rfl (Or.inl rfl) (p6 KO hr rfl (z0 (p6 KC hr rfl (z0 (pv 0) (z0 w8 z5))) (z0 (pv 1) z5))))
  apply v0
  ·exact DS.mk (u4 (i:=4) V0.nd rfl (Or.inr rfl) (O7 F7 (pv 3) A1 (N9 (e9 O3 w8 (e9 O4 (pv 2) w8)))))
  apply v0
  ·exact DS.mk (i7 (m9 yq1 (pv 1) w8 (l5 _)) (z7 (u4 (i:=4) V0.nd rfl (Or.inr rfl) (O7 F7 (pv 3) A1 (N9 (e9 O3 w8 (e9 O4 (pv 2) w8)))))) r6)
  apply v0
  ·exact DS.mk (yg3 (i:=5) [4,1,0] ["_law_k","_law_window","_law_many","_law_script"] V0.nd rfl rfl rfl (K2 rfl B.range (z0 (e9 O4 (e9 zz7 (pv 2) w8) w8) z5)) (λ_ _ _ _=>p6 KM hr rfl (z0 (p6 KC hr rfl (z0 (pv 3) (z0 (e9 O3 w8 (pv 0)) z5))) (z0 (pv 1) (z0 (pv 2) z5)))))
  apply v0
  ·exact DS.mk (u4 (i:=6) V0.nd rfl (Or.inl rfl) (c0 z5))
  apply v0
  ·exact DS.mk (u4 (i:=7) V0.nd rfl (Or.inl rfl) (p6 KA hr rfl (z0 (pv 5) (z0 (pv 1) z5))))
  apply v0
  ·exact DS.mk (U1 PassesOwn.never rfl (K2 rfl B.range (z0 (e9 O4 (p6 KC hr rfl (z0 (pv 0) (z0 w8 z5))) w8) z5)) (o5 (i:=8) V0.nd rfl (Or.inl rfl))
    (z7 (i6 (E4 PySem.F.plainAttrs_list PySem.F.slot_list_append PySem.F.type_list_append X2 (pv 6) (z0 (k9 p5 (pv 7) (e9 O4 (p6 KC hr rfl (z0 (pv 0) (z0 (e9 O3 w8 (pv 8)) z5))) (v9 q9 rfl B.len Y1 (z0 (pv 7) z5))) (λ_ _=>rfl)) z5)))))
  apply v0
  ·exact DS.mk (i7 (PW.pt (ym5 (m9 zj8 (e9 O4 (e9 zz7 (pv 2) w8) w8) w8 (l5 _)) (ym5 (m9 yq1 (pv 1) w8 (l5 _)) (yq8 (m9 yg0 (pv 1) w8 (l5 _))))))
    (y4 (u4 (i:=5) V0.nd rfl (Or.inl rfl) (p6 KW hr rfl (z0 (e9 zz7 (pv 2) w8) (z0 (pv 3) (z0 (pv 1) z5)))))
    (z7 (u4 (i:=6) V0.nd rfl (Or.inl rfl) (c0 (z0 (p6 KM hr rfl (z0 (k9 p5 (c0 (z0 w8 (z0 w8 (z0 w8 (z0 w8 z5))))) (e9 O4 (p6 KC hr rfl (z0 (pv 0) (z0 w8 z5))) w8) (λ_ _=>rfl)) (z0 (O7 F7 (pv 3) A1 (N9 w8)) (z0 (pv 1) z5)))) z5))))) r6)
  apply v0
  ·exact DS.mk (u4 (i:=9) V0.nd rfl (Or.inl rfl) (O6 KG hr rfl (z0 (pv 1) (z0 (pv 5) z5))))
  apply v0
  ·exact DS.mk (u4 (i:=10) V0.nd rfl (Or.inl rfl) (O6 KG hr rfl (z0 (pv 1) (z0 (pv 6) z5))))
  apply v0
  ·exact DS.mk (i7 (U2 (W7 (p6 KGd hr rfl (z0 (pv 9) (z0 (pv 10) (z0 (pv 5) (z0 (p6 KA hr rfl (z0 (pv 6) (z0 (pv 1) z5))) z5))))))) (z7 (v1 W4)) r6)
  apply v0
  ·exact DS.mk (U1 PassesOwn.never rfl (W0 (O7 F7 (pv 0) (N9 w8) (N9 w8))) (o5 (i:=11) V0.nd rfl (Or.inl rfl))
    (y4 (u4 (i:=12) V0.nd rfl (Or.inl rfl) (p6 KM hr rfl (z0 (pv 11) (z0 (O7 F7 (pv 3) A1 (N9 (e9 O3 (v9 q9 rfl B.len Y1 (z0 (pv 4) z5)) w8))) (z0 (pv 1) z5)))))
    (z7 (i7 (PW.pt (ym5 (U2 (W7 (Y7 cg.cls MH hr (pv 9) (z0 (pv 12) z5)))) (yq8 (m9 (ym1 hr.units) (p6 KF hr rfl (z0 (pv 9) (z0 (O6 KG hr rfl (z0 (pv 1) (z0 (e9 zz6 (pv 6) (c0 (z0 (pv 12) z5))) z5))) z5))) (c0 (z0 W4 (z0 W4 z5))) (l5 _))))) (z7 (v1 W4)) r6))))
  exact⟨z7 (v1 (B9 (ym0 hr.units) (p6 KF hr rfl (z0 (pv 9) (z0 (O6 KG hr rfl (z0 (e9 O3 w8 (e9 O4 (pv 1) w8)) (z0 (c0 z5) z5))) z5))) (c0 (z0 W4 (z0 W4 z5))) (l5 _)))⟩
 obtain⟨n,en,hn1,hn⟩:=xj5 (ns.getD 0 0)
 refine i4 λN hN=>⟨_,rfl,sa,ns,0,rfl,hS,_,_,rfl,rfl,(by show(0:Int)<60;decide),_,_,rfl,rfl,hN _ _ ?_⟩
 clear hN N
 dsimp only
 rw[en]
 refine i4 λN hN=>⟨_,rfl,sa,ns,2,rfl,hS,hN _ _ ?_⟩
 clear hN N
 generalize ns.getD 2 0=c
 refine i4 λN hN=>⟨_,rfl,sa,ns,1,rfl,hS,_,rfl,_,n,rfl,by lia,λst H1 row _ s1 hT _ hst=>hN _ _ ?_⟩
 clear hN N
 have hS1:=s1.seq hS
 have hTl:=hT.length
 have tk:∀k m,((row.drop k).take m).Nodup/\(∀x∈(row.drop k).take m,x<n)/\((row.drop k).take m).length<=60:=λk m=>⟨hT.nodup.sublist ((cz _ _).trans (List.drop_sublist _ _)),λx hx=>hT.lt (fy (bC hx)),by rw[bo,bP];lia⟩
 have w1:∀k,(row.take k).Nodup:=λk=>hT.nodup.sublist (cz _ _)
 have w2:∀k,∀x∈row.take k,x<n:=λk x hx=>hT.lt (bC hx)
 have w3:∀k,(row.take k).length<=k:=λk=>by rw[bo];lia
 obtain⟨f0,ef0,hf0⟩:∃f0:Nat,1+c % 3=(f0:Int)/\f0<=4:=⟨(1+c % 3).toNat,by lia,by lia⟩
 obtain⟨f1,ef1,hf1⟩:∃f1:Nat,1+c % 4=(f1:Int)/\f1<=4:=⟨(1+c % 4).toNat,by lia,by lia⟩
 refine i4 λN hN=>⟨_,rfl,_,rfl,_,_,rfl,rfl,(by show(0:Int)<3;decide),_,_,rfl,rfl,_,rfl,st,_,rfl,SqL.of hst,λwa0 hwa0=>hN _ _ ?_⟩
 clear hN N
 rw[ef0,zn9]
 have s2:=z8 hwa0 (.lst (tI (row.take f0)))
 have e2:(upd H1 wa0 (.lst (tI (row.take f0)))) wa0=some (.lst (tI (row.take f0))):=z4
 generalize upd H1 wa0 (.lst (tI (row.take f0)))=H2 at s2 e2 ⊢
 refine i4 λN hN=>?_
 have key:∀(fi:Nat) (wa:Addr) (H3:Hp),fi<=4->y6 H1 H3->H3 wa=some (.lst (tI (row.take fi)))->N [some (.ref sa),some (.int n),some (.int c),some (.ref st),some (.ref wa),none,none,none,none,none,none,none,none] H3:=by
  intro fi wa H3 hfi s3 hwa
  refine hN _ _ ?_
  clear hN N ef0 hf0 ef1 hf1 f1
  obtain⟨ct,ect,hct⟩:∃ct:Nat,c / 12 % 4=(ct:Int)/\ct<=3:=⟨(c / 12 % 4).toNat,by lia,by lia⟩
  refine i4 λN hN=>⟨_,rfl,_,_,rfl,rfl,⟨by decide,by decide⟩,_,_,rfl,rfl,(by show(0:Int)<4;decide),_,rfl,(by show -(2 ^ 62)<=c / 12 % 4;lia),(by show c / 12 % 4<2 ^ 62;lia),yd4 (m:=(c / 12 % 4).toNat) (λt=>TM.IsT n t/\TM.Only n (row.take fi) t) (by lia) ?_ ?_⟩
  ·intro i G hi sG _ _ _ _
   rw[show(0:Int)+(i:Int)=(i:Int) by lia]
   refine⟨_,rfl,_,rfl,_,_,rfl,rfl,sa,ns,3+i,?_,(s3.trans sG).seq hS1,_,rfl,_,rfl,_,wa,n,row.take fi,rfl,sG _ _ hwa,w1 fi,w2 fi,by have:=w3 fi;lia,hn,λr G5 t hr0 s5 tT tO hr5=>⟨s5,(r,t),rfl,⟨hr5,tT,tO⟩,by simp,λb hb=>?_⟩⟩
   ·rw[show((3+i:Nat):Int)=3+(i:Int) by lia]
    rfl
   ·rw[ar.mp hb]
    exact⟨hr0,_,hr5⟩
  intro mk H4 as ts hmk0 s4 hmk hts htl hP
  refine hN _ _ ?_
  clear hN N
  have iT:∀t∈ts,TM.IsT n t:=λt ht=>(hP t ht).1
  have oT:∀t∈ts,TM.Only n (row.take fi) t:=λt ht=>(hP t ht).2
  have s14:=s3.trans s4
  refine i4 λN hN=>⟨aP _,λso hso=>hN _ _ ?_⟩
  clear hN N
  have s5:=z8 hso (.lst [])
  have e5:(upd H4 so (.lst [])) so=some (.lst (([]:List Addr).map V.ref)):=z4
  generalize upd H4 so (.lst [])=H5 at s5 e5 ⊢
  have s15:=s14.trans s5
  have hso1:H1 so=none:=s14.free hso
  have mso:mk≠so:=y0 hmk hso
  have few:=TM.few_sym iT oT (w1 fi) (w2 fi)
  have fle:TM.fac (row.take fi).length<=720:=TM.fac_le (by have:=w3 fi;lia)
  refine i4 λN hN=>⟨_,rfl,_,rfl,mk,n,as,ts,rfl,s5 _ _ hmk,hts.same s5,iT,λL h1 h2=>aO (few L h1 h2) (by lia),by lia,hn,λev eas E H6 hev s6 hev6 hE _ hEn hEs hEG=>hN _ _ ?_⟩
  clear hN N
  have hE0:0<E.length:=ft ((hEG _).mpr .one)
  have heal:eas.length=E.length:=Paired.length hE
  have s56:=s5.trans s6
  have s16:=s15.trans s6
  have eso:ev≠so:=λz=>by rw[z,e5]at hev;cases hev
  obtain⟨c6,ec6,hc6⟩:∃c6:Nat,ns.getD 6 0 % 3=(c6:Int)/\c6<=2:=⟨(ns.getD 6 0 % 3).toNat,by lia,by lia⟩
  refine i4 λN hN=>⟨_,rfl,sa,ns,6,rfl,s16.seq hS1,_,_,rfl,rfl,(by show(0:Int)<3;decide),_,rfl,(by show -(2 ^ 62)<=ns.getD 6 0 % 3;lia),(by show ns.getD 6 0 % 3<2 ^ 62;lia),zg8 (n:=(ns.getD 6 0 % 3).toNat) (λi σ G=>∃(bs:List Addr) (us:List (List Nat)) (v8:Option V),σ=[some (.ref sa),some (.int n),some (.int c),some (.ref st),some (.ref wa),some (.ref mk),some (.ref so),some (.ref ev),v8,none,none,none,none]/\y6 H1 G/\G mk=some (.lst (as.map V.ref))/\i5 G as ts/\G ev=some (.lst (eas.map V.ref))/\i5 G eas E/\G wa=some (.lst (tI (row.take fi)))/\G so=some (.lst (bs.map V.ref))/\i5 G bs us/\us.length=i/\∀t∈us,t∈E)
   ⟨[],[],none,rfl,s16,s56 _ _ hmk,hts.same s56,hev6,hE,(s4.trans s56) _ _ hwa,s6 _ _ e5,.nil,rfl,λt ht=>(by cases ht)⟩ ?_ ?_⟩
  ·clear hN
   rintro i σ G hi ⟨bs,us,v8,rfl,sg,hm,ta,hv,tE,hw,ho,tb,lb,uE⟩
   have hi':i<c6:=by lia
   rw[show(0:Int)+(i:Int)=((i:Nat):Int) by lia]
   have e7i:(7:Int)+(i:Int)=((7+i:Nat):Int):=by lia
   obtain⟨d,ed,hd⟩:∃d:Nat,ns.getD (7+i) 0 % ((eas.map V.ref).length:Int)=(d:Int)/\d<E.length:=by
    rw[aa,heal]
    have h1:=cP (ns.getD (7+i) 0) (show((E.length:Nat):Int)≠0 by lia)
    have h2:=dI (ns.getD (7+i) 0) (show(0:Int)<((E.length:Nat):Int) by lia)
    exact⟨(ns.getD (7+i) 0 % ((E.length:Nat):Int)).toNat,by lia,by lia⟩
   obtain⟨b,hb1,hb2⟩:=n6 tE d _ (ae hd)
   refine⟨_,rfl,.inl ⟨rfl,_,SqL.of ho⟩,_,rfl,_,rfl,_,rfl,_,_,rfl,rfl,sa,ns,7+i,(by show [V.ref sa,V.int ((7:Int)+(i:Int))]=_;rw[e7i]),sg.seq hS1,_,rfl,ev,_,rfl,.inl (SqL.of hv),_,_,rfl,rfl,(by show(0:Int)<((eas.map V.ref).length:Int);rw[aa,heal];lia),ev,_,_,V.ref b,rfl,rfl,SqL.of hv,(by rw[ed];exact l9 (by rw[af,hb1];rfl)),so,_,_,rfl,rfl,ho,by rw[aa,Paired.length tb,lb];exact zi6 (by lia),?_⟩
   have nt:∀xs,G so≠some (.tup xs):=λxs z=>by rw[ho]at z;cases z
   have wso:wa≠so:=y0 (s4 _ _ hwa) hso
   refine⟨bs++[b],us++[E[d]],_,rfl,p4 sg hso1 _,by rw[z6 mso];exact hm,ta.upd nt,by rw[z6 eso];exact hv,tE.upd nt,by rw[z6 wso];exact hw,by rw[z4,aH];rfl,Paired.snoc (tb.upd nt) (by rw[z6 (λz=>by subst z;rw[ho]at hb2;cases hb2)];exact hb2),by rw[ah,lb];rfl,λu hu=>?_⟩
   rcases aF.mp hu with h|h
   ·exact uE u h
   ·rw[ar.mp h];exact bX hd
  rintro σ H7 ⟨bs,us,v8,rfl,s17,hm,ta,hv,tE,hw,ho,tb,lb,uE⟩
  refine hN _ _ ?_
  clear hN N
  refine i4 λN hN=>?_
  have fin:∀(W:List Nat) (mk so:Addr) (as bs:List Addr) (ts us:List (List Nat)) (G:Hp),W.Nodup->(∀x∈W,x<n)->W.length<=5->y6 H1 G->G mk=some (.lst (as.map V.ref))->i5 G as ts->ts.length<=3->(∀t∈ts,TM.IsT n t)->(∀t∈ts,TM.Only n W t)->G wa=some (.lst (tI (row.take fi)))->G so=some (.lst (bs.map V.ref))->i5 G bs us->us.length<=2->(∀t∈us,TM.Grp n (λz=>z∈ts) t)->N [some (.ref sa),some (.int n),some (.int c),some (.ref st),some (.ref wa),some (.ref mk),some (.ref so),some (.ref ev),v8,none,none,none,none] G:=by
   clear hm ta hv tE hw ho tb lb uE bs us hP iT oT few fle hEn hEs hEG hE0 heal eso mso hso1 e5 hso hmk hts htl hmk0 s4 s14 s5 s15 s6 hev6 hE s56 s16 s17 hev
   intro W mk so as bs ts us G hWn hWl hW5 sG hm ta tl iT oT hw ho tb ul uG
   refine hN _ _ ?_
   clear hN N
   have few:=TM.few_sym iT oT hWn hWl
   have fle:TM.fac W.length<=720:=TM.fac_le (by lia)
   have fewI:zt2 n ts:=xi6 few (by lia)
   have uT:∀t∈us,TM.IsT n t:=λt ht=>(uG t ht).isT iT
   refine i4 λN hN=>⟨_,rfl,_,rfl,λg dg hg hdg _=>⟨g,dg,mk,n,as,ts,rfl,z4,by lia,hn,zp0 hg hdg hm,tsU hg hdg ta,by lia,iT,λS G1 fr1 ga _=>⟨rfl,hN _ _ ?_⟩⟩⟩
   clear hN N
   have sg1:=yh0 hg hdg fr1
   refine i4 λN hN=>⟨_,rfl,_,rfl,λp dp hp hdp _=>⟨p,dp,so,n,bs,us,rfl,z4,by lia,hn,zp0 hp hdp (sg1 _ _ ho),tsU hp hdp (tb.same sg1),by lia,uT,λS2 G2 fr2 gp _=>⟨rfl,hN _ _ ?_⟩⟩⟩
   clear hN N
   have sg2:=yh0 hp hdp fr2
   have sgg:=sg1.trans sg2
   have ga2:=ga.same sg2
   obtain⟨E2,nE2,aE2⟩:=ga.list
   have lE2:=few E2 nE2 λx hx=>(aE2 x).mp hx
   have fewU:TM.Few n us 360360:=λL h1 h2=>aO (few L h1 λx hx=>TM.Grp.mono iT (λs hs=>uG s hs) (h2 x hx)) (by lia)
   refine i4 λN hN=>⟨_,rfl,_,rfl,_,rfl,_,rfl,_,rfl,so,n,bs,us,rfl,sgg _ _ ho,tb.same sgg,uT,fewU,by lia,hn,λia ias I G3 _ s3' hia hI _ hIn _ hIG=>?_⟩
   have lI:I.length<=720:=aO (few I hIn λx hx=>TM.Grp.mono iT (λs hs=>uG s hs) ((hIG x).mp hx)) fle
   have sg3:=sgg.trans s3'
   refine⟨g,p,mk,ia,n,ts,us,I,E2,S,S2,as,ias,rfl,ga2.same s3',gp.same s3',sg3 _ _ hm,ta.same sg3,hia,hI,uG,hIG,fewI,λx hx=>(aE2 x).mpr hx,by lia,by lia,by lia,λG4 s4'=>⟨_,rfl,g7 (hN _ _ ?_)⟩⟩
   clear hN N
   have sg4:=sg3.trans s4'
   have ga4:=ga2.same (s3'.trans s4')
   have ho4:=sg4 _ _ ho
   have tb4:=tb.same sg4
   have hw4:=sg4 _ _ hw
   have s14:=sG.trans sg4
   have hbl:bs.length=us.length:=Paired.length tb4
   obtain⟨ms,ems,hmsl⟩:=yx7 ns (some 9) (some 14)
   refine i4 λN hN=>⟨_,rfl,_,rfl,_,rfl,sa,_,rfl,s14.seq hS1,λl2 hl2=>?_⟩
   rw[ems]
   have s5':=z8 hl2 (.lst (ms.map V.int))
   have e5':(upd G4 l2 (.lst (ms.map V.int))) l2=some (.lst (ms.map V.int)):=z4
   generalize upd G4 l2 (.lst (ms.map V.int))=G5 at s5' e5' ⊢
   refine⟨l2,rfl,⟨_,SqL.of e5'⟩,L8 (D:=⟨_,_,λ_ _=>True,λ_ _=>True⟩) (K:=K) (a:=l2) (xs:=ms.map V.int) (λi σ G6=>∃v11 v12:Option V,σ=[some (.ref sa),some (.int n),some (.int c),some (.ref st),some (.ref wa),some (.ref mk),some (.ref so),some (.ref ev),v8,some (.ref g),some (.ref p),v11,v12]/\y6 G5 G6)
    ⟨none,none,rfl,y6.refl _⟩ (λi σ G6 _ ⟨_,_,_,s'⟩=>SqL.of (s' _ _ e5')) ?_ ?_⟩
   ·clear hN
    rintro i y σ G6 hi ⟨v11,v12,rfl,s6'⟩
    obtain⟨z,_,rfl⟩:=xi3 hi
    have s46:=s5'.trans s6'
    have hw6:=s46 _ _ hw4
    obtain⟨k,m,ekm⟩:=yx8 row none (some (((tI (row.take fi)).length:Int)+1))
    obtain⟨c1,c2,c3⟩:=tk k m
    refine i4 λN hN=>⟨_,rfl,_,rfl,_,rfl,wa,_,rfl,.inl (SqL.of hw6),_,_,rfl,rfl,_,rfl,st,_,rfl,SqL.of ((s14.trans s46) _ _ hst),λsl hsl=>?_⟩
    dsimp only at hsl ⊢
    rw[ekm]
    have s7':=z8 hsl (.lst (tI ((row.drop k).take m)))
    have e7':(upd G6 sl (.lst (tI ((row.drop k).take m)))) sl=some (.lst (tI ((row.drop k).take m))):=z4
    generalize upd G6 sl (.lst (tI ((row.drop k).take m)))=G7 at s7' e7' ⊢
    refine⟨_,rfl,_,sl,n,(row.drop k).take m,rfl,e7',c1,c2,c3,hn,λr G8 t _ s8' tT _ ht8=>hN _ _ ?_⟩
    clear hN N
    have s68:=s7'.trans s8'
    have s48:=s46.trans s68
    have ga8:=ga4.same s48
    obtain⟨dxg,mag,Ag,masg,hg8,_⟩:=ga8.at'
    refine⟨_,rfl,g,dxg,_,rfl,hg8,rfl,_,rfl,g,r,n,ts,S,t,rfl,ga8,ht8,tT,λb G9 s9' hb=>⟨_,rfl,?_⟩⟩
    have s49:=s48.trans s9'
    have fin2:∀G',y6 G9 G'->∃v11 v12:Option V,[some (.ref sa),some (.int n),some (.int c),some (.ref st),some (.ref wa),some (.ref mk),some (.ref so),some (.ref ev),v8,some (.ref g),some (.ref p),some (.int z),some (.ref r)]=[some (.ref sa),some (.int n),some (.int c),some (.ref st),some (.ref wa),some (.ref mk),some (.ref so),some (.ref ev),v8,some (.ref g),some (.ref p),v11,v12]/\y6 G5 G':=λG' s'=>⟨_,_,rfl,s6'.trans (s68.trans (s9'.trans s'))⟩
    cases b with
    | true=>exact g7 (fin2 G9 (y6.refl _))
    | false =>
     have tnG:¬TM.Grp n (λz=>z∈ts) t:=λhG=>by have:=hb.mpr hG;cases this
     refine Y2 ⟨_,rfl,_,rfl,_,rfl,_,rfl,(by show 1<=ge;lia),λl3 hl3=>?_⟩
     have sa':=z8 hl3 (.lst [V.ref r])
     have ea':(upd G9 l3 (.lst [V.ref r])) l3=some (.lst [V.ref r]):=z4
     generalize upd G9 l3 (.lst [V.ref r])=Ga at sa' ea' ⊢
     refine⟨so,l3,_,_,rfl,rfl,SqL.of ((s49.trans sa') _ _ ho4),SqL.of ea',(by rw[aa,hbl];show us.length+1<=ge;lia),λl4 hl4=>?_⟩
     have sb':=z8 hl4 (.lst (bs.map V.ref++[V.ref r]))
     have eb':(upd Ga l4 (.lst (bs.map V.ref++[V.ref r]))) l4=some (.lst ((bs++[r]).map V.ref)):=by rw[z4,aH];rfl
     generalize upd Ga l4 (.lst (bs.map V.ref++[V.ref r]))=Gb at sb' eb' ⊢
     have sab:=sa'.trans sb'
     have tbb:i5 Gb (bs++[r]) (us++[t]):=Paired.snoc (tb4.same (s49.trans sab)) ((s9'.trans sab) _ _ ht8)
     have uT2:∀x∈us++[t],TM.IsT n x:=λx hx=>by
      rcases aF.mp hx with h|h
      ·exact uT x h
      ·rw[ar.mp h];exact tT
     refine λp2 dp2 hp2 hdp2 _=>⟨p2,dp2,l4,n,bs++[r],us++[t],rfl,z4,by lia,hn,zp0 hp2 hdp2 eb',tsU hp2 hdp2 tbb,by rw[ah];show us.length+1<=200;lia,uT2,λS3 Gc frc gp2 _=>⟨rfl,?_⟩⟩
     have sc':=yh0 hp2 hdp2 frc
     have s4c:=s49.trans (sab.trans sc')
     refine⟨g,p2,false,rfl,⟨n,n,ts,us++[t],S,S3,ga4.same s4c,gp2,fewI,λz=>(by cases z),λ_ hp=>tnG (hp.2 t (by simp))⟩,λkr Gd sd' hkr=>⟨(by show 2<=ge;lia),λl hl=>?_⟩⟩
     refine⟨.list [.bool false,.bool true],.list [.bool false,.bool true],.lst (SqL.of (z8 hl _ _ _ hkr)) (.cons (.bl _) (.cons (.bl _) .nil)),.lst (SqL.of z4) (.cons (.bl _) (.cons (.bl _) .nil)),by decide +kernel,by decide +kernel,?_⟩
     refine⟨_,rfl,?_⟩
     rw[show PyData.eqv (.list [.bool false,.bool true]) (.list [.bool false,.bool true])=true by decide +kernel]
     exact g7 (fin2 _ (sab.trans (sc'.trans (sd'.trans (z8 hl _)))))
   rintro σ G6 ⟨v11,v12,rfl,s6'⟩
   refine hN _ _ ?_
   clear hN N
   have s46:=s5'.trans s6'
   refine⟨_,rfl,_,rfl,_,_,rfl,rfl,(by show(0:Int)<60;decide),_,_,rfl,rfl,aP _,λl4 hl4=>?_⟩
   have s7':=z8 hl4 (.lst [])
   have e7':(upd G6 l4 (.lst [])) l4=some (.lst (([]:List Addr).map V.ref)):=z4
   generalize upd G6 l4 (.lst [])=G7 at s7' e7' ⊢
   obtain⟨n',en'⟩:∃n',n'=1+n % 60:=⟨_,rfl⟩
   have en2:((n':Nat):Int)=1+(n:Int) % 60:=by lia
   refine λp2 dp2 hp2 hdp2 _=>⟨p2,dp2,l4,n',[],[],(by rw[en2];rfl),z4,by lia,by lia,zp0 hp2 hdp2 e7',.nil,aP _,λt ht=>(by cases ht),λS3 G8 fr8 gp2 _=>⟨rfl,?_⟩⟩
   have s8':=yh0 hp2 hdp2 fr8
   refine⟨g,p2,false,rfl,⟨n',n,ts,[],S,S3,ga4.same (s46.trans (s7'.trans s8')),gp2,fewI,λz=>(by cases z),λ_ hp=>absurd hp.1 (by lia)⟩,λr G9 s9' hr9=>⟨(by show 2<=ge;lia),λl hl=>?_⟩⟩
   refine⟨.list [.bool false,.bool true],.list [.bool false,.bool true],.lst (SqL.of (z8 hl _ _ _ hr9)) (.cons (.bl _) (.cons (.bl _) .nil)),.lst (SqL.of z4) (.cons (.bl _) (.cons (.bl _) .nil)),by decide +kernel,by decide +kernel,?_⟩
   rw[show PyData.eqv (.list [.bool false,.bool true]) (.list [.bool false,.bool true])=true by decide +kernel]
   exact q _
  have plain:=fin (row.take fi) mk so as bs ts us H7 (w1 fi) (w2 fi) (by have:=w3 fi;lia) s17 hm ta (by lia) iT oT hw ho tb (by lia) λt ht=>(hEG t).mp (uE t ht)
  refine⟨_,rfl,_,_,rfl,rfl,⟨by decide,by decide⟩,_,_,rfl,rfl,(by show(0:Int)<8;decide),rfl,_,rfl,ye7 (λ_=>?_) (λ_=>plain)⟩
  refine⟨_,rfl,_,_,rfl,rfl,_,rfl,ye7 (λ_=>?_) (λ_=>plain)⟩
  refine⟨_,rfl,_,_,rfl,rfl,_,rfl,ye7 (λh4=>?_) (λ_=>plain)⟩
  have h4:=of_decide_eq_true h4
  have h5:5<=n:=by lia
  refine i4 λM hM=>⟨_,rfl,_,_,rfl,rfl,⟨by decide,by decide⟩,_,rfl,_,rfl,_,st,n,row,rfl,s17 _ _ hst,hT,h5,hn,λml mas ws G1 _ s1' hml hmas hwl wT wO wG=>hM _ _ ?_⟩
  clear hM M
  obtain⟨m4,em4,hm4⟩:∃m4:Nat,ns.getD 6 0 % 4=(m4:Int)/\m4<4:=⟨(ns.getD 6 0 % 4).toNat,by lia,by lia⟩
  obtain⟨x4,ex4⟩:∃x4:Int,[V.int 0,V.int 1,V.int 6,V.int 24][m4]?=some (.int x4):=by
   match m4,hm4 with
   | 0,_=>exact⟨0,rfl⟩
   | 1,_=>exact⟨1,rfl⟩
   | 2,_=>exact⟨6,rfl⟩
   | 3,_=>exact⟨24,rfl⟩
  refine⟨(by show 4<=ge;lia),λtl htl=>?_⟩
  have s2':=z8 htl (.lst [V.int 0,V.int 1,V.int 6,V.int 24])
  have e2':(upd G1 tl (.lst [V.int 0,V.int 1,V.int 6,V.int 24])) tl=some (.lst [V.int 0,V.int 1,V.int 6,V.int 24]):=z4
  generalize upd G1 tl (.lst [V.int 0,V.int 1,V.int 6,V.int 24])=G2 at s2' e2' ⊢
  have s172:=s17.trans (s1'.trans s2')
  refine⟨_,rfl,sa,ns,6,rfl,s172.seq hS1,_,_,rfl,rfl,(by show(0:Int)<4;decide),tl,_,_,.int x4,rfl,rfl,SqL.of e2',(by rw[em4];exact l9 ex4),_,rfl,_,rfl,st,_,rfl,SqL.of (s172 _ _ hst),λsl hsl=>?_⟩
  dsimp only at hsl ⊢
  rw[show zg7 (tI row) none (some 5)=tI (row.take 5) from zn9 row 5]
  have s3':=z8 hsl (.lst (tI (row.take 5)))
  have e3':(upd G2 sl (.lst (tI (row.take 5)))) sl=some (.lst (tI (row.take 5))):=z4
  generalize upd G2 sl (.lst (tI (row.take 5)))=G3 at s3' e3' ⊢
  refine⟨_,rfl,x4,sl,n,row.take 5,rfl,e3',w1 5,w2 5,by have:=w3 5;lia,hn,λr G4 t _ s4' tT tO ht4=>⟨(by show 1<=ge;lia),λso2 hso2=>?_⟩⟩
  have s5':=z8 hso2 (.lst [V.ref r])
  have s15':=s2'.trans (s3'.trans (s4'.trans s5'))
  exact fin (row.take 5) ml so2 mas [r] ws [t] _ (w1 5) (w2 5) (w3 5) (s17.trans (s1'.trans s15')) (s15' _ _ hml) (hmas.same s15') (by lia) wT wO ((s1'.trans s15') _ _ hw) z4 (.cons (s5' _ _ ht4) .nil) (by show 1<=2;decide) λx hx=>by rw[ar.mp hx];exact wG t tT tO
 refine⟨_,rfl,_,_,rfl,rfl,_,rfl,ye7 (λ_=>?_) (λ_=>key f0 wa0 H2 hf0 s2 e2)⟩
 refine⟨_,rfl,_,rfl,_,_,rfl,rfl,(by show(0:Int)<4;decide),_,_,rfl,rfl,_,rfl,st,_,rfl,SqL.of (s2 _ _ hst),λwa hwa=>?_⟩
 rw[ef1,zn9]
 exact key f1 wa _ hf1 (s2.trans (z8 hwa _)) z4
end
def DI (K:W.Frag)(x:Str)(st:Stmt):Prop:=∃f fd,Fun K x x st f fd/\W.nsIn K mainGlobals x=some (some (.ref f))
def MI (K:W.Frag)(c:Addr)(m q:Str)(st:Stmt):Prop:=∃f fd,Fun K m q st f fd/\W.findIn K (.ref c) m=some (some (.ref f))/\W.isFn K (.ref f)=true
def xr2 (K:W.Frag)(c:Addr)(f:Str):Bool:=match W.findIn K (.ref c) f with|some none=>true|_=>false
def BA (x q:Str)(st:Stmt)(ps:List Str):Prop:=∀(kV doc pm:Value) (an:Option Addr) (cdv ct:Value) (us:List Value),us.length=ps.length->bindArgs (W.fnOf x q (X9 st) (Z4 st) (z9 st) .none kV doc pm an cdv ct) ⟨us,[]⟩=pure (ps.zip us)
structure CI (K:W.Frag) (c:Addr) (x:Str) (fs:List Str):Prop where
 n:W.nsIn K mainGlobals x=some (some (.ref c))
 cc:Cls K c
 ma:W.makesIn K c=true
 kp:W.keepIn K (.ref c)=true
 no:fs.all (xr2 K c)=true
structure EI (K:W.Frag) (x:Str) (C:Addr) (tl:List Value):Prop where
 n:W.nsIn K mainGlobals x=some (some (.ref C))
 c:zk6 K C tl "ValueError.__new__"
structure EO (K:W.Frag) (x:Str) (C TE:Addr):Prop where
 e:EI K x C (.ref TE::bmV)
 i:W.isIn K (.ref C) TE=true
structure ZZ (P:gf) (w:gq) (K:W.Frag) (mg:Str->Option Value) (base:Heap):Prop where
 mg:∀{x:Str} {v:Value},W.nsIn K mainGlobals x=some (some v)->mg x=some v
section
variable {P:gf}{w:gq}{K:W.Frag}{mg:Str->Option Value}{base:Heap}{x m q:Str}{st:Stmt}{ps fs:List Str}{k:Nat}{sp:Sp}{c C TE:Addr}{tl:List Value}
section
variable {f:Addr}{oc:Value}{od an:Option Addr}{sl:Array (Option Value)}{kV dc pm cd ct:Value}
theorem DI.of (a:W.nsIn K mainGlobals x=some (some (.ref f)))(l:K.lookup f=some ⟨oc,od,.func (W.fnOf x x (X9 st) (Z4 st) (z9 st) .none kV dc pm an cd ct),sl⟩)(h:W.codeIn K cd x=true)(k:W.keepIn K (.ref f)=true):DI K x st:=⟨f,_,zo3 l h k,a⟩
theorem MI.of (a:W.findIn K (.ref c) m=some (some (.ref f)))(l:K.lookup f=some ⟨oc,od,.func (W.fnOf m q (X9 st) (Z4 st) (z9 st) .none kV dc pm an cd ct),sl⟩)(h:W.codeIn K cd q=true)(k:W.keepIn K (.ref f)=true)(i:W.isFn K (.ref f)=true):MI K c m q st:=⟨f,_,zo3 l h k,a,i⟩
end
theorem CI.of (a:W.nsIn K mainGlobals x=some (some (.ref c)))(pg:W.plainGet K c Str.empty=true)(hd:W.hasDictIn K c=true)(po:W.plainOver K c=true)(sa:W.findIn K (.ref c) "__setattr__"=some (some (.builtin "object.__setattr__")))(mk:W.makesIn K c=true)(kp:W.keepIn K (.ref c)=true)(no:fs.all (xr2 K c)=true):CI K c x fs:=⟨a,⟨pg,hd,po,sa⟩,mk,kp,no⟩
theorem CI.f (I:CI K c x fs):n4 K c fs:=⟨I.cc,λf hf=>by
 have h:=bu.mp I.no f hf
 unfold xr2 at h
 split at h
 ·assumption
 ·cases h⟩
theorem EI.of (a:W.nsIn K mainGlobals x=some (some (.ref C)))
  (l:K.lookup C=some (excClassObj nm qn C N bs tl hdct sn sub ab col dd k0 k1 k2 k3 k5 "ValueError.__new__")) (n:K.lookup N=some oN) (o:W.nsOkIn K N=true) (i:W.nsIn K N "__init__"=some none) (t:W.tailIn K bmV tl=true):EI K x C tl:=⟨a,zk6.mk' l n o i t⟩
theorem EO.at (I:EO K x C TE)(Z:ZZ P w K mg base):zc1 K mg TE x C:=⟨Z.mg I.e.n,I.e.c,I.i⟩
theorem DI.kn (I:DI K x st)(Z:ZZ P w K mg base)(G:∀{f fd},Def K mg x st ps f fd->u8 P w K mg base CX0 k f fd ps sp)
  (h:BA x x st ps:=by trivial):o9 P w K mg base k x ps sp:=by
 obtain⟨f,fd,F,a⟩:=I
 exact Def.known ⟨F,F.binds h,Z.mg a⟩ (G ⟨F,F.binds h,Z.mg a⟩)
theorem DI.kx {R:Prop}(I:DI K x st)(Z:ZZ P w K mg base)(G:∀{f fd},Def K mg x st ps f fd->R)
  (h:BA x x st ps:=by trivial):R:=by
 obtain⟨f,fd,F,a⟩:=I
 exact G ⟨F,F.binds h,Z.mg a⟩
theorem MI.kn (I:MI K c m q st)(Z:ZZ P w K mg base)(G:∀{f fd},Fun K m q st f fd->u8 P w K mg base CX0 k f fd ps sp)
  (h:BA m q st ps:=by trivial):Y5 P w K mg base k c m ps sp:=by
 obtain⟨f,fd,F,a,i⟩:=I
 exact⟨f,fd,G F,⟨a,i,F.kp⟩,F.binds h⟩
theorem MI.kx (I:MI K c m q st)(Z:ZZ P w K mg base)(G:∀{f fd},Fun K m q st f fd->u8 P w K mg base (CX1 P w) k f fd ps sp)
  (h:BA m q st ps:=by trivial):yc3 P w K mg base k c m ps sp:=by
 obtain⟨f,fd,F,a,i⟩:=I
 exact⟨f,fd,G F,⟨a,i,F.kp⟩,F.binds h⟩
theorem MI.mak (I:MI K c "__init__" q st)(Z:ZZ P w K mg base)(N:CI K c x fs)(G:∀{f fd},Fun K "__init__" q st f fd->u8 P w K mg base CX0 k f fd ps sp)
  (h:BA "__init__" q st ps:=by trivial):zt3 P w K mg base k c x ps sp:=by
 obtain⟨f,fd,F,a,i⟩:=I
 exact⟨f,fd,G F,⟨N.ma,a,i,N.kp⟩,Z.mg N.n,F.binds h⟩
end
def MID (K:W.Frag)(c:Addr)(m q:Str)(st:Stmt)(items:Array Value):Prop:=∃f fd,zg0 K m q st f fd items/\W.findIn K (.ref c) m=some (some (.ref f))/\W.isFn K (.ref f)=true
section
variable {K:W.Frag}{c:Addr}{m q:Str}{st:Stmt}{f dT:Addr}{oc:Value}{od an:Option Addr}{sl:Array (Option Value)}{kV dc pm cd ct:Value}{o:Obj}{items:Array Value}{n:Nat}
theorem MID.of (a:W.findIn K (.ref c) m=some (some (.ref f)))(l:K.lookup f=some ⟨oc,od,.func (W.fnOf m q (X9 st) (Z4 st) (z9 st) (.ref dT) kV dc pm an cd ct),sl⟩)(h:W.codeIn K cd q=true)(k:W.keepIn K (.ref f)=true)(i:W.isFn K (.ref f)=true)(lt:K.lookup dT=some o)(hd:o.data=.seq items n):MID K c m q st items :=
 ⟨f,_,⟨⟨dT,oc,od,kV,dc,pm,an,cd,ct,sl,rfl,l,h,o,n,lt,hd⟩,k⟩,a,i⟩
end
theorem MID.rk {mg:Str->Option Value}(I:MID K c "__init__" "Ring.__init__" h9 #[.int 1000 tk])(Z:ZZ P w K mg base)(N:CI K c "Ring" fs)(G:∀{f fd},zg0 K "__init__" "Ring.__init__" h9 f fd #[.int 1000 tk]->u8 P w K mg base (CX1 P w) 8 f fd ["self","group","act","thing","most"] sp):zv3 P w K mg base c sp:=by
 obtain⟨f,fd,F,a,i⟩:=I
 exact zv3.of F (G F) ⟨N.ma,a,i,N.kp⟩ (Z.mg N.n)
def AM (K:W.Frag)(C:Addr)(x m q:Str)(st:Stmt):Prop:=∃f fd,Fun K m q st f fd/\W.nsIn K mainGlobals x=some (some (.ref C))/\W.readsIn K C (.type "type")=true/\W.specialIn K (.ref C) "__getattribute__"=some (some (.builtin "type.__getattribute__"))/\W.findCls K (.ref C) (.type "type") m=some (.val (.ref f))
def DID (K:W.Frag)(x:Str)(st:Stmt)(items:Array Value):Prop:=∃f fd,zg0 K x x st f fd items/\W.nsIn K mainGlobals x=some (some (.ref f))
section
variable {K:W.Frag}{C:Addr}{x m q:Str}{st:Stmt}{f dT:Addr}{oc:Value}{od an:Option Addr}{sl:Array (Option Value)}{kV dc pm cd ct:Value}{o:Obj}{items:Array Value}{n:Nat}
theorem AM.of (a:W.nsIn K mainGlobals x=some (some (.ref C)))(fc:W.findCls K (.ref C) (.type "type") m=some (.val (.ref f)))(l:K.lookup f=some ⟨oc,od,.func (W.fnOf m q (X9 st) (Z4 st) (z9 st) .none kV dc pm an cd ct),sl⟩)(h:W.codeIn K cd q=true)(k:W.keepIn K (.ref f)=true)(r:W.readsIn K C (.type "type")=true)(s:W.specialIn K (.ref C) "__getattribute__"=some (some (.builtin "type.__getattribute__"))):AM K C x m q st:=⟨f,_,zo3 l h k,a,r,s,fc⟩
theorem DID.of (a:W.nsIn K mainGlobals x=some (some (.ref f)))(l:K.lookup f=some ⟨oc,od,.func (W.fnOf x x (X9 st) (Z4 st) (z9 st) (.ref dT) kV dc pm an cd ct),sl⟩)(h:W.codeIn K cd x=true)(k:W.keepIn K (.ref f)=true)(lt:K.lookup dT=some o)(hd:o.data=.seq items n):DID K x st items :=
 ⟨f,_,⟨⟨dT,oc,od,kV,dc,pm,an,cd,ct,sl,rfl,l,h,o,n,lt,hd⟩,k⟩,a⟩
theorem AM.cm {mg:Str->Option Value}(I:AM K C x m q st)(Z:ZZ P w K mg base)(G:∀{f fd},Fun K m q st f fd->u8 P w K mg base CX0 k f fd ps sp)
  (h:BA m q st ps:=by trivial):xo4 P w K mg base k C x m ps sp:=by
 obtain⟨f,fd,F,a,r,s,fc⟩:=I
 exact⟨f,fd,_,G F,F.kp,Z.mg a,F.binds h,r,s,fc,rfl⟩
theorem DID.sk {mg:Str->Option Value}(I:DID K "sides" M1 #[.int 1000 tk])(Z:ZZ P w K mg base)(G:∀{f fd},zg0 K "sides" "sides" M1 f fd #[.int 1000 tk]->u8 P w K mg base (CX1 P w) 11 f fd ["group","part","most"] sp):zn1 P w K mg base sp:=by
 obtain⟨f,fd,F,a⟩:=I
 exact zn1.of F (G F) (Z.mg a)
end
def MF (K:W.Frag)(f:Addr)(oc:Value)(od:Option Addr)(sl:Array (Option Value))(kV dc pm:Value)(an:Option Addr)(cd ct:Value)(m q:Str)(st:Stmt):Prop:=K.lookup f=some ⟨oc,od,.func (W.fnOf m q (X9 st) (Z4 st) (z9 st) .none kV dc pm an cd ct),sl⟩
theorem all_mk {l:W.OpenLaw}{w:gq}{K:W.Frag}{h:Heap}{mg:Str->Option Value}{fa fL:Addr}(X:K.In h)(G:h.Ns mainGlobals mg)(hfa:mg "law"=some (.ref fa))
  (a0:DI K "is_whole" zb7) (a1:DI K "is_turning" J8) (a2:DI K "is_turning_of" P1) (a3:DI K "still" yb0) (a4:DI K "behind" zr5) (a5:DI K "back" ym9) (a6:DI K "need_group" J9) (a7:DI K "need_turning" N2) (a8:DI K "is_part" zh9) (a9:DI K "need_part" B0) (a10:DI K "of_few_makers" P2) (a11:DI K "sides_ring" I0) (a13:DI K "_law_cell" C8) (a14:DI K "_law_whole" J7) (a15:DI K "_law_order" J6) (a16:DI K "_law_maker" J5) (a17:DI K "_law_behind" L0) (a18:DI K "_law_all" zb6) (a19:DI K "shadow" ze5) (a20:DI K "_law_refused" T5) (a21:DI K "_law_numbers" N1) (a22:DI K "_law_good" C9) (a23:DI K "_law_whole_makers" W9)
  {od an:Option Addr} {sl:Array (Option Value)} {oc kV dc pm cd ct:Value} (aL:W.nsIn K mainGlobals "law"=some (some (.ref fL))) (lL:MF K fL oc od sl kV dc pm an cd ct "law" "law" zj9) (cL:W.codeIn K cd "law"=true) (kL:W.keepIn K (.ref fL)=true)
  {tk0 tk1 tk2 tk3:Tok} (gc0:W.nsIn K mainGlobals "MOST_PLACES"=some (some (.int 60 tk0))) (gc1:W.nsIn K mainGlobals "MOST_MAKERS"=some (some (.int 200 tk1))) (gc2:W.nsIn K mainGlobals "STILL_LINE"=some (some (.int 0 tk2))) (gc3:W.nsIn K mainGlobals "MOST_SHADOW"=some (some (.int 60 tk3)))
  {cBook:Addr} (nBook:CI K cBook "Book" zc3) {cStep:Addr} (nStep:CI K cStep "Step" E5) {cChain:Addr} (nChain:CI K cChain "Chain" U6) {cGroup:Addr} (nGroup:CI K cGroup "Group" X4) (iBookinit:MI K cBook "__init__" "Book.__init__" Q9) (iBookput:MI K cBook "put" "Book.put" zb5) (iBookput_behind:MI K cBook "put_behind" "Book.put_behind" T2) (iBookput_back:MI K cBook "put_back" "Book.put_back" V7) (iStepinit:MI K cStep "__init__" "Step.__init__" P0) (iStepput_mover:MI K cStep "put_mover" "Step.put_mover" R8) (iStepput_place:MI K cStep "put_place" "Step.put_place" W2) (iStepnext_pair:MI K cStep "next_pair" "Step.next_pair" R7) (iChaininit:MI K cChain "__init__" "Chain.__init__" R0) (iChainsifted:MI K cChain "sifted" "Chain.sifted" T4) (iChainholds:MI K cChain "holds" "Chain.holds" M6) (iChainfound_mover:MI K cChain "found_mover" "Chain.found_mover" Z5) (iChainsettle:MI K cChain "settle" "Chain.settle" O9) (iChaintake:MI K cChain "take" "Chain.take" J3) (iGroupinit:MI K cGroup "__init__" "Group.__init__" R3) (iGrouptold:MI K cGroup "told" "Group.told" J4) (iGrouphas:MI K cGroup "has" "Group.has" C6) (iChainturning_to:MI K cChain "turning_to" "Chain.turning_to" Y3) (iChainleast_of:MI K cChain "least_of" "Chain.least_of" R1) (iGroupleast:MI K cGroup "least" "Group.least" M7) (iChainmovers_at:MI K cChain "movers_at" "Chain.movers_at" T3) (iGrouplean_makers:MI K cGroup "lean_makers" "Group.lean_makers" W8) {cRing:Addr} (nRing:CI K cRing "Ring" zr3) {cSides:Addr} (nSides:CI K cSides "Sides" ["many","part"]) (iRingfill:MI K cRing "fill" "Ring.fill" C7) (iRingnext_edge:MI K cRing "next_edge" "Ring.next_edge" R4) (iRingput_thing:MI K cRing "put_thing" "Ring.put_thing" R5) (iRingthings:MI K cRing "things" "Ring.things" M8) (iSidesinit:MI K cSides "__init__" "Sides.__init__" R6) (iSideslooked:MI K cSides "looked" "Sides.looked" N0) (iSidesmoved:MI K cSides "moved" "Sides.moved" M9) {tkR:Tok} (iRinginit:MID K cRing "__init__" "Ring.__init__" h9 #[.int 1000 tkR]) {cAct:Addr} (iActinit:AM K cAct "Act" "__init__" "Act.__init__" O8) {tkS:Tok} (iSides:DID K "sides" M1 #[.int 1000 tkS]) {xC0:Addr} (xe0:EI K "TurnError" xC0 bmV) {xC1:Addr} (xe1:EO K "TooMany" xC1 xC0) {xC2:Addr} (xe2:EO K "NoThing" xC2 xC0) (xp2:(xC1==xC2)=false) (xq2:(xC0==xC2)=false) {xC3:Addr} (xe3:EO K "NotPart" xC3 xC0) (xp3:(xC1==xC3)=false) (xq3:(xC0==xC3)=false) (xv:W.nsIn K mainGlobals "ValueError"=some none) (xa0:W.findIn K (.ref xC1) "__getattribute__"=some (some (.builtin "BaseException.__getattribute__"))) (xa1:W.findIn K (.ref xC1) "__getattr__"=some none) (xa2:W.findIn K (.ref xC1) "__class__"=some (some (.builtin "object.__class__"))) (xa3:W.mroIn K xC1 (.type "BaseException")=some true) (xa4:W.mroIn K xC1 (.type "object")=some true) (xa5:W.specialIn K (.builtin "object.__class__") "__get__"=some (some (.builtin "getset_descriptor.__get__"))) (xa6:W.takesIn K (.builtin "object.__class__")=some true) (xb0:W.findIn K (.ref xC3) "__getattribute__"=some (some (.builtin "BaseException.__getattribute__"))) (xb1:W.findIn K (.ref xC3) "__getattr__"=some none) (xb2:W.findIn K (.ref xC3) "__class__"=some (some (.builtin "object.__class__"))) (xb3:W.mroIn K xC3 (.type "BaseException")=some true) (xb4:W.mroIn K xC3 (.type "object")=some true) (xk1:W.kitOne K (.ref xC1) (.ref xC1)=some true) (xk2:W.kitOne K (.ref xC1) (.ref xC3)=some false) (xn1:W.kitOne K (.ref xC3) (.ref xC1)=some false) (xn2:W.kitOne K (.ref xC3) (.ref xC3)=some true)
  (zz:(["len","range","list","tuple","isinstance","int","bool","str","enumerate","sorted","sum","all","set","reversed","divmod","max","min"]:List Str).all (λx=>match W.nsIn K mainGlobals x with|some none=>true|_=>false)=true) :
  ∃fd:gB,(∀(s:fZ) (v:Value),BindsTo s fd ⟨[v],[]⟩ [("_law_script",v)])/\∀base:Heap,K.In base->base.Ns mainGlobals mg->u8 l.prog w K mg base CX0 15 fa fd ["_law_script"] (yr5 K):=by
 cases hfa.symm.trans (W.mg_of X G aL)
 have bi:∀x∈(["len","range","list","tuple","isinstance","int","bool","str","enumerate","sorted","sum","all","set","reversed","divmod","max","min"]:List Str),mg x=none:=λx hx=>W.mg_none_of X G (by have h:=bu.mp zz x hx;split at h <;> first|assumption|cases h)
 have B:Blt mg:=by constructor <;> exact bi _ (by simp)
 have j20:zk4 mg "MOST_PLACES" (.int 60):=⟨_,W.mg_of X G gc0,⟨_,rfl⟩⟩
 have j45:zk4 mg "MOST_MAKERS" (.int 200):=⟨_,W.mg_of X G gc1,⟨_,rfl⟩⟩
 have j13:zk4 mg "STILL_LINE" (.int 0):=⟨_,W.mg_of X G gc2,⟨_,rfl⟩⟩
 have j46:zk4 mg "MOST_SHADOW" (.int 60):=⟨_,W.mg_of X G gc3,⟨_,rfl⟩⟩
 refine⟨W.fnOf "law" "law" (X9 zj9) (Z4 zj9) (z9 zj9) .none kV dc pm an cd ct,λs v=>.of_eq rfl,λbase _ _=>?_⟩
 have Z:ZZ l.prog w K mg base:=⟨λa=>W.mg_of X G a⟩
 have j34:yj5 K mg xC0:=⟨Z.mg xe0.n,xe0.c,W.mg_none_of X G xv⟩
 have j16:=xe1.at Z
 have j33:=xe2.at Z
 have j15:=xe3.at Z
 have j32:zk5 K xC1:=⟨xa0,xa1,xa2,xa3,xa4,xa5,xa6⟩
 have j31:zk5 K xC3:=⟨xb0,xb1,xb2,xb3,xb4,xa5,xa6⟩
 have j67:=xk1
 have j68:=xk2
 have j69:=xn1
 have j70:=xn2
 have j3:=nBook.f
 have j2:=nStep.f
 have j1:=nChain.f
 have j0:=nGroup.f
 have j5:=nRing.f
 have j4:=nSides.f
 have j29:=a0.kn Z λD=>yf9 D B
 have j66:=a1.kn Z λD=>zu3 D B j29 j20
 have j7:=a2.kn Z λD=>zh5 D B j66
 have j8:=a3.kn Z λD=>xd2 D B
 have j6:=a4.kn Z λD=>yv2 D B
 have j28:=a5.kn Z λD=>xk3 D B
 have j71:=a6.kn Z λD=>zu4 D B j29 j7 j20 j45
 have j50:=iBookinit.mak Z nBook λF=>zy8 F B j3 j8 j13
 have j9:=iBookput.kn Z λF=>yf7 F B j3
 have j37:=iBookput_behind.kn Z λF=>zb1 F B j3 j9 j6 j13
 have j36:=iBookput_back.kn Z λF=>zh4 F B j3 j9 j28
 have j52:=iStepinit.mak Z nStep λF=>zz2 F B j2 j8 j13
 have j22:=iStepput_mover.kn Z λF=>ze0 F B j2
 have j48:=iStepput_place.kn Z λF=>ze1 F B j2 j28
 have j47:=iStepnext_pair.kn Z λF=>zd9 F B j2
 have j51:=iChaininit.mak Z nChain λF=>zt5 F B j1 j50 j52
 have j42:=iChainsifted.kn (sp:=yn6 cChain cBook cStep) Z λF=>zk9 F B j1 j2 j6
 have j10:=iChainholds.kn Z λF=>zp8 F B j1 j42
 have j38:=iChainfound_mover.kn Z λF=>D8 F B j1 j3 j2 j6 j48 j37 j36 j22 j10
 have j41:=iChainsettle.kn Z λF=>zk8 F B j1 j2 j47 j38
 have j43:=iChaintake.kn Z λF=>zt6 F B j1 j3 j2 j9 j22 j10 j41
 have j12:=iGroupinit.mak Z nGroup λF=>zt7 F B j0 j1 j71 j51 j43
 have j11:=iGrouptold.kn (sp:=zs4 cGroup cChain cBook cStep) Z λF=>zt8 F B j0
 have j17:=iGrouphas.kn Z λF=>zy9 F B j0 j1 j7 j10
 have j44:=iChainturning_to.kn (sp:=zs5 cChain cBook cStep) Z λF=>A7 F B j1 j3 j2
 have j39:=iChainleast_of.kn (sp:=zi7 cChain cBook cStep) Z λF=>zd6 F B j1 j2 j44 j6
 have j19:=iGroupleast.kn Z λF=>zp9 F B j0 j1 j7 j39
 have j40:=iChainmovers_at.kn Z λF=>zb2 F B j1 j3 j2
 have j18:=iGrouplean_makers.kn Z λF=>D9 F B j0 j1 j40
 have j35:=yu6 j18
 have j73:=a7.kn Z λD=>zl3 D B j7
 have j21:=iRingput_thing.kx (sp:=yb8 cRing xC1) Z λF=>zd8 F B j5 j16
 have j23:=iSidesinit.mak (sp:=zf3 cSides cGroup cChain cBook cStep) Z nSides λF=>zt9 F j4 j0 (iActinit.cm Z λF=>yf6 F)
 have j64:n4 K cSides ["many"]:=⟨j4.cls,λy hy=>j4.no y (by simp at hy;simp[hy])⟩
 have j25:∀n ps,(∀t∈ps,TM.IsT n t)->Y5 l.prog w K mg base 5 cSides "moved" ["self","thing","t"] (xm3 n (Z9 cSides cGroup cChain cBook cStep n ps) (TM.IsT n) (mvS n ps)):=λn ps hp=>iSidesmoved.kn Z λF=>zq1 F j4 j0 j6 j19 hp
 have j56:∀n ps,(∀t∈ps,TM.IsT n t)->yc3 l.prog w K mg base 6 cSides "looked" ["self","thing"] (xs4 (Z9 cSides cGroup cChain cBook cStep n ps) (LKS n ps) xC2):=λn ps hp=>iSideslooked.kx Z λF=>zl0 F j4 j0 j73 j19 hp
 have j53:∀n ps,(∀t∈ps,TM.IsT n t)->zv3 l.prog w K mg base cRing (yb9 cRing cGroup cChain cBook cStep cSides xC1 xC2 n (Z9 cSides cGroup cChain cBook cStep n ps) (LKS n ps) (TM.IsT n) (mvS n ps)):=λn ps hp=>iRinginit.rk Z nRing λF=>zz1 (LK:=LKS n ps) F B j5 j0 j64 (xt8 cSides cGroup cChain cBook cStep hp) (λh s=>LKS.same h s) (j56 n ps hp) (iRingfill.kx Z λF=>zz0 F B j5 j0 (iRingnext_edge.kx Z λF=>zd7 F B j5 j0 j4.cls (xt8 cSides cGroup cChain cBook cStep hp) j11 (j25 n ps hp) j21 j6) j21 j8) j33
 have j49:∀n ps,Y5 l.prog w K mg base 1 cRing "things" ["self"] (zs3 cRing cGroup cChain cBook cStep n (Z9 cSides cGroup cChain cBook cStep n ps)):=λn ps=>iRingthings.kn Z λF=>zq0 F B j5
 have j65:=a8.kn Z λD=>yl8 D B j0 j35 j17
 have j72:=a9.kx Z λD=>zz5 D B j65 j15
 have j74:=a10.kn Z λD=>zh6 D B j0 j12 j18 j11
 have j75:=a11.kx Z λD=>zu5 D B j0 j53 j74 j23 j8
 have j24:=iSides.sk Z λF=>xd1 F B j5 j72 j75 j49
 have j54:=yh4 j24.two
 have j58:=a13.kn Z λD=>zz3 D B
 have j62:=a14.kn Z λD=>zu2 D B
 have j26:=a15.kn Z λD=>zu1 D B
 have j60:=a16.kn Z λD=>zu0 D B j26
 have j14:=a17.kn Z λD=>zq2 D B
 have j57:=a18.kn Z λD=>yf8 D B j14
 have j30:=a19.kx Z λD=>yv3 D B j0 j4 j24 j23 j11 j25 j46
 have j55:=yh3 j30
 have j27:=a20.kn Z λD=>zl2 D B j30 j34 j16 j15 j32 j31 j67 j68 j69 j70
 have j61:=a21.kn Z λD=>zl1 D B j14
 have j59:=a22.kn Z λD=>zz4 D B j0 j12 j54 j55 j27 j61 j14 j62
 have j63:=a23.kn Z λD=>C1 D B
 exact xr3 ⟨zo3 (st:=zj9) lL cL kL,(zo3 (st:=zj9) lL cL kL).binds (ps:=["_law_script"]) λ_ _ _ _ _ _ us hl=>match us,hl with|[_],_=>rfl,W.mg_of X G aL⟩ B j0 j12 j17 j58 j26 j60 j57 j63 j59 j27
end Tb
open PySem PySem.W PyProof.Rows
set_option maxRecDepth 100000 in
set_option maxHeartbeats 0 in
theorem PySem.Challenge.cw_turnbase_k56_shadow_holds : PySem.Challenge.rw_turnbase_k56_shadow.Holds := by
 refine Tb.early.2 Tb.early2 Tb.early3 Tb.early4 Tb.early5 ?_
 refine Tb.walk (l := PySem.Challenge.rw_turnbase_k56_shadow) (k := 15) (x := "_law_script") rfl rfl ⟨rfl, by decide, by decide⟩ (fun w h Y => PySem.W.kIn_of Y) ?F
 case F =>
  intro w mg fa h KX G hmg
  refine' Tb.all_mk KX G hmg ?a0 ?a1 ?a2 ?a3 ?a4 ?a5 ?a6 ?a7 ?a8 ?a9 ?a10 ?a11 ?a13 ?a14 ?a15 ?a16 ?a17 ?a18 ?a19 ?a20 ?a21 ?a22 ?a23 ?aL ?lL ?cL ?kL ?gc0 ?gc1 ?gc2 ?gc3 ?nBook ?nStep ?nChain ?nGroup ?iBookinit ?iBookput ?iBookput_behind ?iBookput_back ?iStepinit ?iStepput_mover ?iStepput_place ?iStepnext_pair ?iChaininit ?iChainsifted ?iChainholds ?iChainfound_mover ?iChainsettle ?iChaintake ?iGroupinit ?iGrouptold ?iGrouphas ?iChainturning_to ?iChainleast_of ?iGroupleast ?iChainmovers_at ?iGrouplean_makers ?nRing ?nSides ?iRingfill ?iRingnext_edge ?iRingput_thing ?iRingthings ?iSidesinit ?iSideslooked ?iSidesmoved ?iRinginit ?iActinit ?iSides ?xe0 ?xe1 ?xe2 ?xp2 ?xq2 ?xe3 ?xp3 ?xq3 ?xv ?xa0 ?xa1 ?xa2 ?xa3 ?xa4 ?xa5 ?xa6 ?xb0 ?xb1 ?xb2 ?xb3 ?xb4 ?xk1 ?xk2 ?xn1 ?xn2 ?zz
  (case a0 | a1 | a2 | a3 | a4 | a5 | a6 | a7 | a8 | a9 | a10 | a11 | a13 | a14 | a15 | a16 | a17 | a18 | a19 | a20 | a21 | a22 | a23 => refine' Tb.DI.of ?x1 ?x2 ?x3 ?x4; (case x1 | x2 | x3 | x4 => first | k_is | kernel_rfl | (unfold Tb.MF; k_is)))
  (case nBook | nStep | nChain | nGroup | nRing | nSides => refine' Tb.CI.of ?x1 ?x2 ?x3 ?x4 ?x5 ?x6 ?x7 ?x8; (case x1 | x2 | x3 | x4 | x5 | x6 | x7 | x8 => first | k_is | kernel_rfl | (unfold Tb.MF; k_is)))
  (case iBookinit | iBookput | iBookput_behind | iBookput_back | iStepinit | iStepput_mover | iStepput_place | iStepnext_pair | iChaininit | iChainsifted | iChainholds | iChainfound_mover | iChainsettle | iChaintake | iGroupinit | iGrouptold | iGrouphas | iChainturning_to | iChainleast_of | iGroupleast | iChainmovers_at | iGrouplean_makers | iRingfill | iRingnext_edge | iRingput_thing | iRingthings | iSidesinit | iSideslooked | iSidesmoved => refine' Tb.MI.of ?x1 ?x2 ?x3 ?x4 ?x5; (case x1 | x2 | x3 | x4 | x5 => first | k_is | kernel_rfl | (unfold Tb.MF; k_is)))
  (case iRinginit => refine' Tb.MID.of ?x1 ?x2 ?x3 ?x4 ?x5 ?x6 ?x7; (case x1 | x2 | x3 | x4 | x5 | x6 => first | k_is | kernel_rfl | (unfold Tb.MF; k_is)); (case x7 => exact rfl))
  (case iActinit => refine' Tb.AM.of ?x1 ?x2 ?x3 ?x4 ?x5 ?x6 ?x7; (case x1 | x2 | x3 | x4 | x5 | x6 | x7 => first | k_is | kernel_rfl | (unfold Tb.MF; k_is)))
  (case iSides => refine' Tb.DID.of ?x1 ?x2 ?x3 ?x4 ?x5 ?x6; (case x1 | x2 | x3 | x4 | x5 => first | k_is | kernel_rfl | (unfold Tb.MF; k_is)); (case x6 => exact rfl))
  (case xe0 => refine' Tb.EI.of ?x1 ?x2 ?x3 ?x4 ?x5 ?x6; (case x1 | x2 | x3 | x4 | x5 | x6 => first | k_is | kernel_rfl | (unfold Tb.MF; k_is)))
  (case xe1 | xe2 | xe3 => refine' ⟨Tb.EI.of ?x1 ?x2 ?x3 ?x4 ?x5 ?x6, ?x7⟩; (case x1 | x2 | x3 | x4 | x5 | x6 | x7 => first | k_is | kernel_rfl | (unfold Tb.MF; k_is)))
  (case aL | lL | cL | kL | gc0 | gc1 | gc2 | gc3 | xv | xa0 | xa1 | xa2 | xa3 | xa4 | xa5 | xa6 | xb0 | xb1 | xb2 | xb3 | xb4 | xk1 | xk2 | xn1 | xn2 | zz => first | k_is | kernel_rfl | (unfold Tb.MF; k_is))
  (case xp2 | xq2 | xp3 | xq3 => decide)

