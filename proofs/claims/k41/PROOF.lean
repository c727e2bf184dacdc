import PyProof.Rows.All
import KE.KEqDict
import KE.KIsAll
import KE.KSortTup
import KE.LcSums
import KE.KItem
import Lean
import PySem.Challenge.RW_turnbase_k41_acts_look
open Array renaming length_toList → ak, getElem?_toList → aD, getElem?_eq_getElem → aZ, getElem?_eq_some_iff → bh, getElem?_eq_none → cw, append_assoc → cE, toList_map → cI, toList_inj → dh
open Bool renaming false_ne_true → am, and_eq_true → aG, false_eq_true → bz, eq_iff_iff → cB, false_and → cR, or_true → cY, eq_false_iff → dg, and_false → dv
open Int renaming toNat_natCast → aJ, le_of_lt → aY, emod_nonneg → bg, not_lt → bq, le_trans → bw, emod_lt_of_pos → bC, le_refl → bY, le_antisymm → cP, fmod_eq_emod_of_nonneg → cS, fdiv_eq_ediv_of_nonneg → cT, zero_add → dB
open List renaming length_map → aa, length_cons → ag, getElem?_eq_getElem → ah, mem_cons_of_mem → aj, length_append → al, size_toArray → ao, mem_cons_self → ap, getElem?_eq_some_iff → ar, getElem?_map → au, mem_cons → aw, mem_of_getElem? → ay, mem_singleton → az, mem_filterMap → aC, map_cons → aE, pairwise_map → aH, mem_map → aI, getD_eq_getElem?_getD → aK, mem_append_right → aM, toList_toArray → aN, length_nil → aO, length_take → aP, getElem?_append_left → aQ, mem_range → aR, length_range → aS, getElem?_append_right → aU, take_of_length_le → aV, map_map → aW, all_eq_true → aX, map_congr_left → ba, take_append_drop → bd, mem_append → bf, append_assoc → bn, map_append → bo, lookup_cons → bp, append_nil → bu, getElem?_eq_none → bB, nodup_cons → bD, getElem?_range → bE, length_drop → bF, mem_iff_getElem → bK, getElem?_of_mem → bL, map_nil → bM, pairwise_iff_getElem → bQ, length_eq_zero_iff → bR, take_add_one → bT, length_replicate → bU, mem_of_mem_drop → bV, mem_append_left → bW, map_id → bX, filterMap_cons → cf, getElem?_eq_none_iff → cj, drop_eq_getElem_cons → ck, ext_getElem? → cm, getElem?_take_of_lt → cq, nodup_range → cr, getElem?_replicate → cu, filter_cons → cv, getElem?_set_self → cx, range_succ → cy, mem_filter → cz, length_set → cA, mem_of_mem_take → cC, getElem?_set_ne → cD, zip_cons_cons → cF, getElem?_drop → cG, take_length → cJ, mem_reverse → cK, of_mem_zip → cM, forIn_cons → cN, foldl_cons → cO, nodup_nil → cQ, map_take → cU, length_erase_of_mem → cV, all_cons → cW, pairwise_lt_range → cX, mergeSort_perm → da, contains_cons → de, take_sublist → df, not_mem_nil → dm, drop_zero → dt, drop_drop → du, map_drop → dw, any_cons → dy, all_map → dz
open Nat renaming le_refl → af, ne_of_lt → av, zero_le → ax, lt_of_lt_of_le → aA, le_trans → aB, lt_irrefl → aF, lt_succ_of_lt → aT, zero_add → br, le_add_right → bx, lt_of_le_of_lt → bA, lt_of_le_of_ne → bH, le_of_lt → bI, le_of_lt_succ → bJ, succ_pos → bN, lt_succ_self → bO, lt_or_ge → bP, le_succ → bS, not_lt_zero → bZ, le_antisymm → cb, ne_of_gt → ci, lt_succ_of_le → cp, sub_self → cH, le_of_eq → cZ, max_eq_right → dn, le_of_not_lt → dq, lt_trans → dA, not_lt → dC, mod_lt → dD
open Option renaming map_eq_some_iff → bG, getD_some → cn, getD_none → db
open PySem.Heap renaming get?_push_of_some → ae, lt_size → ai, get?_push_size → aq, size_push → bj
set_option Elab.async false
set_option linter.all false
namespace Tb
open PySem PySem.W
def yp1 (st:SharedT->Thread->Option (SharedT×Thread))(ok thr:Thread->Bool):Nat->SharedT->Thread->Option SharedT
 | 0,_,_=>none
 | n+1,s,t=>match thr t with
  | true=>some s
  | false=>match ok t with
   | false=>none
   | true=>match st s t with
    | some (s',t')=>yp1 st ok thr n s' t'
    | none=>none
theorem yd1 {tb:String->Option Builtin}{p:Program}{w:World}{n₀:Nat}{ann:Option Value}:∀{n:Nat} {s r:SharedT} {t:Thread},yp1 (stepT (denote tb) p w) (stepOk n₀ ann) through n s t=some r->topRun tb p w n₀ ann n s.abs t=some r.abs
 | 0,_,_,_,h=>by cases h
 | n+1,s,r,t,h=>by
  unfold yp1 at h
  unfold topRun
  cases ht:through t with
  | true=>rw [ht] at h;cases h;rfl
  | false =>
   rw [ht] at h
   cases hk:stepOk n₀ ann t with
   | false=>rw [hk] at h;cases h
   | true =>
    rw [hk] at h
    cases hs:stepT (denote tb) p w s t with
    | none=>rw [hs] at h;cases h
    | some q =>
     obtain ⟨s₂,t₂⟩:=q
     rw [hs] at h
     rw [stepT_spec hs]
     exact yd1 h
def B0:List Obj->Nat->BT->Option BT
 | [],_,T=>some T
 | o::r,k,T=>match ((T.ins k o).get k).isSome with
  | true=>B0 r (k+1) (T.ins k o)
  | false=>none
theorem zf4 {life:Life}:∀{l:List Obj} {k:Nat} {T T':BT},B0 l k T=some T'->(absHeap T' (k+l.length) life).objs=(absHeap T k life).objs++l.toArray
 | [],k,T,T',h=>by
  cases h
  simp
 | o::r,k,T,T',h=>by
  unfold B0 at h
  cases hs:((T.ins k o).get k).isSome with
  | false=>rw [hs] at h;cases h
  | true =>
   rw [hs] at h
   have ih:=zf4 (life:=life) h
   rw [absHeap_ins hs] at ih
   rw [ag,show k+(r.length+1)=k+1+r.length by omega,ih]
   show ((absHeap T k life).objs.push o)++r.toArray=_
   simp
theorem zw1 {h:Heap}{T:BT}(e:B0 h.objs.toList 0 .nil=some T):absHeap T h.objs.size h.life=h:=by
 have q:=zf4 (life:=h.life) e
 rw [br,ak] at q
 have q0:(absHeap BT.nil 0 h.life).objs=#[]:=by
  apply Array.ext_getElem?
  intro i
  rw [absHeap_at]
  simp
 rw [q0] at q
 have:(absHeap T h.objs.size h.life).objs=h.objs:=by rw [q];simp
 show Heap.mk _ _=h
 rw [show h=Heap.mk h.objs h.life from rfl]
 exact congrArg (Heap.mk · h.life) this
def yj4 (fo:Option Shared)(st:SharedT->Thread->Option (SharedT×Thread))(ok:Nat->Option Value->Thread->Bool)(p:Program)(N:Nat):Option (Shared×SharedT) :=
 match fo with
 | none=>none
 | some s₀=>match B0 s₀.heap.objs.toList 0 .nil with
  | none=>none
  | some T=>match yp1 st (ok s₀.heap.objs.size (s₀.heap.nsMap mainGlobals "__annotations__")) through N ⟨T,s₀.heap.objs.size,s₀.heap.life,s₀.gens,s₀.drawn,s₀.toks,s₀.os⟩ (topStub p) with
   | none=>none
   | some s₁=>some (s₀,s₁)
def yd9 {β:Type}:Nat->List β->List β
 | 0,_=>[]
 | _+1,[]=>[]
 | n+1,x::l=>x::yd9 n l
def zq8 {β:Type}:Nat->List β->List β
 | 0,l=>l
 | _+1,[]=>[]
 | n+1,_::l=>zq8 n l
theorem zv9 {β:Type}:∀(n:Nat) (l:List β),yd9 n l=l.take n
 | 0,_=>rfl
 | _+1,[]=>rfl
 | n+1,x::l=>congrArg (x :: ·) (zv9 n l)
theorem G2 {β:Type}:∀(n:Nat) (l:List β),zq8 n l=l.drop n
 | 0,_=>rfl
 | _+1,[]=>rfl
 | n+1,_::l=>G2 n l
theorem leftC {p q:Program}{loose:List Str}{Xt:Shared->Bool}{β:Type}{Yf:Shared->List β}{Ya:World->List β}{N:Nat}{g0:Bool}(n:Nat)(e:opening p=plainProg p.main.scope.names)(hN:Nat.ble 600 N=true)(f:∀s,fenceModules? p s=some s)
  (hA:∀w os,(yj4 (some ⟨boot_heap w.params,Array.mk [],boot_drawn,boot_toks,os⟩) (stepT (denote treeTable) p w) stepOk p N).map (λr=>(r.1.heap.isNs mainGlobals&&r.1.gens.size==0,staticsOk (importedModules p.main.body) r.1.heap r.2.abs.heap&&namesBound p r.2.abs.heap&&gensDone r.2.abs&&laidKept r.1.heap r.2.abs.heap,openSeen q loose (importedModules p.main.body) Xt g0 r.2.abs))=some (true,true,openGood q loose))
  (hB:∀w os,(yj4 (some ⟨boot_heap w.params,Array.mk [],boot_drawn,boot_toks,os⟩) (stepT (denote treeTable) p w) stepOk p N).map (λr=>(Yf r.2.abs).take n)=some (yd9 n (Ya w)))
  (hC:∀w os,(yj4 (some ⟨boot_heap w.params,Array.mk [],boot_drawn,boot_toks,os⟩) (stepT (denote treeTable) p w) stepOk p N).map (λr=>((Yf r.2.abs).drop n).take n)=some (yd9 n (zq8 n (Ya w))))
  (hD:∀w os,(yj4 (some ⟨boot_heap w.params,Array.mk [],boot_drawn,boot_toks,os⟩) (stepT (denote treeTable) p w) stepOk p N).map (λr=>((Yf r.2.abs).drop n).drop n)=some (zq8 n (zq8 n (Ya w)))):LeftO p q loose Xt Yf Ya N g0:=λw=>by
 obtain ⟨s₀,hs,hv⟩:=bG.mp (boot_open e hN f w)
 have es:(⟨boot_heap w.params,Array.mk [],boot_drawn,boot_toks,s₀.os⟩:Shared)=s₀:=by
  obtain ⟨h1,h2⟩:=Prod.mk.inj hv
  obtain ⟨h2,h3⟩:=Prod.mk.inj h2
  obtain ⟨h3,h4⟩:=Prod.mk.inj h3
  rw [←h1,←h2,←h3,←h4]
 have a:=hA w s₀.os
 have b:=hB w s₀.os
 have c:=hC w s₀.os
 have d:=hD w s₀.os
 rw [es] at a b c d
 clear es hv
 unfold openEnds
 rw [hs]
 unfold yj4 at a b c d
 dsimp only at a b c d
 cases ht:B0 s₀.heap.objs.toList 0 .nil with
 | none=>rw [ht] at a;cases a
 | some T =>
  rw [ht] at a b c d
  dsimp only at a b c d
  cases hr:yp1 (stepT (denote treeTable) p w) (stepOk s₀.heap.objs.size (s₀.heap.nsMap mainGlobals "__annotations__")) through N ⟨T,s₀.heap.objs.size,s₀.heap.life,s₀.gens,s₀.drawn,s₀.toks,s₀.os⟩ (topStub p) with
  | none=>rw [hr] at a;cases a
  | some s₁ =>
   rw [hr] at a b c d
   have a:=Option.some.inj a
   have b:=Option.some.inj b
   have c:=Option.some.inj c
   have d:=Option.some.inj d
   dsimp only at a b c d
   rw [zv9] at b c
   rw [G2] at c
   rw [G2,G2] at d
   have c':(Yf s₁.abs).drop n=(Ya w).drop n:=by rw [←bd n ((Yf s₁.abs).drop n),c,d,bd]
   have b':Yf s₁.abs=Ya w:=by rw [←bd n (Yf s₁.abs),b,c',bd]
   have e1:=(Prod.mk.inj a).1
   have e2:=(Prod.mk.inj (Prod.mk.inj a).2).1
   have e3:=(Prod.mk.inj (Prod.mk.inj a).2).2
   have r:=yd1 hr
   have ab:(SharedT.mk T s₀.heap.objs.size s₀.heap.life s₀.gens s₀.drawn s₀.toks s₀.os).abs=s₀:=by
    show Shared.mk (absHeap T s₀.heap.objs.size s₀.heap.life) s₀.gens s₀.drawn s₀.toks s₀.os=s₀
    rw [zw1 ht]
   rw [ab] at r
   show Option.map _ (topFrom treeTable p w N s₀)=_
   unfold topFrom
   rw [e1]
   dsimp only
   rw [r]
   show Option.map _ (match staticsOk (importedModules p.main.body) s₀.heap s₁.abs.heap&&namesBound p s₁.abs.heap&&gensDone s₁.abs&&laidKept s₀.heap s₁.abs.heap with|true=>some s₁.abs|false=>none)=_
   rw [e2]
   exact congrArg some (Prod.ext e3 b')
end Tb
section
open PySem PySem.W PyProof.Rows
namespace Tb
def seenQ:Program:=view PySem.Challenge.pw_turnbase_k41_acts_look [0,2,3,4,5,6,8,9,10,11,12,13,15,16,17,18,19,20,21,22,23,24,25,26,27,28,29,31,32,33,34,35,36,37,38,39,40,41,42,43,44,45,46,47]
end Tb
local macro_rules | `(tactic| o_head $H:term)=>`(tactic| refine W.holds_open (q:=Tb.seenQ) (loose:=[]) (Xt:=λs=>xlAt Tb.seenQ [] s&&recOk (RowW.records (OpenRow.toRowW PySem.Challenge.rw_turnbase_k41_acts_look.row)) s) (XP:=XL Tb.seenQ []) (Yf:=Hook.obs $H) (Ya:=Hook.val $H) (YP:=Hook.says $H) (N:=7548) ?hl (Hook.of $H) (Hook.keeps $H) (λs e=>xl_of s (Bool.and_eq_true_iff.mp e).1) XL.keeps (by rfl) (by rfl) (by rfl) (λs e=>recFacts_of (Bool.and_eq_true_iff.mp e).2) (by rfl) (by assumption) (by decide +kernel) ⟨rfl,rfl,rfl,rfl,rfl,by decide +kernel⟩ ?hw ?hc)
set_option maxRecDepth 100000 in
set_option maxHeartbeats 0 in
def Tb.early:PSigma (λT:Prop×Prop×Prop×Prop×Prop=>T.1->T.2.1->T.2.2.1->T.2.2.2.1->T.2.2.2.2->PySem.Challenge.rw_turnbase_k41_acts_look.Holds):=by
 refine ⟨(∀w os,(?A:World->OsState->Prop) w os,∀w os,(?B:World->OsState->Prop) w os,∀w os,(?C:World->OsState->Prop) w os,∀w os,(?D:World->OsState->Prop) w os,?T),λha hb hc hd he=>?m⟩
 (case m =>
  w_on;refine W.holds_law (by kernel_rfl) λsaid=>?_;k_head
  (case hl =>
  refine Tb.leftC (β:=Option Obj) 190 (by kernel_rfl) (by decide) (λs=>by kernel_rfl) ?_ ?_ ?_ ?_ <;> intro w os <;> (try unfold Tb.seenQ) <;> (repeat (first|rw [PySem.W.Fast.te10274390034422433532]|rw [PySem.W.Fast.te14289696077712309145]|rw [PySem.W.Fast.te10156331382660048174]|rw [PySem.W.Fast.te6613529449190102663]|rw [PySem.W.Fast.te11892475500146522536]|rw [PySem.W.Fast.te4187177175401517315]|rw [PySem.W.Fast.te14364793385576792824]|rw [PySem.W.Fast.te1435165496053646825]|rw [PySem.W.Fast.te5923862056798008813]))
  ·exact ha w os
  ·exact hb w os
  ·exact hc w os
  ·exact hd w os)
  (case hw=>w_witness2)
  k_fill
  exact he)
set_option maxRecDepth 100000 in
set_option maxHeartbeats 0 in
theorem Tb.early2:Tb.early.1.1:=by
 refine λw os=>?_
 kernel_rfl
set_option maxRecDepth 100000 in
set_option maxHeartbeats 0 in
theorem Tb.early3:Tb.early.1.2.1:=by
 refine λw os=>?_
 kernel_rfl
set_option maxRecDepth 100000 in
set_option maxHeartbeats 0 in
theorem Tb.early4:Tb.early.1.2.2.1:=by
 refine λw os=>?_
 kernel_rfl
set_option maxRecDepth 100000 in
set_option maxHeartbeats 0 in
theorem Tb.early5:Tb.early.1.2.2.2.1:=by
 refine λw os=>?_
 kernel_rfl
end
set_option Elab.async false
set_option linter.all false
set_option maxRecDepth 100000
namespace L2
open PySem PySem.Spec PyProof.Rows
abbrev Key:=Sum Int Str
def zi7 : Key -> Value -> Bool
  | .inl k,v=>Value.isInt k v
  | .inr x,v=>Value.isStrOf x v
def xi1 (w : World) : Key -> Int
  | .inl k=>hashInt k
  | .inr x=>hashStr w x
theorem l8 : ∀{k : Key} {v : Value}, zi7 k v = true -> (∃i t, k = Sum.inl i /\ v = Value.int i t)∨(∃x t, k = Sum.inr x /\ v = Value.str x t)
  | .inl i,v,h=>by
    obtain ⟨t,e⟩:=Value.isInt_shape (k:=i) (v:=v) h
    exact .inl ⟨i,t,rfl,e⟩
  | .inr x,v,h=>by
    obtain ⟨t,e⟩:=Value.isStrOf_shape (x:=x) (v:=v) h
    exact .inr ⟨x,t,rfl,e⟩
theorem yf7 (i:Int)(t:Tok):zi7 (.inl i) (.int i t)=true:=by simp [zi7,Value.isInt]
theorem yf8 (x:Str)(t:Tok):zi7 (.inr x) (.str x t)=true:=by simp [zi7,Value.isStrOf]
theorem yy7 (a b:Int):decide ((Sum.inl a:Key)=Sum.inl b)=(a==b):=by
  by_cases e:a=b
  . subst e;simp
  . have h : ¬(Sum.inl a : Key) = Sum.inl b := λq => e (Sum.inl.inj q)
    rw [decide_eq_false h]
    exact (beq_eq_false_iff_ne.mpr e).symm
theorem yz0 (a b:Str):decide ((Sum.inr a:Key)=Sum.inr b)=decide (a=b):=by
  by_cases e:a=b
  . subst e;simp
  . have h : ¬(Sum.inr a : Key) = Sum.inr b := λq => e (Sum.inr.inj q)
    rw [decide_eq_false h,decide_eq_false e]
theorem yy8 (a:Int)(b:Str):decide ((Sum.inl a:Key)=Sum.inr b)=false:=decide_eq_false (λq=>nomatch q)
theorem yy9 (a:Str)(b:Int):decide ((Sum.inr a:Key)=Sum.inl b)=false:=decide_eq_false (λq=>nomatch q)
def c8 (prog:Program)(w:World):PySem.KeyKind prog w Key where
  is:=zi7
  hash:=xi1 w
  inj:=λv a b ha hb=>by
    rcases l8 ha with ⟨i,t,rfl,rfl⟩|⟨x,t,rfl,rfl⟩
    . rcases l8 hb with ⟨j, u, rfl, e⟩|⟨y, u, rfl, e⟩
      . injection e with e1 _;rw [e1]
      . exact nomatch e
    . rcases l8 hb with ⟨j, u, rfl, e⟩|⟨y, u, rfl, e⟩
      . exact nomatch e
      . injection e with e1 _;rw [e1]
  byValue:=λk v h=>by
    rcases l8 h with ⟨i,t,rfl,rfl⟩|⟨x,t,rfl,rfl⟩ <;> rfl
  pyHash:=λhv h=>by
    rcases l8 hv with ⟨i,t,rfl,rfl⟩|⟨x,t,rfl,rfl⟩
    . exact wpAny_pyHash_int h
    . exact wpAny_pyHash_str h
  eqBool:=λhu hv h=>by
    rcases l8 hu with ⟨i,t,rfl,rfl⟩|⟨x,t,rfl,rfl⟩
    . rcases l8 hv with ⟨j, u, rfl, rfl⟩|⟨y, u, rfl, rfl⟩
      . rw [yy7] at h;exact wpAny_eqBool_int h
      . rw [yy8] at h;exact SeqAt.EqAt.int_str i t y u _ _ _ _ h
    . rcases l8 hv with ⟨j, u, rfl, rfl⟩|⟨y, u, rfl, rfl⟩
      . rw [yy9] at h;exact SeqAt.EqAt.str_int x t j u _ _ _ _ h
      . rw [yz0] at h;exact wpAny_eqBool_str h
  «strs»:=λk x t v h=>by
    rcases l8 h with ⟨i,u,rfl,e⟩|⟨y,u,rfl,e⟩
    . exact nomatch e
    . injection e with e1 _
      subst e1
      cases v <;> rfl
theorem zr9 (prog:Program)(w:World)(i:Int)(t:Tok):(c8 prog w).is (.inl i) (.int i t)=true:=yf7 i t
theorem zs0 (prog:Program)(w:World)(x:Str)(t:Tok):(c8 prog w).is (.inr x) (.str x t)=true:=yf8 x t
inductive V where
  | non|bl (b:Bool)|int (i:Int)|str (x:Str)|byt (b:Array UInt8)|flt (b:UInt64)|ref (a:Addr)|ty (n:String)
  deriving DecidableEq
def o6 : V -> Value -> Prop
  | .non,u=>u=Value.none
  | .bl b,u=>u=Value.bool b
  | .int i,u=>∃t,u=Value.int i t
  | .str x,u=>∃t,u=Value.str x t
  | .byt b,u=>∃t,u=Value.bytes b t
  | .flt b,u=>∃t,u=Value.float b t
  | .ref a,u=>u=Value.ref a
  | .ty n,u=>u=Value.type n
abbrev t9:List V->List Value->Prop:=Paired o6
theorem t9.length {xs:List V}{us:List Value}(r:t9 xs us):xs.length=us.length:=Paired.length r
theorem t9.get : ∀{xs : List V} {us : List Value} {i : Nat} {x : V}, t9 xs us -> xs[i]? = some x -> ∃u, us[i]? = some u /\ o6 x u
  | _,_,_,_,.nil,e=>by simp at e
  | _,_,0,_,.cons r _,e=>by simp at e;subst e;exact ⟨_,rfl,r⟩
  | _,_,i+1,x,.cons _ t,e=>by
    obtain ⟨u,h1,h2⟩:=t9.get (i:=i) (x:=x) t (by simpa using e)
    exact ⟨u,by simpa using h1,h2⟩
theorem t9.set {x : V}{u : Value}(r : o6 x u) : ∀{xs : List V} {us : List Value} (i : Nat), t9 xs us -> t9 (xs.set i x) (us.set i u)
  | _,_,_,.nil=>.nil
  | _,_,0,.cons _ t=>.cons r t
  | _,_,i+1,.cons q t=>.cons q (t9.set r i t)
theorem t9.append : ∀{xs ys : List V} {us ws : List Value}, t9 xs us -> t9 ys ws -> t9 (xs ++ ys) (us ++ ws)
  | _,_,_,_,.nil,s=>s
  | _,_,_,_,.cons r t,s=>.cons r (t9.append t s)
theorem t9.take : ∀{xs : List V} {us : List Value} (n : Nat), t9 xs us -> t9 (xs.take n) (us.take n)
  | _,_,0,_=>.nil
  | _,_,_+1,.nil=>.nil
  | _,_,n+1,.cons r t=>.cons r (t9.take n t)
theorem t9.drop : ∀{xs : List V} {us : List Value} (n : Nat), t9 xs us -> t9 (xs.drop n) (us.drop n)
  | _,_,0,r=>r
  | _,_,_+1,.nil=>.nil
  | _,_,n+1,.cons _ t=>t9.drop n t
def zf7 : Option V -> Option Value -> Prop
  | some v,some u=>o6 v u
  | none,none=>True
  | _,_=>False
def KV {κ:Type}:List (κ×V)->List (κ×Value)->Prop:=Paired λ(p:κ×V) (q:κ×Value)=>p.1=q.1/\o6 p.2 q.2
def kV : Key -> V
  | .inl i=>.int i
  | .inr x=>.str x
inductive HO where
  | lst (xs:List V)
  | tup (xs:List V)
  | dK (kvs:List (Key×V))|dT (kvs:List (List Key×V))
  | set (S:Int->Bool) (n:Nat)
  | ins (C dx:Addr) (fs:List (Str×V))
  | own (x:Addr)
  | xd (fs:List (Str×V))
  | met (f x:Addr)
  | rng (lo hi:Int)
  | frz (o:Obj) (u:HO)
  | tbl (ps:Array Value)
  | ext (φ:Heap->Prop)
abbrev Hp:=Addr->Option HO
def upd (H:Hp)(a:Addr)(o:HO):Hp:=λb=>if b=a then some o else H b
theorem z5 {H:Hp}{a:Addr}{o:HO}:upd H a o a=some o:=by unfold upd;rw [if_pos rfl]
theorem u9 {H:Hp}{a b:Addr}{o:HO}(h:b≠a):upd H a o b=H b:=by unfold upd;rw [if_neg h]
theorem u8 {H:Hp}{a b:Addr}{o:HO}(h:H a=some o)(h':H b=none):a≠b:=by
  intro e;subst e;rw [h] at h';cases h'
def ye2 (h:Heap)(a:Addr)(items:Array Value):Prop:=∃o,h.get? a=some o/\o.cls=.type "tuple"/\∃n,o.data=.seq items n/\o.dict=none
theorem ye2.new (h:Heap)(items:Array Value):ye2 (h.push { cls:=.type "tuple",data:=.seq items }) h.objs.size items:=⟨_,aq _ rfl,rfl,_,rfl,rfl⟩
theorem ye2.is {h:Heap}{a:Addr}{items:Array Value}(x:ye2 h a items):IsTup h a items:=let ⟨o,h1,h2,n,h3,_⟩:=x;⟨o,h1,h2,n,h3⟩
section
variable (P:Program)(w:World)
def p4 (H : Hp)(h : Heap)(a : Addr) : HO -> Prop
  | .lst xs=>xs.length<=sizeLine/\∃(its:List Value) (n:Nat),t9 xs its/\h.get? a=some { cls:=.type "list",data:=.seq its.toArray n }
  | .tup xs=>xs.length<=sizeLine/\∃its:List Value,t9 xs its/\ye2 h a its.toArray
  | .dK kvs=>kvs.length<=sizeLine/\(a==sysModules)=false/\∃vs,KV kvs vs/\h.DictOf (c8 P w) a vs
  | .dT kvs=>kvs.length<=sizeLine/\(a==sysModules)=false/\∃xs:List (List Key×Addr×Value),
      Paired (λ(p:List Key×V) (q:List Key×Addr×Value)=>p.1=q.1/\H q.2.1=some (.tup (p.1.map kV))/\o6 p.2 q.2.2) kvs xs /\
      ∃o es ep,h.get? a=some o/\o.ExactDict/\o.data=.dict es ep/\es.toList=xs.map (entryOfKey (tupleKind (c8 P w)))/\(xs.map (·.1)).Nodup
  | .set S n=>h.SetOf (intKind P w) a S n
  | .ins C dx fs=>H dx=some (.own a)/\fs.length<=1000/\dx≠a/\h.get? a=some (W.instObj C dx) /\
      ∃mA,h.Ns1 dx mA/\(∀f,zf7 (fs.lookup f) (mA f))/\PySem.Within mA (fs.map (·.1))
  | .own _=>∃o,h.get? a=some o
  | .xd fs=>∃mA,h.Ns1 a mA/\∀f,zf7 (fs.lookup f) (mA f)
  | .rng lo hi=>∃t u v,h.get? a=some { cls:=.type "range",data:=.fields #[.int lo t,.int hi u,.int 1 v] }
  | .frz o u=>h.get? a=some o/\p4 H h a u
  | .tbl ps=>h.get? a=some { cls:=.none,data:=.fields ps }
  | .met f x=>h.get? a=some (W.methodObj (.ref f) (.ref x))
  | .ext φ=>φ h/\(∃o,h.get? a=some o)/\∀h1 h2:Heap,φ h1->(∀o,h1.get? a=some o->h2.get? a=some o)->φ h2
def HOk (H:Hp)(h:Heap):Prop:=∀a o,H a=some o->p4 P w H h a o
end
section
variable {P:Program}{w:World}{H H':Hp}{h h':Heap}{a:Addr}{o:HO}
theorem p4.lt (x:p4 P w H h a o):a<h.objs.size:=by
  cases o with
  | lst xs=>obtain ⟨_,_,_,_,e⟩:=x;exact ai e
  | tup xs=>obtain ⟨_,_,_,p⟩:=x;exact p.is.lt
  | dK kvs=>obtain ⟨_,_,_,_,o,_,_,e,_⟩:=x;exact ai e
  | dT kvs=>obtain ⟨_,_,_,_,o,_,_,e,_⟩:=x;exact ai e
  | set S n=>obtain ⟨o,_,_,_,e,_⟩:=x;exact ai e
  | ins C dx fs=>obtain ⟨_,_,_,e,_⟩:=x;exact ai e
  | own y=>obtain ⟨_,e⟩:=x;exact ai e
  | xd fs=>obtain ⟨_,⟨_,_,_,e,_⟩,_⟩:=x;exact ai e
  | rng lo hi=>obtain ⟨_,_,_,e⟩:=x;exact ai e
  | frz ob u=>obtain ⟨e,_⟩:=x;exact ai e
  | tbl ps=>exact ai (show h.get? a=some _ from x)
  | met f y=>exact ai (show h.get? a=some _ from x)
  | ext φ=>obtain ⟨_,⟨_,e⟩,_⟩:=x;exact ai e
theorem Paired.mapP {α β : Type}{F G : α -> β -> Prop} : ∀{l₁ : List α} {l₂ : List β}, Paired F l₁ l₂ -> (∀a b, F a b -> G a b) -> Paired G l₁ l₂
  | _,_,.nil,_=>.nil
  | _,_,.cons r t,f=>.cons (f _ _ r) (Paired.mapP t f)
theorem Paired.imp' {α β:Type}{F G:α->β->Prop}(f:∀a b,F a b->G a b){l₁:List α}{l₂:List β}(r:Paired F l₁ l₂):Paired G l₁ l₂:=Paired.mapP r f
theorem p4.stay (x : p4 P w H h a o)(k : ∀b u, (b = a∨H b = some (.own a)) -> h.get? b = some u -> h'.get? b = some u)
    (ho:∀b,H b=some (.own a)->H' b=some (.own a)) (ht:∀b xs,H b=some (.tup xs)->H' b=some (.tup xs)):p4 P w H' h' a o:=by
  induction o with
  | lst xs=>obtain ⟨z,its,n,r,e⟩:=x;exact ⟨z,its,n,r,k _ _ (.inl rfl) e⟩
  | tup xs=>obtain ⟨z,its,r,ob,e,c⟩:=x;exact ⟨z,its,r,ob,k _ _ (.inl rfl) e,c⟩
  | dK kvs=>obtain ⟨z,y,vs,r,ob,es,ep,e,c⟩:=x;exact ⟨z,y,vs,r,ob,es,ep,k _ _ (.inl rfl) e,c⟩
  | dT kvs =>
    obtain ⟨z,y,xs,r,ob,es,ep,e,c⟩:=x
    exact ⟨z,y,xs,Paired.mapP r λp q z=>⟨z.1,ht _ _ z.2.1,z.2.2⟩,ob,es,ep,k _ _ (.inl rfl) e,c⟩
  | set S n=>obtain ⟨ob,es,ep,t,e,c⟩:=x;exact ⟨ob,es,ep,t,k _ _ (.inl rfl) e,c⟩
  | ins C dx fs =>
    obtain ⟨d,z,ne,e,mA,⟨od,es,ep,e2,c⟩,r⟩:=x
    exact ⟨ho _ d,z,ne,k _ _ (.inl rfl) e,mA,⟨od,es,ep,k _ _ (.inr d) e2,c⟩,r⟩
  | own y=>obtain ⟨ob,e⟩:=x;exact ⟨ob,k _ _ (.inl rfl) e⟩
  | xd fs=>obtain ⟨mA,⟨od,es,ep,e,c⟩,r⟩:=x;exact ⟨mA,⟨od,es,ep,k _ _ (.inl rfl) e,c⟩,r⟩
  | rng lo hi=>obtain ⟨t,u,v,e⟩:=x;exact ⟨t,u,v,k _ _ (.inl rfl) e⟩
  | frz ob u ih=>obtain ⟨e,q⟩:=x;exact ⟨k _ _ (.inl rfl) e,ih q⟩
  | tbl ps =>
    have e:h.get? a=some { cls:=.none,data:=.fields ps }:=x
    show h'.get? a=some { cls:=.none,data:=.fields ps }
    exact k a _ (.inl rfl) e
  | met f y =>
    have e:h.get? a=some (W.methodObj (.ref f) (.ref y)):=x
    show h'.get? a=some (W.methodObj (.ref f) (.ref y))
    exact k a _ (.inl rfl) e
  | ext φ=>obtain ⟨p,⟨o,e⟩,st⟩:=x;exact ⟨st _ _ p λo q=>k _ _ (.inl rfl) q,⟨o,k _ _ (.inl rfl) e⟩,st⟩
theorem HOk.lt (x:HOk P w H h)(e:H a=some o):a<h.objs.size:=(x a o e).lt
theorem HOk.fresh (x:HOk P w H h)(e:h.objs.size<=a):H a=none:=by
  cases q:H a with
  | none=>rfl
  | some u=>exact absurd (aA (x.lt q) e) (aF _)
theorem HOk.kept (x:HOk P w H h)(k:∀b u,h.get? b=some u->h'.get? b=some u):HOk P w H h':=λa o e =>
  (x a o e).stay (λb u _ q=>k b u q) (λ_ q=>q) λ_ _ q=>q
theorem HOk.laid (x:HOk P w H h)(k:∀b u,h.get? b=some u->h'.get? b=some u)(hp:h.objs.size<=a)(new:p4 P w (upd H a o) h' a o):HOk P w (upd H a o) h':=λb u e=>by
  have hn:=x.fresh hp
  by_cases hb:b=a
  . subst hb;rw [z5] at e;cases e;exact new
  . rw [u9 hb] at e
    exact (x b u e).stay (λc v _ q=>k c v q) (λc q=>by rw [u9 (u8 q hn)];exact q) λc xs q=>by rw [u9 (u8 q hn)];exact q
end
def Rd (H:Hp)(a:Addr)(u:HO):Prop:=H a=some u∨∃o,H a=some (.frz o u)
theorem Rd.ok {P:Program}{w:World}{H:Hp}{h:Heap}{a:Addr}{u:HO}(r:Rd H a u)(x:HOk P w H h):p4 P w H h a u:=by
  rcases r with r|⟨o,r⟩
  . exact x a u r
  . obtain ⟨_, q⟩ := x a _ r
    exact q
def Mut : Option HO -> Prop
  | some (.lst _)=>True
  | some (.dK _)=>True
  | some (.dT _)=>True
  | some (.set _ _)=>True
  | some (.ins _ _ _)=>True
  | some (.ext _)=>True
  | _=>False
section
variable {P:Program}{w:World}{H:Hp}{h h':Heap}{x e:Addr}{o':HO}
theorem HOk.write (ok : HOk P w H h)(mu : Mut (H x))(he : e = x∨H e = some (.own x))(k : ∀b u, b ≠ e -> h.get? b = some u -> h'.get? b = some u)(heo : ∃u, h'.get? e = some u)
    (new:p4 P w (upd H x o') h' x o'):HOk P w (upd H x o') h':=λb u q=>by
  have nown:∀c y,H c=some (.own y)->c≠x:=λc y r z=>by subst z;rw [r] at mu;exact mu
  have ntup:∀c xs,H c=some (.tup xs)->c≠x:=λc xs r z=>by subst z;rw [r] at mu;exact mu
  by_cases hb:b=x
  . subst hb;rw [z5] at q;cases q;exact new
  . rw [u9 hb] at q
    by_cases hbe:b=e
    . have q':H b=some (.own x):=by
        rcases he with z|z
        . exact absurd (hbe.trans z) hb
        . rw [hbe];exact z
      rw [q] at q';cases q'
      obtain ⟨v,hv⟩:=heo
      exact ⟨v,by rw [hbe];exact hv⟩
    . refine (ok b u q).stay (λc v hc r => k c v ?_ r) (λc r => by rw [u9 (nown c b r)]; exact r) λc xs r => by rw [u9 (ntup c xs r)]; exact r
      rcases hc with rfl|hc
      . exact hbe
      . rintro rfl
        rcases he with z|z
        . exact nown c b hc z
        . rw [hc] at z;cases z;exact hb rfl
end
structure Un (fs ex:List Addr) (H H':Hp) (h h':Heap):Prop where
  keep:∀b o,h.get? b=some o->H b=none->b∉fs->b∉ex->h'.get? b=some o
  slot:∀b o,h.get? b=some o->H b=none->b∈fs->b∉ex->∃sl,h'.get? b=some { o with slots:=sl }
  free:∀b o,h.get? b=some o->H b=none->b∉ex->H' b=none
  there:∀b o,h.get? b=some o->b∉ex->∃o',h'.get? b=some o'
  tups:∀b xs,H b=some (.tup xs)->H' b=some (.tup xs)
  frzs:∀b o u,H b=some (.frz o u)->H' b=some (.frz o u)
  tbls:∀b ps,H b=some (.tbl ps)->∃more,H' b=some (.tbl (ps++more))
section
variable {fs fs' ex ex':List Addr}{H H1 H2:Hp}{h h1 h2 h':Heap}{a x e:Addr}{o:HO}
theorem Un.any (u:Un fs ex H H1 h h1){b:Addr}{ob:Obj}(q:h.get? b=some ob)(n:H b=none)(hx:b∉ex):∃sl,h1.get? b=some { ob with slots:=sl }:=by
  by_cases hb:b∈fs
  . exact u.slot b ob q n hb hx
  . exact ⟨ob.slots,u.keep b ob q n hb hx⟩
theorem Un.kept (k:∀b u,h.get? b=some u->h'.get? b=some u):Un fs ex H H h h' :=
  ⟨λb ob q _ _ _=>k b ob q,λb ob q _ _ _=>⟨ob.slots,k b ob q⟩,λ_ _ _ n _=>n,λb ob q _=>⟨ob,k b ob q⟩,λ_ _ q=>q,λ_ _ _ q=>q,λ_ ps q=>⟨#[],by rw [q];simp⟩⟩
theorem Un.refl:Un fs ex H H h h:=Un.kept λ_ _ q=>q
theorem Un.laid (k:∀b u,h.get? b=some u->h'.get? b=some u)(hp:h.objs.size<=a)(hn:H a=none):Un fs ex H (upd H a o) h h' where
  keep:=λb u q _ _ _=>k b u q
  slot:=λb u q _ _ _=>⟨u.slots,k b u q⟩
  free:=λb u q n _=>by rw [u9 (av (aA (ai q) hp))];exact n
  there:=λb u q _=>⟨u,k b u q⟩
  tups:=λb xs q=>by rw [u9 (u8 q hn)];exact q
  frzs:=λb u xs q=>by rw [u9 (u8 q hn)];exact q
  tbls:=λb ps q=>⟨#[],by rw [u9 (u8 q hn),q];simp⟩
theorem Un.write (mu:Mut (H x))(he:e=x∨H e=some (.own x))(k:∀b u,b≠e->h.get? b=some u->h'.get? b=some u)(heo:∃u,h'.get? e=some u):Un fs ex H (upd H x o) h h':=by
  have hx:∀b,H b=none->b≠x:=λb n z=>by subst z;rw [n] at mu;exact mu
  have hb:∀b,H b=none->b≠e:=λb n z=>by
    subst z
    rcases he with r|r
    . exact hx b n r
    . rw [n] at r;cases r
  have hm:∀b u,H b=some u->¬Mut (some u)->b≠x:=λb u q nm z=>by subst z;rw [q] at mu;exact nm mu
  refine ⟨λb u q n _ _=>k b u (hb b n) q,λb u q n _ _=>⟨u.slots,k b u (hb b n) q⟩,λb u q n _=>by rw [u9 (hx b n)];exact n,λb u q _=>?_,
    λb xs q=>by rw [u9 (hm b _ q λz=>z)];exact q,λb u xs q=>by rw [u9 (hm b _ q λz=>z)];exact q,λb ps q=>⟨#[],by rw [u9 (hm b _ q λz=>z),q];simp⟩⟩
  by_cases hbe:b=e
  . subst hbe;exact heo
  . exact ⟨u,k b u hbe q⟩
end
def trk (h:Heap)(H:Hp):List Addr:=(List.range h.objs.size).filter λa=>(H a).isSome
def zl4 (h:Heap)(H:Hp):Heap:=W.hideAll h (trk h H)
theorem yf4 (h:Heap)(H:Hp):(zl4 h H).objs.size=h.objs.size:=W.hideAll_size _ _
theorem yk5 {h:Heap}{H:Hp}{b:Addr}{o:Obj}(e:h.get? b=some o)(n:H b=none):(zl4 h H).get? b=some o :=
  W.hideAll_get _ e λhm=>by
    have q:(H b).isSome=true:=(cz.mp hm).2
    rw [n] at q;simp at q
theorem yt4 {h:Heap}{H:Hp}{b:Addr}{o:Obj}(e:(zl4 h H).get? b=some o):h.get? b=some o/\H b=none:=by
  have e':h.get? b=some o:=W.of_hideAll (trk h H) e
  refine ⟨e',?_⟩
  cases q:H b with
  | none=>rfl
  | some x =>
    have hm:b∈trk h H:=cz.mpr ⟨aR.mpr (ai e'),by simp [q]⟩
    have z:(zl4 h H).get? b=none:=W.hideAll_none (trk h H) hm
    rw [z] at e;cases e
def yr6 (g h:Heap)(L:Addr):List (Addr×Obj):=(List.range h.objs.size).filterMap λa=>if a=L∨(g.get? a).isSome=true then none else (h.get? a).map λo=>(a,o)
def g9 (g h:Heap)(L d:Addr):List (Addr×Obj):=(yr6 g h L).filter λp=>decide (p.1≠d)
structure Mod (K:W.Frag) (mg:Str->Option Value) (base:Heap):Prop where
  kin:K.In base
  glob:base.Ns mainGlobals mg
  blt:∃mb,base.Ns builtinsNs mb/\∀x:Str,x≠"__name__"->mb x=bootBuiltins x
  nolimit:base.NoLimit
structure Cx where
  prog:Program
  w:World
  K:W.Frag
  mg:Str->Option Value
  base:Heap
  A:Around
  N:List Str
  s₀:Shared
  H₀:Hp
  env:Env
  outer:List Env
  stack:List Env
  ex:List Addr
  fn:Str->Bool
  calm:Bool
  pn:List (Addr×Obj)
  xe:Value->Shared->Prop
def frs (l:List Env):List Addr:=l.filterMap (·.frame)
abbrev Cx.fs (X:Cx):List Addr:=frs X.outer
def Vis (sc:Scope)(x:Str):Prop:=sc.names.lookup x=some .local∨sc.names.lookup x=some .cell∨sc.names.lookup x=some .free
def Loc (sc:Scope)(x:Str):Prop:=sc.names.lookup x=some .local∨sc.names.lookup x=some .cell
def xh0 (env:Env)(h:Heap)(m:Str->Option Value)(x:Str)(u:Value):Prop :=
  (env.kindOf x=some .local/\m x=some u)∨((env.kindOf x=some .cell∨env.kindOf x=some .free)/\∃c,env.cells.lookup x=some c/\h.IsCell c (some u))
structure Cx.Ok (X:Cx):Prop where
  mod:Mod X.K X.mg X.base
  kind:X.env.scope.kind=.function
  glob:X.env.globals=mainGlobals
  blt:X.env.builtins=builtinsNs
  above:X.s₀.heap.objs.size<=X.env.locals
  inj:∀x y c,X.env.cells.lookup x=some c->X.env.cells.lookup y=some c->x=y
  has:∀x,(X.env.kindOf x=some .cell∨X.env.kindOf x=some .free)->∃c,X.env.cells.lookup x=some c
  cab:∀x c,X.fn x=true->X.env.cells.lookup x=some c->X.s₀.heap.objs.size<=c
  hd:X.calm=true->X.A.handled=none
  frames:X.A.frames=some X.stack
  stk:X.stack=X.outer∨(X.stack=X.env::X.outer/\X.env.frame=some X.env.locals)
  exf:∀b∈X.ex,b≠X.env.locals/\∀x c,X.env.cells.lookup x=some c->c≠b
  bs:∀b o,X.base.get? b=some o->X.s₀.heap.get? b=some o/\X.H₀ b=none
  bsz:X.base.objs.size<=X.s₀.heap.objs.size
  noex:∀b o,X.base.get? b=some o->b∉X.ex
  exfs:∀b∈X.ex,b∉X.fs
  funs:X.s₀.heap.FunFrames X.base X.outer
  frf:∀b∈X.fs,X.H₀ b=none
structure Inv (X:Cx) (pins:List (Addr×Obj)) (σ:List (Option V)) (H:Hp) (s:Shared):Prop where
  ok:X.Ok
  os:s.os=X.s₀.os
  bare:AllBare s.gens
  base:Un X.fs X.ex X.H₀ H X.s₀.heap s.heap
  loc:∃m,s.heap.Ns X.env.locals m/\∀(i:Nat) (x:Str) (v:V),X.N[i]?=some x->σ[i]?=some (some v)->Vis X.env.scope x->∃u,o6 v u/\xh0 X.env s.heap m x u
  cell:∀x c,X.env.cells.lookup x=some c->∃v,s.heap.IsCell c v
  free:H X.env.locals=none
  freeC:∀x c,X.env.cells.lookup x=some c->H c=none
  pin:∀p∈X.pn++pins,s.heap.get? p.1=some p.2/\H p.1=none/\p.1≠X.env.locals/\p.1∉X.fs/\∀v,p.2.data≠.cell v
  hok:HOk X.prog X.w H s.heap
  len:σ.length=X.N.length
section
variable {X:Cx}{pins:List (Addr×Obj)}{σ:List (Option V)}{H H':Hp}{s:Shared}{h':Heap}
theorem Cx.Ok.nofr (ok:X.Ok){b:Addr}{o:Obj}(e:X.base.get? b=some o):b∉X.fs:=λhb=>by
  have:=(ok.funs.mem hb).1
  rw [e] at this;cases this
theorem Inv.bs (I:Inv X pins σ H s):∀b o,X.base.get? b=some o->s.heap.get? b=some o/\H b=none:=λb o e =>
  ⟨I.base.keep b o (I.ok.bs b o e).1 (I.ok.bs b o e).2 (I.ok.nofr e) (I.ok.noex b o e),I.base.free b o (I.ok.bs b o e).1 (I.ok.bs b o e).2 (I.ok.noex b o e)⟩
theorem Inv.bk (I:Inv X pins σ H s):∀b o,X.base.get? b=some o->s.heap.get? b=some o:=λb o e=>(I.bs b o e).1
theorem Inv.mod (I:Inv X pins σ H s):Mod X.K X.mg X.base:=I.ok.mod
theorem Inv.kIn (I:Inv X pins σ H s):X.K.In s.heap:=I.ok.mod.kin.keeps I.bk
theorem Inv.fr (I:Inv X pins σ H s):∃m,Fr X.base X.env.locals s.heap m :=
  let ⟨m,hn,_⟩:=I.loc
  ⟨m,hn,I.bk,aB I.ok.bsz I.ok.above⟩
theorem Inv.lt (I:Inv X pins σ H s):X.env.locals<s.heap.objs.size:=let ⟨_,hn,_⟩:=I.loc;hn.lt
theorem Inv.sz (I:Inv X pins σ H s):X.s₀.heap.objs.size<=s.heap.objs.size:=aB I.ok.above (bI I.lt)
theorem Inv.nofs (I:Inv X pins σ H s){a:Addr}(h:s.heap.objs.size<=a):a∉X.fs:=λhb=>by
  obtain ⟨_,o,ho,_⟩:=I.ok.funs.mem hb
  exact absurd (aA (ai ho) (aB I.sz h)) (aF _)
theorem Inv.cne (I:Inv X pins σ H s):∀x c,X.env.cells.lookup x=some c->c≠X.env.locals:=λx c e z=>by
  obtain ⟨v,o,ho,hd⟩:=I.cell x c e
  obtain ⟨m,⟨o',es,ep,ho',hd',_⟩,_⟩:=I.loc
  rw [z,ho'] at ho;cases ho;rw [hd'] at hd;cases hd
theorem Inv.funs (I:Inv X pins σ H s):s.heap.FunFrames X.base X.outer:=by
  have all:∀(l:List Env),(∀b∈frs l,b∈X.fs)->X.s₀.heap.FunFrames X.base l->s.heap.FunFrames X.base l:=by
    intro l
    induction l with
    | nil=>intro _ _;trivial
    | cons env r ih =>
      intro hs hl
      obtain ⟨hk,⟨L,o,hf,hn,ho,hd⟩,hr⟩:=hl
      have hL:L∈X.fs:=hs L (by unfold frs;rw [cf,hf];exact ap)
      obtain ⟨sl,e⟩:=I.base.slot L o ho (I.ok.frf L hL) hL λz=>I.ok.exfs L z hL
      exact ⟨hk,⟨L,_,hf,hn,e,hd⟩,ih (λb hb=>hs b (by unfold frs;rw [cf,hf];exact aj _ hb)) hr⟩
  exact all X.outer (λ_ hb=>hb) I.ok.funs
theorem Inv.stack (I:Inv X pins σ H s):s.heap.FunFrames X.base X.stack:=by
  rcases I.ok.stk with e|⟨e,hf⟩
  . rw [e];exact I.funs
  . rw [e]
    obtain ⟨m,hn,_⟩:=I.loc
    refine .cons (by rw [I.ok.kind];decide) hf hn ?_ I.funs
    exact Heap.get?_none_of_le (aB I.ok.bsz I.ok.above)
theorem Inv.stkSub (I:Inv X pins σ H s):∀b∈frs X.stack,b∈X.env.locals::X.fs:=λb hb=>by
  rcases I.ok.stk with e|⟨e,hf⟩
  . rw [e] at hb;exact aj _ hb
  . rw [e] at hb
    unfold frs at hb
    rw [cf,hf] at hb
    exact hb
theorem Inv.stkFree (I:Inv X pins σ H s):∀b∈frs X.stack,H b=none:=λb hb=>by
  rcases aw.mp (I.stkSub b hb) with e|hb
  . rw [e];exact I.free
  . obtain ⟨_, o, ho, _⟩ := I.ok.funs.mem hb
    exact I.base.free b o ho (I.ok.frf b hb) λz=>I.ok.exfs b z hb
theorem Inv.step {g' : Array GenState}{t' : Nat}{d' : Drawn}{ch : List Addr}(I : Inv X pins σ H s)
    (hch:∀b∈ch,(b∈X.ex∨X.s₀.heap.objs.size<=b)/\b≠X.env.locals/\(∀x c,X.env.cells.lookup x=some c->c≠b)/\∀p∈X.pn++pins,p.1≠b)
    (keep:∀b o,b≠X.env.locals->b∉X.fs->b∉ch->s.heap.get? b=some o->H b=none->h'.get? b=some o)
    (slot:∀b o,b≠X.env.locals->b∈X.fs->b∉ch->s.heap.get? b=some o->H b=none->∃sl,h'.get? b=some { o with slots:=sl }) (free:∀b o,b∉ch->s.heap.get? b=some o->H b=none->H' b=none)
    (there:∀b o,b∉ch->s.heap.get? b=some o->∃o',h'.get? b=some o')
    (tups:∀b xs,H b=some (.tup xs)->H' b=some (.tup xs)) (frzs:∀b o u,H b=some (.frz o u)->H' b=some (.frz o u)) (tbls:∀b ps,H b=some (.tbl ps)->∃more,H' b=some (.tbl (ps++more)))
    (ns:∀m,s.heap.Ns X.env.locals m->h'.Ns X.env.locals m) (hok:HOk X.prog X.w H' h') (hg:AllBare g') :
    Inv X pins σ H' { s with heap:=h',gens:=g',drawn:=d',toks:=t' }:=by
  have neL:∀b o,X.s₀.heap.get? b=some o->b≠X.env.locals:=λb o e=>av (aA (ai e) I.ok.above)
  have neC:∀b o,X.s₀.heap.get? b=some o->b∉X.ex->b∉ch:=λb o e hx hb=>by
    rcases (hch b hb).1 with z|z
    . exact hx z
    . exact absurd (aA (ai e) z) (aF _)
  have cellK:∀x c,X.env.cells.lookup x=some c->∀v,s.heap.IsCell c v->h'.IsCell c v:=λx c e v ⟨o,ho,hd⟩=>by
    have nch:c∉ch:=λz=>(hch c z).2.2.1 x c e rfl
    by_cases hc:c∈X.fs
    . obtain ⟨sl, q⟩ := slot c o (I.cne x c e) hc nch ho (I.freeC x c e)
      exact ⟨_,q,hd⟩
    . exact ⟨o,keep c o (I.cne x c e) hc nch ho (I.freeC x c e),hd⟩
  refine ⟨I.ok,I.os,hg,⟨λb o e n hb hx=>?_,λb o e n hb hx=>?_,λb o e n hx=>?_,λb o e hx=>?_,λb xs e=>tups b xs (I.base.tups b xs e),λb o xs e=>frzs b o xs (I.base.frzs b o xs e),λb ps e=>?_⟩,?_,λx c e=>?_,?_,λx c e=>?_,λp hp=>?_,hok,I.len⟩
  . exact keep b o (neL b o e) hb (neC b o e hx) (I.base.keep b o e n hb hx) (I.base.free b o e n hx)
  . obtain ⟨sl, e1⟩ := I.base.slot b o e n hb hx
    obtain ⟨sl',e2⟩:=slot b _ (neL b o e) hb (neC b o e hx) e1 (I.base.free b o e n hx)
    exact ⟨sl',e2⟩
  . obtain ⟨o', e1⟩ := I.base.there b o e hx
    exact free b o' (neC b o e hx) e1 (I.base.free b o e n hx)
  . obtain ⟨o', e1⟩ := I.base.there b o e hx
    exact there b o' (neC b o e hx) e1
  . obtain ⟨m1, e1⟩ := I.base.tbls b ps e
    obtain ⟨m2,e2⟩:=tbls b _ e1
    exact ⟨m1++m2,by rw [e2,cE]⟩
  . obtain ⟨m, hn, hl⟩ := I.loc
    refine ⟨m,ns m hn,λi x v e1 e2 e3=>?_⟩
    obtain ⟨u,r,l⟩:=hl i x v e1 e2 e3
    refine ⟨u,r,?_⟩
    rcases l with l|⟨k,c,e,z⟩
    . exact .inl l
    . exact .inr ⟨k,c,e,cellK x c e _ z⟩
  . obtain ⟨v, z⟩ := I.cell x c e
    exact ⟨v,cellK x c e v z⟩
  . obtain ⟨m, ⟨o, _, _, ho, _⟩, _⟩ := I.loc
    exact free _ o (λz=>(hch _ z).2.1 rfl) ho I.free
  . obtain ⟨v, o, ho, hd⟩ := I.cell x c e
    exact free c o (λz=>(hch c z).2.2.1 x c e rfl) ho (I.freeC x c e)
  . obtain ⟨e, n, ne, nf, d⟩ := I.pin p hp
    have nch:p.1∉ch:=λz=>(hch p.1 z).2.2.2 p hp rfl
    exact ⟨keep p.1 p.2 ne nf nch e n,free p.1 p.2 nch e n,ne,nf,d⟩
theorem Inv.un {t':Nat}(I:Inv X pins σ H s)(u:Un X.fs [] H H' s.heap h')(hok:HOk X.prog X.w H' h'):Inv X pins σ H' { s with heap:=h',toks:=t' }:=by
  obtain ⟨m,⟨o,es,ep,ho,r⟩,_⟩:=id I.loc
  obtain ⟨sl,hL⟩:=u.any ho I.free (by simp)
  exact I.step (g':=s.gens) (d':=s.drawn) (ch:=[]) (λ_ z=>nomatch z) (λb o _ hb _ e n=>u.keep b o e n hb (by simp)) (λb o _ hb _ e n=>u.slot b o e n hb (by simp)) (λb o _ e n=>u.free b o e n (by simp)) (λb o _ e=>u.there b o e (by simp)) u.tups u.frzs u.tbls (λm' hm=>by
    obtain ⟨o',es',ep',ho',r'⟩:=hm
    rw [ho] at ho';cases ho'
    exact ⟨_,es',ep',hL,r'⟩) hok I.bare
theorem Inv.call {g' : Array GenState}{t' : Nat}{d' : Drawn}{ch : List Addr}(I : Inv X pins σ H s)(u : Un (frs X.stack) ch H H' s.heap h')(hok : HOk X.prog X.w H' h')(hg : AllBare g')
    (hch:∀b∈ch,(b∈X.ex∨X.s₀.heap.objs.size<=b)/\b≠X.env.locals/\(∀x c,X.env.cells.lookup x=some c->c≠b)/\∀p∈X.pn++pins,p.1≠b) :
    Inv X pins σ H' { s with heap:=h',gens:=g',drawn:=d',toks:=t' }:=by
  obtain ⟨m,⟨o,es,ep,ho,r⟩,_⟩:=id I.loc
  obtain ⟨sl,hL⟩:=u.any ho I.free λz=>(hch _ z).2.1 rfl
  exact I.step (ch:=ch) hch (λb o hL hb hc e n=>u.keep b o e n (λz=>(aw.mp (I.stkSub b z)).elim hL hb) hc) (λb o _ _ hc e n=>u.any e n hc) (λb o hc e n=>u.free b o e n hc) (λb o hc e=>u.there b o e hc) u.tups u.frzs u.tbls (λm' hm=>by
    obtain ⟨o',es',ep',ho',r'⟩:=hm
    rw [ho] at ho';cases ho'
    exact ⟨_,es',ep',hL,r'⟩) hok hg
theorem Inv.turned {t' : Nat}{it : Addr}(I : Inv X pins σ H s)(k : ∀b o, b ≠ it -> s.heap.get? b = some o -> h'.get? b = some o)(hn : H it = none)(hL : it ≠ X.env.locals)
    (h1:it∈X.ex∨X.s₀.heap.objs.size<=it) (h2:∀x c,X.env.cells.lookup x=some c->c≠it) (h3:∀p∈X.pn++pins,p.1≠it):Inv X pins σ H { s with heap:=h',toks:=t' }:=by
  have nit:∀b u,H b=some u->b≠it:=λb u e z=>by rw [z,hn] at e;cases e
  refine I.step (g' := s.gens) (d' := s.drawn) (ch := [it]) (λb hb => ?_) (λb o _ _ hc e _ => k b o (λz => hc (by simp [z])) e) (λb o _ _ hc e _ => ⟨o.slots, k b o (λz => hc (by simp [z])) e⟩) (λ_ _ _ _ n => n)
    (λb o hc e=>⟨o,k b o (λz=>hc (by simp [z])) e⟩) (λ_ _ e=>e) (λ_ _ _ e=>e) (λb ps e=>⟨#[],by rw [e];simp⟩) (λm hm=>?_) (λb u e=>?_) I.bare
  . have e : b = it := by simpa using hb
    subst e
    exact ⟨h1,hL,h2,h3⟩
  . obtain ⟨o, es, ep, ho, r⟩ := hm
    exact ⟨o,es,ep,k _ o (Ne.symm hL) ho,r⟩
  . refine (I.hok b u e).stay (λc v hc q => k c v ?_ q) (λ_ q => q) λ_ _ q => q
    rcases hc with z|z
    . rw [z];exact nit b u e
    . exact nit c _ z
theorem Inv.tok (I:Inv X pins σ H s)(t:Nat):Inv X pins σ H { s with toks:=t }:=I.un (h':=s.heap) (t':=t) Un.refl I.hok
theorem Inv.kept {t':Nat}(I:Inv X pins σ H s)(k:∀b u,s.heap.get? b=some u->h'.get? b=some u):Inv X pins σ H { s with heap:=h',toks:=t' }:=I.un (Un.kept k) (I.hok.kept k)
theorem Inv.laid {a : Addr}{o : HO}{t' : Nat}(I : Inv X pins σ H s)(k : ∀b u, s.heap.get? b = some u -> h'.get? b = some u)(hp : s.heap.objs.size <= a)(new : p4 X.prog X.w (upd H a o) h' a o) :
    Inv X pins σ (upd H a o) { s with heap:=h',toks:=t' }:=I.un (Un.laid k hp (I.hok.fresh hp)) (I.hok.laid k hp new)
theorem Inv.write {x e : Addr}{o : HO}{t' : Nat}(I : Inv X pins σ H s)(mu : Mut (H x))(he : e = x∨H e = some (.own x))(k : ∀b u, b ≠ e -> s.heap.get? b = some u -> h'.get? b = some u)(heo : ∃u, h'.get? e = some u)
    (new:p4 X.prog X.w (upd H x o) h' x o):Inv X pins σ (upd H x o) { s with heap:=h',toks:=t' }:=I.un (Un.write mu he k heo) (I.hok.write mu he k heo new)
theorem Inv.pins_of {pins':List (Addr×Obj)}(I:Inv X pins σ H s)(h:∀p∈pins',s.heap.get? p.1=some p.2/\H p.1=none/\p.1≠X.env.locals/\p.1∉X.fs/\∀v,p.2.data≠.cell v):Inv X pins' σ H s :=
  ⟨I.ok,I.os,I.bare,I.base,I.loc,I.cell,I.free,I.freeC,λp hp=>(bf.mp hp).elim (λz=>I.pin p (bW _ z)) (h p),I.hok,I.len⟩
theorem zd2 {N:List Str}(hN:N.Nodup){i j:Nat}{x:Str}(a:N[i]?=some x)(b:N[j]?=some x):i=j:=by
  obtain ⟨h1,e1⟩:=ar.mp a
  obtain ⟨h2,e2⟩:=ar.mp b
  exact (List.getElem_inj hN).mp (e1.trans e2.symm)
theorem N7 {M : Model}{A : Around}{E : Value -> Shared -> Prop}{i : Nat}{x : Str}{v : V}{u : Value}{Q : Unit -> Shared -> Prop}(I : Inv X pins σ H s)(hN : X.N.Nodup)(hi : X.N[i]? = some x)(hx : Loc X.env.scope x)(r : o6 v u)
    (h:∀s',Inv X pins (σ.set i (some v)) H s'->(∃a,Heap.SameBut a s.heap s'.heap/\(a=X.env.locals∨X.env.cells.lookup x=some a))->Q () s') (hf:X.fn x=true∨X.env.scope.names.lookup x=some .local:=by first|exact .inl rfl|exact .inr rfl|assumption):wpAny M A (storeName X.env x u) Q E s:=by
  obtain ⟨m,hn,hl⟩:=id I.loc
  have hcls:(X.env.scope.kind == .class || (X.env.scope.kind == .module&&X.env.locals != X.env.globals))=false:=by rw [I.ok.kind];rfl
  have hiσ:i<σ.length:=by rw [I.len];exact (ar.mp hi).1
  have cne:=I.cne
  have tracked:∀{a:Addr} {h':Heap},(∃o,s.heap.get? a=some o/\H a=none)->Heap.SameBut a s.heap h'->HOk X.prog X.w H h':=λ{a h'} ha hs b ob e=>by
    obtain ⟨_,_,hfree⟩:=ha
    refine (I.hok b ob e).stay (λc w' hc q=>(hs.2 c ?_).trans q) (λ_ q=>q) λ_ _ q=>q
    rintro rfl
    rcases hc with rfl|hc
    . rw [hfree] at e;cases e
    . rw [hfree] at hc;cases hc
  rcases hx with hk|hk
  . refine wpAny_storeName_local hk hn (λh' hn' hs => ?_) hcls
    obtain ⟨oL,_,_,hoL,_⟩:=id hn
    refine h _ ⟨I.ok,I.os,I.bare,⟨λb o e n hb hx=>?_,λb o e n hb hx=>?_,I.base.free,λb o e hx=>?_,I.base.tups,I.base.frzs,I.base.tbls⟩,⟨_,hn',λj y v' e1 e2 e3=>?_⟩,λy c e=>?_,I.free,I.freeC,λp hp=>?_,tracked ⟨oL,hoL,I.free⟩ hs,by simpa using I.len⟩ ⟨_,hs,.inl rfl⟩
    . exact (hs.2 b (av (aA (ai e) I.ok.above))).trans (I.base.keep b o e n hb hx)
    . obtain ⟨sl, e1⟩ := I.base.slot b o e n hb hx
      exact ⟨sl,(hs.2 b (av (aA (ai e) I.ok.above))).trans e1⟩
    . obtain ⟨o', e1⟩ := I.base.there b o e hx
      exact ⟨o',(hs.2 b (av (aA (ai e) I.ok.above))).trans e1⟩
    . by_cases hj : j = i
      . subst hj
        rw [hi] at e1;cases e1
        rw [cx hiσ] at e2
        cases e2
        exact ⟨u,r,.inl ⟨hk,by simp⟩⟩
      . rw [cD (Ne.symm hj)] at e2
        obtain ⟨u',r',q⟩:=hl j y v' e1 e2 e3
        refine ⟨u',r',?_⟩
        rcases q with ⟨k,e⟩|⟨k,c,e,z⟩
        . refine .inl ⟨k, ?_⟩
          have:y≠x:=λe=>hj (zd2 hN e1 (e ▸ hi))
          simp [this,e]
        . exact .inr ⟨k,c,e,z.sameBut hs (cne y c e)⟩
    . obtain ⟨w', z⟩ := I.cell y c e
      exact ⟨w',z.sameBut hs (cne y c e)⟩
    . obtain ⟨e, n, ne, nf, d⟩ := I.pin p hp
      exact ⟨(hs.2 p.1 ne).trans e,n,ne,nf,d⟩
  . have hfn:X.fn x=true:=by
      rcases hf with z|z
      . exact z
      . rw [z] at hk;cases hk
    obtain ⟨c,hc⟩:=I.ok.has x (.inl hk)
    obtain ⟨w',z⟩:=I.cell x c hc
    refine wpAny_storeName_cell I.ok.kind hk hc z (λh' hc' hs=>?_)
    obtain ⟨oc,hoc,hocd⟩:=id z
    refine h { s with heap:=h' } ⟨I.ok,I.os,I.bare,⟨λb o e n hb hx=>?_,λb o e n hb hx=>?_,I.base.free,λb o e hx=>?_,I.base.tups,I.base.frzs,I.base.tbls⟩,⟨m,hn.sameBut hs (Ne.symm (cne x c hc)),λj y v' e1 e2 e3=>?_⟩,λy c' e=>?_,I.free,I.freeC,λp hp=>?_,tracked ⟨oc,hoc,I.freeC x c hc⟩ hs,by simpa using I.len⟩ ⟨c,hs,.inr hc⟩
    . exact (hs.2 b (av (aA (ai e) (I.ok.cab x c hfn hc)))).trans (I.base.keep b o e n hb hx)
    . obtain ⟨sl, e1⟩ := I.base.slot b o e n hb hx
      exact ⟨sl,(hs.2 b (av (aA (ai e) (I.ok.cab x c hfn hc)))).trans e1⟩
    . obtain ⟨o', e1⟩ := I.base.there b o e hx
      exact ⟨o',(hs.2 b (av (aA (ai e) (I.ok.cab x c hfn hc)))).trans e1⟩
    . by_cases hj : j = i
      . subst hj
        rw [hi] at e1;cases e1
        rw [cx hiσ] at e2
        cases e2
        exact ⟨u,r,.inr ⟨.inl hk,c,hc,hc'⟩⟩
      . rw [cD (Ne.symm hj)] at e2
        obtain ⟨u',r',q⟩:=hl j y v' e1 e2 e3
        refine ⟨u',r',?_⟩
        rcases q with q|⟨k,c',e,z'⟩
        . exact .inl q
        . refine .inr ⟨k, c', e, z'.sameBut hs ?_⟩
          rintro rfl
          exact hj (zd2 hN e1 (I.ok.inj _ _ _ e hc ▸ hi))
    . by_cases hcc : c' = c
      . subst hcc;exact ⟨_,hc'⟩
      . obtain ⟨w2, z2⟩ := I.cell y c' e
        exact ⟨w2,z2.sameBut hs hcc⟩
    . obtain ⟨e, n, ne, nf, d⟩ := I.pin p hp
      refine ⟨(hs.2 p.1 ?_).trans e,n,ne,nf,d⟩
      intro q
      rw [q,hoc] at e
      have q':oc=p.2:=Option.some.inj e
      exact d w' (by rw [←q'];exact hocd)
theorem zf3 {M : Model}{A : Around}{E : Value -> Shared -> Prop}{i : Nat}{x : Str}{v : V}{u : Value}{Q : Unit -> Shared -> Prop}(I : Inv X pins σ H s)(hN : X.N.Nodup)(hi : X.N[i]? = some x)(hx : Loc X.env.scope x)(r : o6 v u)
    (h:∀s',Inv X pins (σ.set i (some v)) H s'->Q () s') (hf:X.fn x=true∨X.env.scope.names.lookup x=some .local:=by first|exact .inl rfl|exact .inr rfl|assumption):wpAny M A (storeName X.env x u) Q E s :=
  N7 I hN hi hx r (λs' I' _=>h s' I') hf
theorem Inv.call' {s' : Shared}{ch : List Addr}(I : Inv X pins σ H s)(ho : s'.os = s.os)(u : Un (frs X.stack) ch H H' s.heap s'.heap)(hok : HOk X.prog X.w H' s'.heap)(hg : AllBare s'.gens)
    (hch:∀b∈ch,(b∈X.ex∨X.s₀.heap.objs.size<=b)/\b≠X.env.locals/\(∀x c,X.env.cells.lookup x=some c->c≠b)/\∀p∈X.pn++pins,p.1≠b):Inv X pins σ H' s':=by
  obtain ⟨h',g',d',t',o'⟩:=s'
  have e:o'=s.os:=ho
  subst e
  exact I.call (g':=g') (t':=t') (d':=d') u hok hg hch
end
abbrev XK:=Value->Option Addr->Hp->Prop
abbrev St:=List (Option V)
abbrev VK:=V->Hp->Prop
abbrev TE:=St->Hp->VK->Prop
abbrev TT:=St->Hp->(Bool->Hp->Prop)->Prop
abbrev TA:=St->Hp->(List V->Hp->Prop)->Prop
structure L6 where
  nx:St->Hp->Prop
  rt:VK
  bk:St->Hp->Prop:=λ_ _=>False
  ct:St->Hp->Prop:=λ_ _=>False
abbrev TS:=L6->St->Hp->Prop
def EP (X:Cx)(pins:List (Addr×Obj))(σ:St)(Q:VK)(u:Value)(s':Shared):Prop:=∃v H',Inv X pins σ H' s'/\o6 v u/\Q v H'
def TP (X:Cx)(pins:List (Addr×Obj))(σ:St)(Q:Bool->Hp->Prop)(b:Bool)(s':Shared):Prop:=∃H',Inv X pins σ H' s'/\Q b H'
def AP (X:Cx)(pins:List (Addr×Obj))(σ:St)(Q:List V->Hp->Prop)(us:List Value)(s':Shared):Prop:=∃vs H',Inv X pins σ H' s'/\t9 vs us/\Q vs H'
def SP (X:Cx)(pins:List (Addr×Obj))(D:L6)(f:Flow)(s':Shared):Prop :=
  match f with
  | .next=>∃σ' H',Inv X pins σ' H' s'/\D.nx σ' H'
  | .brk=>∃σ' H',Inv X pins σ' H' s'/\D.bk σ' H'
  | .cont=>∃σ' H',Inv X pins σ' H' s'/\D.ct σ' H'
  | .ret u=>∃v σ' H',Inv X pins σ' H' s'/\o6 v u/\D.rt v H'
def PE (X:Cx)(e:Expr)(t:TE):Prop :=
  ∀(pins:List (Addr×Obj)) (s:Shared) (σ:St) (H:Hp) (Q:VK),Inv X pins σ H s->t σ H Q->wpAny (model X.prog X.w) X.A (eval e X.env) (EP X pins σ Q) X.xe s
def PT (X:Cx)(e:Expr)(t:TT):Prop :=
  ∀(pins:List (Addr×Obj)) (s:Shared) (σ:St) (H:Hp) (Q:Bool->Hp->Prop),Inv X pins σ H s->t σ H Q->wpAny (model X.prog X.w) X.A (isTrue e X.env (eval e X.env)) (TP X pins σ Q) X.xe s
def PW (X:Cx)(e:Expr)(t:TT):Prop :=
  ∀(whole:Sem Value) (pins:List (Addr×Obj)) (s:Shared) (σ:St) (H:Hp) (Q:Bool->Hp->Prop),Inv X pins σ H s->t σ H Q->wpAny (model X.prog X.w) X.A (isTrue e X.env whole) (TP X pins σ Q) X.xe s
theorem PW.pt {X:Cx}{e:Expr}{t:TT}(h:PW X e t):PT X e t:=h _
def PA (X:Cx)(es:List Expr)(t:TA):Prop :=
  ∀(pos:Pos) (pins:List (Addr×Obj)) (s:Shared) (σ:St) (H:Hp) (Q:List V->Hp->Prop),Inv X pins σ H s->t σ H Q->wpAny (model X.prog X.w) X.A (spliced (backTo pos (starEach es X.env))) (AP X pins σ Q) X.xe s
def PS (X:Cx)(st:Stmt)(t:TS):Prop :=
  ∀(pins:List (Addr×Obj)) (s:Shared) (σ:St) (H:Hp) (D:L6),Inv X pins σ H s->t D σ H->wpAny (model X.prog X.w) X.A (exec st X.env) (SP X pins D) X.xe s
def PSs (X:Cx)(st:List Stmt)(t:TS):Prop :=
  ∀(pins:List (Addr×Obj)) (s:Shared) (σ:St) (H:Hp) (D:L6),Inv X pins σ H s->t D σ H->wpAny (model X.prog X.w) X.A (execs st X.env) (SP X pins D) X.xe s
theorem thn {α:Type}{t:Sem α}{Q Q':α->Shared->Prop}{M:Model}{A:Around}{E:Value->Shared->Prop}{s:Shared}(h:wpAny M A t Q E s)(hQ:∀a s,Q a s->Q' a s):wpAny M A t Q' E s:=wpAny_mono h hQ λ_ _ x=>x
section
variable {X:Cx}
def xg7 (i:Nat):TE:=λσ H Q=>∃v,σ[i]?=some (some v)/\Q v H
def tC (v:V):TE:=λ_ H Q=>Q v H
theorem xb2 {i:Nat}{x:Str}{pos:Pos}(hN:X.N[i]?=some x)(hv:Vis X.env.scope x)(hd:(x==("__debug__":Str))=false:=by decide) (hcd:(x==("__classdict__":Str))=false:=by decide):PE X (.Name x pos) (xg7 i):=by
  intro pins s σ H Q I h
  obtain ⟨v,e,h⟩:=h
  obtain ⟨m,hn,hl⟩:=I.loc
  obtain ⟨u,r,l⟩:=hl i x v hN e hv
  have fin:EP X pins σ Q u s:=⟨v,H,I,r,h⟩
  rcases l with ⟨hk,hm⟩|⟨hk,c,hc,hcell⟩
  . exact wpAny_Name (wpAny_loadName_local I.ok.kind hk hn hm fin) hd
  . rcases hk with hk|hk
    . exact wpAny_Name (wpAny_loadName_cell I.ok.kind hk hc hcell fin) hd
    . exact wpAny_Name (wpAny_loadName_free I.ok.kind hk hc hcell fin hcd) hd
theorem z8 {i j pos}:PE X (.Constant (.int i) j pos) (tC (.int i)):=λ_ _ _ H _ I h=>wpAny_Constant_int ⟨.int i,H,I.tok _,⟨_,rfl⟩,h⟩
theorem Y3 {b j pos}:PE X (.Constant (.bool b) j pos) (tC (.bl b)):=λ_ _ _ H _ I h=>Constant_bool ⟨.bl b,H,I,rfl,h⟩
theorem zz1 {j pos}:PE X (.Constant .none j pos) (tC .non):=λ_ _ _ H _ I h=>Constant_none ⟨.non,H,I,rfl,h⟩
theorem o8 {x j pos}:PE X (.Constant (.str x) j pos) (tC (.str x)):=λ_ _ _ H _ I h=>Calls.Constant_str ⟨.str x,H,I.tok _,⟨_,rfl⟩,h⟩
def Gl (X:Cx)(x:Str):Prop:=X.env.kindOf x=some .globalImplicit
theorem N4 {E : Value -> Shared -> Prop}{pins : List (Addr×Obj)}{s : Shared}{σ : St}{H : Hp}{x : Str}{u : Value}{pos : Pos}{Q : Value -> Shared -> Prop}(I : Inv X pins σ H s)(hg : Gl X x)(hm : X.mg x = some u)(h : Q u s)
    (hd:(x==("__debug__":Str))=false:=by decide):wpAny (model X.prog X.w) X.A (eval (.Name x pos) X.env) Q E s :=
  Calls.Name_function_global I.ok.kind hg (Calls.loadGlobal_global (by rw [I.ok.glob];exact I.mod.glob.keeps I.bk) hm h) hd
theorem zm2 {E : Value -> Shared -> Prop}{pins : List (Addr×Obj)}{s : Shared}{σ : St}{H : Hp}{x : Str}{u : Value}{pos : Pos}{Q : Value -> Shared -> Prop}(I : Inv X pins σ H s)(hg : Gl X x)(hm : X.mg x = none)(hv : bootBuiltins x = some u)(h : Q u s)
    (hn:x≠"__name__":=by decide) (hd:(x==("__debug__":Str))=false:=by decide):wpAny (model X.prog X.w) X.A (eval (.Name x pos) X.env) Q E s:=by
  obtain ⟨mb,h1,h2⟩:=I.mod.blt
  exact Calls.Name_function_global I.ok.kind hg (Calls.loadGlobal_builtin (by rw [I.ok.glob];exact I.mod.glob.keeps I.bk) hm (by rw [I.ok.blt];exact h1.keeps I.bk) ((h2 x hn).trans hv) h) hd
theorem F6 {x:Str}{v:V}{u:Value}{pos:Pos}(hg:Gl X x)(hm:X.mg x=some u)(r:o6 v u)(hd:(x==("__debug__":Str))=false:=by decide):PE X (.Name x pos) (tC v) :=
  λ_ _ _ H _ I h=>N4 I hg hm ⟨v,H,I,r,h⟩ hd
theorem e9 {x:Str}{v:V}{u:Value}{pos:Pos}(hg:Gl X x)(hm:X.mg x=none)(hv:bootBuiltins x=some u)(r:o6 v u)(hn:x≠"__name__":=by decide) (hd:(x==("__debug__":Str))=false:=by decide):PE X (.Name x pos) (tC v) :=
  λ_ _ _ H _ I h=>zm2 I hg hm hv ⟨v,H,I,r,h⟩ hn hd
variable {a b:Expr}{ta tb:TE}{pos:Pos}
def tB (t:TE):TT:=λσ H Q=>t σ H λx H1=>∃c,x=.bl c/\Q c H1
theorem f8 {e:Expr}{t:TE}(h:PE X e t)(he:∀whole,isTrue e X.env whole=(do let v ←whole;standAt e.pos;holding [v] (truthy v)):=by intro _;rfl):PT X e (tB t):=by
  intro pins s σ H Q I hw
  refine isTrue_plain (thn (h pins s σ H _ I hw) λv s1 ⟨x,H1,I1,r1,q1⟩=>?_) (he _)
  obtain ⟨d,rfl,q⟩:=q1
  cases r1
  exact wpAny_truthy_bool ⟨H1,I1,q⟩
variable {tA tB':TT}{g9:List Expr}
def xi8 (t u:TT):TT:=λσ H Q=>t σ H λc H1=>if c=true then u σ H1 Q else Q false H1
def tOr (t u:TT):TT:=λσ H Q=>t σ H λc H1=>if c=true then Q true H1 else u σ H1 Q
def xj3 (t:TT):TT:=λσ H Q=>t σ H λc H1=>Q (!c) H1
theorem W1 (ha:PT X a tA):PW X (.BoolOp .And [a] pos) tA:=by
  intro wh pins s σ H Q I h
  refine isTrue_and (thn (ha pins s σ H Q I h) λc s1 e=>?_)
  cases c with
  | true=>exact isTrue_and_nil e
  | false=>exact e
theorem R5 (ha:PT X a tA):PW X (.BoolOp .Or [a] pos) tA:=by
  intro wh pins s σ H Q I h
  refine isTrue_or (thn (ha pins s σ H Q I h) λc s1 e=>?_)
  cases c with
  | false=>exact isTrue_or_nil e
  | true=>exact e
theorem R4 (ha:PT X a tA)(hb:PW X (.BoolOp .And (b::g9) pos) tB'):PW X (.BoolOp .And (a::b::g9) pos) (xi8 tA tB'):=by
  intro wh pins s σ H Q I h
  refine isTrue_and (thn (ha pins s σ H _ I h) λc s1 ⟨H1,I1,q1⟩=>?_)
  cases c with
  | true=>exact hb wh pins s1 σ H1 Q I1 q1
  | false=>exact ⟨H1,I1,q1⟩
theorem L0 (ha:PT X a tA)(hb:PW X (.BoolOp .Or (b::g9) pos) tB'):PW X (.BoolOp .Or (a::b::g9) pos) (tOr tA tB'):=by
  intro wh pins s σ H Q I h
  refine isTrue_or (thn (ha pins s σ H _ I h) λc s1 ⟨H1,I1,q1⟩=>?_)
  cases c with
  | true=>exact ⟨H1,I1,q1⟩
  | false=>exact hb wh pins s1 σ H1 Q I1 q1
theorem d8 (ha:PT X a tA):PT X (.UnaryOp .Not a pos) (xj3 tA):=by
  intro pins s σ H Q I h
  exact isTrue_not (ha pins s σ H (λc H1=>Q (!c) H1) I h)
def xg0 (ta tb:TE):TE:=λσ H Q=>ta σ H λx H1=>∃c,x=.bl c/\if c=true then tb σ H1 Q else Q (.bl false) H1
def xg5 (ta:TE):TE:=λσ H Q=>ta σ H λx H1=>∃c,x=.bl c/\Q (.bl (!c)) H1
theorem C1 {op}{t:TE}(h:PE X a t):PE X (.BoolOp op [a] pos) t:=λpins s σ H Q I hw=>BoolOp_one (h pins s σ H Q I hw)
theorem K5 (ha:PE X a ta)(hb:PE X (.BoolOp .And (b::g9) pos) tb):PE X (.BoolOp .And (a::b::g9) pos) (xg0 ta tb):=by
  intro pins s σ H Q I h
  refine BoolOp_and (thn (ha pins s σ H _ I h) λv s1 ⟨x,H1,I1,r1,q1⟩=>?_)
  obtain ⟨c,rfl,q1⟩:=q1
  cases r1
  refine wpAny_truthy_bool ?_
  cases c with
  | true=>exact hb pins s1 σ H1 Q I1 q1
  | false=>exact ⟨.bl false,H1,I1,rfl,q1⟩
theorem zz2 (ha:PE X a ta):PE X (.UnaryOp .Not a pos) (xg5 ta):=by
  intro pins s σ H Q I h
  refine UnaryOp_ (thn (ha pins s σ H _ I h) λv s1 ⟨x,H1,I1,r1,q1⟩=>?_)
  obtain ⟨c,rfl,q1⟩:=q1
  cases r1
  exact not_of (wpAny_truthy_bool ⟨.bl (!c),H1,I1,rfl,q1⟩)
end
def SqL (K:W.Frag)(H:Hp)(a:Addr)(xs:List V):Prop :=
  Rd H a (.lst xs) ∨
    ∃(o:Obj) (its:Array Value) (n:Nat),K.lookup a=some o/\o.cls=.type "list"/\o.dict=none/\o.data=.seq its n/\its.size<=sizeLine/\t9 xs its.toList
def SqT (K:W.Frag)(H:Hp)(a:Addr)(xs:List V):Prop :=
  Rd H a (.tup xs) ∨
    ∃(o:Obj) (its:Array Value) (n:Nat),K.lookup a=some o/\o.cls=.type "tuple"/\o.data=.seq its n/\its.size<=sizeLine/\t9 xs its.toList
def xh2 : Value -> Option V
  | .none=>some .non
  | .bool b=>some (.bl b)
  | .int i _=>some (.int i)
  | .str x _=>some (.str x)
  | .bytes b _=>some (.byt b)
  | .float b _=>some (.flt b)
  | .ref a=>some (.ref a)
  | .type n=>some (.ty n)
  | _=>none
theorem o6.abs {x:V}{u:Value}(r:o6 x u):xh2 u=some x:=by
  cases x with
  | non=>cases r;rfl
  | bl _=>cases r;rfl
  | int _=>obtain ⟨t,rfl⟩:=r;rfl
  | str _=>obtain ⟨t,rfl⟩:=r;rfl
  | byt _=>obtain ⟨t,rfl⟩:=r;rfl
  | flt _=>obtain ⟨t,rfl⟩:=r;rfl
  | ref _=>cases r;rfl
  | ty _=>cases r;rfl
theorem o6.inj {x y:V}{u:Value}(r:o6 x u)(q:o6 y u):x=y:=Option.some.inj (r.abs.symm.trans q.abs)
theorem t9.inj : ∀{xs ys : List V} {us : List Value}, t9 xs us -> t9 ys us -> xs = ys
  | _,_,_,.nil,.nil=>rfl
  | _,_,_,.cons r t,.cons r' t'=>by rw [r.inj r',t9.inj t t']
section
variable {X:Cx}{pins:List (Addr×Obj)}{σ:St}{H:Hp}{s:Shared}{a:Addr}{xs ys:List V}
theorem SqL.of {K:W.Frag}(h:H a=some (.lst xs)):SqL K H a xs:=.inl (.inl h)
theorem SqT.of {K:W.Frag}(h:H a=some (.tup xs)):SqT K H a xs:=.inl (.inl h)
theorem Inv.list (I:Inv X pins σ H s)(h:SqL X.K H a xs):∃its:List Value,t9 xs its/\PlainL s.heap a its.toArray/\xs.length<=sizeLine:=by
  rcases h with h|⟨o,its,n,hk,hc,hd,hs,hz,r⟩
  . obtain ⟨z, its, n, r, e⟩ := h.ok I.hok
    exact ⟨its,r,⟨_,n,e,rfl,rfl,rfl⟩,z⟩
  . refine ⟨its.toList, r, ⟨o, n, I.kIn a o hk, hc, hd, by simpa using hs⟩, ?_⟩
    have e:=r.length
    simp only [ak] at e
    omega
theorem Inv.tuple (I:Inv X pins σ H s)(h:SqT X.K H a xs):∃its:List Value,t9 xs its/\IsTup s.heap a its.toArray/\xs.length<=sizeLine:=by
  rcases h with h|⟨o,its,n,hk,hc,hs,hz,r⟩
  . obtain ⟨z, its, r, p⟩ := h.ok I.hok
    exact ⟨its,r,p.is,z⟩
  . refine ⟨its.toList, r, ⟨o, I.kIn a o hk, hc, n, by simpa using hs⟩, ?_⟩
    have e:=r.length
    simp only [ak] at e
    omega
theorem Inv.list_inj (I:Inv X pins σ H s)(h:SqL X.K H a xs)(h':SqL X.K H a ys):xs=ys:=by
  obtain ⟨its,r,⟨o,n,e,_,_,d⟩,_⟩:=I.list h
  obtain ⟨its',r',⟨o',n',e',_,_,d'⟩,_⟩:=I.list h'
  rw [e] at e';cases e'
  rw [d] at d'
  injection d' with d1 _
  have:its=its':=by simpa using congrArg Array.toList d1
  subst this
  exact r.inj r'
theorem Inv.tuple_inj (I:Inv X pins σ H s)(h:SqT X.K H a xs)(h':SqT X.K H a ys):xs=ys:=by
  obtain ⟨its,r,⟨o,e,_,n,d⟩,_⟩:=I.tuple h
  obtain ⟨its',r',⟨o',e',_,n',d'⟩,_⟩:=I.tuple h'
  rw [e] at e';cases e'
  rw [d] at d'
  injection d' with d1 _
  have:its=its':=by simpa using congrArg Array.toList d1
  subst this
  exact r.inj r'
end
abbrev Cx.wish (X:Cx) (E:Value->Shared->Prop):Cx:={ X with xe:=E }
abbrev Cx.nox (X:Cx):Cx:=X.wish λ_ _=>False
theorem Cx.Ok.wish {X:Cx}(ok:X.Ok)(E:Value->Shared->Prop):(X.wish E).Ok :=
  ⟨ok.mod,ok.kind,ok.glob,ok.blt,ok.above,ok.inj,ok.has,ok.cab,ok.hd,ok.frames,ok.stk,ok.exf,ok.bs,ok.bsz,ok.noex,ok.exfs,ok.funs,ok.frf⟩
theorem Cx.Ok.unwish {X:Cx}{E:Value->Shared->Prop}(ok:(X.wish E).Ok):X.Ok :=
  ⟨ok.mod,ok.kind,ok.glob,ok.blt,ok.above,ok.inj,ok.has,ok.cab,ok.hd,ok.frames,ok.stk,ok.exf,ok.bs,ok.bsz,ok.noex,ok.exfs,ok.funs,ok.frf⟩
section
variable {X:Cx}{pins:List (Addr×Obj)}{σ:St}{H:Hp}{s:Shared}{E:Value->Shared->Prop}
theorem Inv.wish (I:Inv X pins σ H s)(E:Value->Shared->Prop):Inv (X.wish E) pins σ H s:=⟨I.ok.wish E,I.os,I.bare,I.base,I.loc,I.cell,I.free,I.freeC,I.pin,I.hok,I.len⟩
theorem Inv.unwish (I:Inv (X.wish E) pins σ H s):Inv X pins σ H s:=⟨I.ok.unwish,I.os,I.bare,I.base,I.loc,I.cell,I.free,I.freeC,I.pin,I.hok,I.len⟩
theorem SP.unwish {D:L6}{f:Flow}{s':Shared}(h:SP (X.wish E) pins D f s'):SP X pins D f s':=by
  cases f with
  | next=>obtain ⟨σ',H',I,q⟩:=h;exact ⟨σ',H',I.unwish,q⟩
  | brk=>obtain ⟨σ',H',I,q⟩:=h;exact ⟨σ',H',I.unwish,q⟩
  | cont=>obtain ⟨σ',H',I,q⟩:=h;exact ⟨σ',H',I.unwish,q⟩
  | ret u=>obtain ⟨v,σ',H',I,r,q⟩:=h;exact ⟨v,σ',H',I.unwish,r,q⟩
theorem PSs.nox {st:List Stmt}{t:TS}(h:PSs X.nox st t):PSs X st t:=λpins s σ H D I hw =>
  wpAny_mono (h pins s σ H D (I.wish _) hw) (λ_ _ q=>q.unwish) λ_ _ z=>False.elim z
end
section
variable {X:Cx}{st:Stmt}{g9:List Stmt}{t u:TS}{e:Expr}{te:TE}{pos:Pos}
def yw9:TS:=λD σ H=>D.nx σ H
def yv3 (t u:TS):TS:=λD σ H=>t { D with nx:=u D } σ H
theorem y9:PSs X [] yw9:=λ_ _ σ H _ I h=>wpAny_execs_nil ⟨σ,H,I,h⟩
theorem v8 (h1:PS X st t)(h2:PSs X g9 u):PSs X (st::g9) (yv3 t u):=by
  intro pins s σ H D I h
  refine wpAny_execs_cons (thn (h1 pins s σ H { D with nx:=u D } I h) λf s1 q=>?_)
  cases f with
  | next =>
    obtain ⟨σ',H',I',q⟩:=q
    exact h2 pins s1 σ' H' D I' q
  | ret v=>exact q
  | brk=>exact q
  | cont=>exact q
theorem z7 (h1:PS X st t):PSs X [st] t:=by
  intro pins s σ H D I h
  refine wpAny_execs_cons (thn (h1 pins s σ H D I h) λf s1 q=>?_)
  cases f with
  | next=>exact wpAny_execs_nil q
  | ret v=>exact q
  | brk=>exact q
  | cont=>exact q
theorem Inv.quiet {pins:List (Addr×Obj)}{σ:St}{H:Hp}{s:Shared}(I:Inv X pins σ H s):interactive X.env=false:=by simp [interactive,I.ok.kind]
def xg3 (te:TE):TS:=λD σ H=>te σ H λ_ H1=>D.nx σ H1
theorem c9 (he:PE X e te)(hs:swapsWith e none pos.line X.env=pure false:=by rfl):PS X (.Expr e pos) (xg3 te):=by
  intro pins s σ H D I h
  exact wpAny_Expr_any (thn (he pins s σ H _ I h) λv s1 ⟨x,H1,I1,r1,q1⟩=>⟨σ,H1,I1,q1⟩) I.quiet hs
def xj4 (te:TE):TS:=λD σ H=>te σ H D.rt
theorem y8 (he:PE X e te):PS X (.Return (some e) pos) (xj4 te):=by
  intro pins s σ H D I h
  exact wpAny_Return_some (thn (he pins s σ H _ I h) λv s1 ⟨x,H1,I1,r1,q1⟩=>⟨x,σ,H1,I1,r1,q1⟩)
def xg4 (c:TT)(t u:TS):TS:=λD σ H=>c σ H λb H1=>if b=true then t D σ H1 else u D σ H1
theorem t8 {c:Expr}{a b:List Stmt}{tc:TT}(hc:PT X c tc)(ha:PSs X a t)(hb:PSs X b u):PS X (.If c a b pos) (xg4 tc t u):=by
  intro pins s σ H D I h
  refine wpAny_If (thn (hc pins s σ H _ I h) λd s1 ⟨H1,I1,q1⟩=>?_)
  cases d with
  | true=>exact ha pins s1 σ H1 D I1 q1
  | false=>exact hb pins s1 σ H1 D I1 q1
end
abbrev TG:=V->St->Hp->(St->Hp->Prop)->Prop
abbrev TGs:=List V->St->Hp->(St->Hp->Prop)->Prop
def PG (X:Cx)(target:Expr)(t:TG):Prop :=
  ∀(pins:List (Addr×Obj)) (s:Shared) (σ:St) (H:Hp) (v:V) (u:Value) (Q:St->Hp->Prop),Inv X pins σ H s->o6 v u->t v σ H Q ->
    wpAny (model X.prog X.w) X.A (assign target X.env u) (λ_ s'=>∃σ' H',Inv X pins σ' H' s'/\Q σ' H') X.xe s
def PGs (X:Cx)(ts:List Expr)(t:TGs):Prop :=
  ∀(pins:List (Addr×Obj)) (s:Shared) (σ:St) (H:Hp) (vs:List V) (us:List Value) (Q:St->Hp->Prop),Inv X pins σ H s->t9 vs us->t vs σ H Q ->
    wpAny (model X.prog X.w) X.A (assignInOrder ((assignEach ts X.env).map (·.2)) us) (λ_ s'=>∃σ' H',Inv X pins σ' H' s'/\Q σ' H') X.xe s
abbrev yx6:=V->V->V->Hp->(Hp->Prop)->Prop
def xc8 (X:Cx)(t:yx6):Prop :=
  ∀(pins:List (Addr×Obj)) (s:Shared) (σ:St) (H:Hp) (o i v:V) (ov iv u:Value) (Q:Hp->Prop),Inv X pins σ H s->o6 o ov->o6 i iv->o6 v u->t o i v H Q ->
    wpAny (model X.prog X.w) X.A (setItem ov iv u) (λ_ s'=>∃H',Inv X pins σ H' s'/\Q H') X.xe s
section
variable {X:Cx}{pos:Pos}
def Y1 (i:Nat):TG:=λv σ H Q=>Q (σ.set i (some v)) H
theorem k8 {i:Nat}{x:Str}(hN:X.N.Nodup)(hi:X.N[i]?=some x)(hx:Loc X.env.scope x)(hf:X.fn x=true∨X.env.scope.names.lookup x=some .local:=by first|exact .inl rfl|exact .inr rfl|assumption):PG X (.Name x pos) (Y1 i):=by
  intro pins s σ H v u Q I r h
  exact wpAny_assign_Name (zf3 I hN hi hx r (λs' I'=>⟨_,H,I',h⟩) hf)
def xh4:TGs:=λvs σ H Q=>vs=[]/\Q σ H
def xd3 (t:TG)(u:TGs):TGs:=λvs σ H Q=>∃v r,vs=v::r/\t v σ H λσ' H'=>u r σ' H' Q
theorem yc7:PGs X [] xh4:=by
  intro pins s σ H vs us Q I r h
  obtain ⟨e,h⟩:=h
  subst e
  cases r
  exact assignInOrder_nil ⟨σ,H,I,h⟩
theorem F7 {e : Expr}{es : List Expr}{t : TG}{u : TGs}(h1 : PG X e t)(h2 : PGs X es u)
    (hs:(assignEach (e::es) X.env).map (·.2)=assign e X.env::(assignEach es X.env).map (·.2):=by rfl):PGs X (e::es) (xd3 t u):=by
  intro pins s σ H vs us Q I r h
  obtain ⟨v,vr,e1,h⟩:=h
  subst e1
  cases r with
  | cons r rr =>
    rw [hs]
    refine assignInOrder_cons (thn (h1 pins s σ H _ _ _ I r h) λ_ s1 ⟨σ1,H1,I1,q1⟩=>?_)
    exact h2 pins s1 σ1 H1 _ _ Q I1 rr q1
def xh6 (K:W.Frag)(n:Nat)(t:TGs):TG:=λv σ H Q=>∃a xs,v=.ref a/\SqT K H a xs/\xs.length=n/\t xs σ H Q
theorem yn8 {es : List Expr}{k : Nat}{t : TGs}{n : Nat}(hc : X.calm = true)(h : PGs X es t)
    (hn:(assignEach es X.env).length=n:=by rfl) (hst:(assignEach es X.env).findIdx? (·.1)=none:=by rfl):PG X (.Tuple es k pos) (xh6 X.K n t):=by
  intro pins s σ H v u Q I r hw
  obtain ⟨a,xs,e1,hq,hl,hw⟩:=hw
  subst e1
  cases r
  obtain ⟨its,rv,ht,hz⟩:=I.tuple hq
  refine assign_Tuple_tuple (I.ok.hd hc) ht (by simp [hn,←hl,rv.length]) hst λh' hx=>?_
  have I1:Inv X pins σ H { s with heap:=h' }:=I.kept (t':=s.toks) λb o e=>hx b o (av (ai e)) e
  exact h pins _ σ H xs _ Q I1 (by simpa using rv) hw
def xh5 (to ti:TE)(t:yx6):TG:=λv σ H Q=>to σ H λo H1=>ti σ H1 λi H2=>t o i v H2 λH3=>Q σ H3
theorem zn7 {o i : Expr}{to ti : TE}{t : yx6}(ho : PE X o to)(hi : PE X i ti)(hs : xc8 X t)
    (ha : ∀v, assign (.Subscript o i pos) X.env v = (do
      let ov ←holding [v] (eval o X.env)
      let iv ←holding [v,ov] (eval i X.env)
      standAt pos
      holding [v,ov,iv] (setItem ov iv v)
      release [v,ov,iv] []):=by intro _;rfl):PG X (.Subscript o i pos) (xh5 to ti t):=by
  intro pins s σ H v u Q I r h
  rw [ha]
  refine wpAny_bind (wpAny_holding (thn (ho pins s σ H _ I h) λov s1 ⟨x,H1,I1,r1,q1⟩=>?_))
  refine wpAny_bind (wpAny_holding (thn (hi pins s1 σ H1 _ I1 q1) λiv s2 ⟨y,H2,I2,r2,q2⟩=>?_))
  refine wpAny_bind (wpAny_standAt (wpAny_bind (wpAny_holding (thn (hs pins s2 σ H2 x y v ov iv u _ I2 r1 r2 r q2) λ_ s3 ⟨H3,I3,q3⟩=>?_))))
  exact wpAny_release ⟨σ,H3,I3,q3⟩
def ya3 (te:TE)(g:TG):TS:=λD σ H=>te σ H λx H1=>g x σ H1 D.nx
theorem C4 {tg e : Expr}{te : TE}{g : TG}(he : PE X e te)(hg : PG X tg g)(hs : swapsWithSole [tg] e pos.line X.env = pure false := by rfl)(hw : swappedStores [tg] e X.env = pure none := by rfl)
    (h1:(assignEach [tg] X.env).map (·.2)=[assign tg X.env]:=by rfl):PS X (.Assign [tg] e pos) (ya3 te g):=by
  intro pins s σ H D I h
  refine wpAny_Assign_stores (thn (he pins s σ H _ I h) λv s1 ⟨x,H1,I1,r1,q1⟩=>?_) hs hw
  rw [h1]
  exact thn (hg pins s1 σ H1 x v _ I1 r1 q1) λ_ s2 q=>q
theorem n3 {i : Nat}{x : Str}{e : Expr}{te : TE}{pos' : Pos}(hN : X.N.Nodup)(hi : X.N[i]? = some x)(hx : Loc X.env.scope x)(he : PE X e te)(hs : swapsWith e (some (.Name x pos')) pos.line X.env = pure false := by rfl)(hf : X.fn x = true∨X.env.scope.names.lookup x = some .local := by first|exact .inl rfl|exact .inr rfl|assumption) :
    PS X (.Assign [.Name x pos'] e pos) (ya3 te (Y1 i)):=by
  intro pins s σ H D I h
  refine wpAny_Assign_Name (thn (he pins s σ H _ I h) λv s1 ⟨y,H1,I1,r1,q1⟩=>?_) hs
  exact zf3 I1 hN hi hx r1 (λs2 I2=>⟨_,H1,I2,q1⟩) hf
end
section
variable {X:Cx}{pos:Pos}
end
structure It where
  go:Nat->Hp->Prop
  yld:Nat->Hp->V->Hp->Prop
  stop:Nat->Hp->Prop
def zb3 (X:Cx)(pins:List (Addr×Obj))(H:Hp)(b:Addr):Prop :=
  H b=none/\b≠X.env.locals/\b∉X.fs/\(b∈X.ex∨X.s₀.heap.objs.size<=b)/\(∀x c,X.env.cells.lookup x=some c->c≠b)/\∀p∈X.pn++pins,p.1≠b
theorem Inv.fpOk {X:Cx}{pins:List (Addr×Obj)}{σ:St}{H H':Hp}{s:Shared}{b:Addr}(I:Inv X pins σ H s)(hb:s.heap.objs.size<=b)(hn:H' b=none):zb3 X pins H' b:=by
  refine ⟨hn,ci (aA I.lt hb),I.nofs hb,.inr (aB I.sz hb),λx c e z=>?_,λp hp z=>?_⟩
  . obtain ⟨v, q⟩ := I.cell x c e
    exact absurd (aA q.lt (by rw [z];exact hb)) (aF _)
  . exact absurd (aA (ai (I.pin p hp).1) (by rw [z];exact hb)) (aF _)
structure yr4 (P:Program) (w:World) (K:W.Frag) (tg:Expr) (J:It) (fp:List Addr) (it:Addr) (tn:Nat->Heap->Prop):Prop where
  mem:it∈fp
  obj:∀i h,tn i h->∀b∈fp,∃o,h.get? b=some o/\∀v,o.data≠.cell v
  keep:∀i h h',tn i h->(∀b∈fp,∀o,h.get? b=some o->h'.get? b=some o)->tn i h'
  item:∀(X:Cx),X.prog=P->X.w=w->X.K=K->X.calm=true->∀(i:Nat) (pins:List (Addr×Obj)) (s:Shared) (σ:St) (H:Hp) (E:Value->Shared->Prop),Inv X pins σ H s->(∀b∈fp,zb3 X pins H b)->tn i s.heap->J.go i H ->
    wpAny (model P w) X.A (pyNext (.ref it)) (λr s1=>∃u,r=some u /\
      wpAny (model P w) X.A (letOwnedTupleGo tg (.ref it) u) (λ_ s2=>∃x H',Inv X pins σ H' s2/\o6 x u/\J.yld i H x H'/\tn (i+1) s2.heap/\∀b∈fp,H' b=none) E s1) E s
  done:∀(X:Cx),X.prog=P->X.w=w->X.K=K->X.calm=true->∀(i:Nat) (pins:List (Addr×Obj)) (s:Shared) (σ:St) (H:Hp) (E:Value->Shared->Prop),Inv X pins σ H s->(∀b∈fp,zb3 X pins H b)->tn i s.heap->J.stop i H ->
    wpAny (model P w) X.A (pyNext (.ref it)) (λr s1=>r=none/\Inv X pins σ H s1) E s
  self:∀(A:Around) (i:Nat) (s:Shared) (Q:Value->Shared->Prop) (E:Value->Shared->Prop),tn i s.heap->Q (.ref it) s->wpAny (model P w) A (pyIter (.ref it)) Q E s
abbrev TI:=St->Hp->(It->Hp->Prop)->Prop
def PIE (X:Cx)(pins:List (Addr×Obj))(σ:St)(tg:Expr)(R:It->Hp->Prop)(itv:Value)(s2:Shared):Prop :=
  ∃(it:Addr) (fp:List Addr) (tn:Nat->Heap->Prop) (J:It) (H':Hp),itv=.ref it/\Inv X pins σ H' s2/\yr4 X.prog X.w X.K tg J fp it tn/\tn 0 s2.heap/\(∀b∈fp,zb3 X pins H' b)/\R J H'
def PI (X:Cx)(tg iter:Expr)(wi:TI):Prop :=
  ∀(pins:List (Addr×Obj)) (s:Shared) (σ:St) (H:Hp) (R:It->Hp->Prop),Inv X pins σ H s->wi σ H R ->
    wpAny (model X.prog X.w) X.A (eval iter X.env) (λv s1=>wpAny (model X.prog X.w) X.A (pyIter v) (PIE X pins σ tg R) X.xe s1) X.xe s
theorem yk3 {M : Model}{A : Around}{E : Value -> Shared -> Prop}{s : Shared}{tg : Expr}{it : Addr}{u : Value}{o : Obj}{n : String}{vs : Array Value}{Q : Unit -> Shared -> Prop}(ho : s.heap.get? it = some o)(hc : o.cls = .type n)(hd : o.data = .fields vs)
    (hn:["enumerate","zip","dict_itemiterator","dict_reverseitemiterator","odict_iterator","itertools.zip_longest","itertools.pairwise"].contains n=false) (hQ:Q () s):wpAny M A (letOwnedTupleGo tg (.ref it) u) Q E s:=by
  unfold letOwnedTupleGo
  cases tg <;> first
    | exact wpAny_pure hQ
    | (cases u <;> first
        | exact wpAny_pure hQ
        | (refine wpAny_bind (wpAny_load ho ?_)
           rw [hc,hd]
           show wpAny M A (if (["enumerate","zip","dict_itemiterator","dict_reverseitemiterator","odict_iterator","itertools.zip_longest","itertools.pairwise"].contains n&&vs[0]?==some (rawInt _))=true then _ else _) Q E s
           rw [if_neg (by intro h;rw [hn,cR] at h;cases h)]
           exact wpAny_pure hQ))
def Itl (K:W.Frag)(a:Addr):It :=
  ⟨λi H=>∃xs x,SqL K H a xs/\xs[i]?=some x,λi H x H'=>H'=H/\∀xs,SqL K H a xs->xs[i]?=some x,λi H=>∃xs,SqL K H a xs/\xs.length<=i⟩
def Itt (K:W.Frag)(a:Addr):It :=
  ⟨λi H=>∃xs x,SqT K H a xs/\xs[i]?=some x,λi H x H'=>H'=H/\∀xs,SqT K H a xs->xs[i]?=some x,λi H=>∃xs,SqT K H a xs/\xs.length<=i⟩
def Itr (lo:Int)(n:Nat):It:=⟨λi _=>i<n,λi H x H'=>H'=H/\x=.int (lo+i),λi _=>n<=i⟩
theorem zk2 {P:Program}{w:World}{K:W.Frag}{tg:Expr}(a it:Addr):yr4 P w K tg (Itl K a) [it] it (λi h=>h.IsListIter it a i) where
  mem:=by simp
  obj:=λi h st b hb=>by
    have e:b=it:=by simpa using hb
    subst e
    obtain ⟨o,e,c,d⟩:=st
    exact ⟨o,e,λv z=>by rw [d] at z;cases z⟩
  keep:=λi h h' st k=>st.at λo e=>k it (by simp) o e
  item:=by
    intro X hP hw hK hc i pins s σ H E I hf st hg
    subst hP hw hK
    obtain ⟨xs,x,hq,hx⟩:=hg
    obtain ⟨its,rv,p,hz⟩:=I.list hq
    obtain ⟨u,hu,ru⟩:=rv.get hx
    obtain ⟨f0,f1,f2,f3,f4,f5⟩:=hf it (by simp)
    refine wpAny_pyNext_list_item st p.isList (x:=u) (by simpa using hu) λh' st' sb=>?_
    have I1:Inv X pins σ H { s with heap:=h' }:=I.turned (t':=s.toks) (λb o hb e=>(sb.2 b hb).trans e) f0 f1 f3 f4 f5
    obtain ⟨o,e,c,d⟩:=id st'
    exact ⟨u,rfl,yk3 (s:={ s with heap:=h' }) e c d (by decide) ⟨x,H,I1,ru,⟨rfl,λys hy=>by rw [I.list_inj hy hq];exact hx⟩,st',λb hb=>(hf b hb).1⟩⟩
  done:=by
    intro X hP hw hK hc i pins s σ H E I hf st hg
    subst hP hw hK
    obtain ⟨xs,hq,hx⟩:=hg
    obtain ⟨its,rv,p,hz⟩:=I.list hq
    obtain ⟨f0,f1,f2,f3,f4,f5⟩:=hf it (by simp)
    have hl:=rv.length
    exact wpAny_pyNext_list_end (I.ok.hd hc) st p.isList (by simp;omega) λh' eb=>⟨rfl,I.turned (t':=s.toks) (λb o hb e=>eb b o hb e) f0 f1 f3 f4 f5⟩
  self:=λ_ _ _ _ _ st h=>wpAny_pyIter_listiter st h
theorem zf5 {P:Program}{w:World}{K:W.Frag}{tg:Expr}(a it:Addr):yr4 P w K tg (Itt K a) [it] it (λi h=>h.IsTupleIter it a i) where
  mem:=by simp
  obj:=λi h st b hb=>by
    have e:b=it:=by simpa using hb
    subst e
    obtain ⟨o,e,c,d⟩:=st
    exact ⟨o,e,λv z=>by rw [d] at z;cases z⟩
  keep:=λi h h' st k=>st.at λo e=>k it (by simp) o e
  item:=by
    intro X hP hw hK hc i pins s σ H E I hf st hg
    subst hP hw hK
    obtain ⟨xs,x,hq,hx⟩:=hg
    obtain ⟨its,rv,p,hz⟩:=I.tuple hq
    obtain ⟨u,hu,ru⟩:=rv.get hx
    obtain ⟨f0,f1,f2,f3,f4,f5⟩:=hf it (by simp)
    refine wpAny_pyNext_tuple_item st (show s.heap.IsTuple a its.toArray from p) (x:=u) (by simpa using hu) λh' st' sb=>?_
    have I1:Inv X pins σ H { s with heap:=h' }:=I.turned (t':=s.toks) (λb o hb e=>(sb.2 b hb).trans e) f0 f1 f3 f4 f5
    obtain ⟨o,e,c,d⟩:=id st'
    exact ⟨u,rfl,yk3 (s:={ s with heap:=h' }) e c d (by decide) ⟨x,H,I1,ru,⟨rfl,λys hy=>by rw [I.tuple_inj hy hq];exact hx⟩,st',λb hb=>(hf b hb).1⟩⟩
  done:=by
    intro X hP hw hK hc i pins s σ H E I hf st hg
    subst hP hw hK
    obtain ⟨xs,hq,hx⟩:=hg
    obtain ⟨its,rv,p,hz⟩:=I.tuple hq
    obtain ⟨f0,f1,f2,f3,f4,f5⟩:=hf it (by simp)
    have hl:=rv.length
    exact wpAny_pyNext_tuple_end (I.ok.hd hc) st (show s.heap.IsTuple a its.toArray from p) (by simp;omega) λh' eb=>⟨rfl,I.turned (t':=s.toks) (λb o hb e=>eb b o hb e) f0 f1 f3 f4 f5⟩
  self:=λ_ _ _ _ _ st h=>wpAny_pyIter_tupleiter st h
theorem ya7 {P:Program}{w:World}{K:PySem.W.Frag}{tg:Expr}(it:Addr)(lo:Int)(n:Nat):yr4 P w K tg (Itr lo n) [it] it (λi h=>IsRangeIter h it (lo+(i:Nat)*1) ((n:Int)-(i:Nat)) 1) where
  mem:=by simp
  obj:=λi h st b hb=>by
    have e:b=it:=by simpa using hb
    subst e
    exact ⟨_,st,λv z=>by
      have z':Data.fields _=Data.cell v:=z
      cases z'⟩
  keep:=λi h h' st k=>k it (by simp) _ st
  item:=by
    intro X hP hw hK hc i pins s σ H E I hf st hg
    subst hP hw hK
    obtain ⟨f0,f1,f2,f3,f4,f5⟩:=hf it (by simp)
    have W:=Walks.range (prog:=X.prog) (w:=X.w) (I.ok.hd hc) it lo 1 n
    refine W.item i s _ _ hg st λv h' tk hv st' kk=>?_
    obtain ⟨t,rfl⟩:=hv
    have I1:Inv X pins σ H { s with heap:=h',toks:=tk }:=I.turned (λb o hb e=>kk b o (by simpa using hb) e) f0 f1 f3 f4 f5
    refine ⟨_,rfl,yk3 (s:={ s with heap:=h',toks:=tk }) (n:="range_iterator") st' rfl rfl (by decide) ⟨.int (lo+i),H,I1,⟨t,?_⟩,⟨rfl,rfl⟩,st',λb hb=>(hf b hb).1⟩⟩
    rw [Int.mul_one]
  done:=by
    intro X hP hw hK hc i pins s σ H E I hf st hg
    subst hP hw hK
    obtain ⟨f0,f1,f2,f3,f4,f5⟩:=hf it (by simp)
    exact wpAny_pyNext_range_end (I.ok.hd hc) st (by have:n<=i:=hg;omega) λh' eb=>⟨rfl,I.turned (t':=s.toks) (λb o hb e=>eb b o hb e) f0 f1 f3 f4 f5⟩
  self:=λ_ _ _ _ _ st h=>wpAny_pyIter_rangeiter st h
section
variable {X:Cx}{tg:Expr}
def xd7 (K:W.Frag)(tl:TE):TI:=λσ H R=>tl σ H λx H1=>∃a,x=.ref a/\(∃xs,SqL K H1 a xs)/\R (Itl K a) H1
def xh9 (K:W.Frag)(tl:TE):TI:=λσ H R=>tl σ H λx H1=>∃a,x=.ref a/\(∃xs,SqT K H1 a xs)/\R (Itt K a) H1
theorem zn8 {l:Expr}{tl:TE}(hl:PE X l tl):PI X tg l (xd7 X.K tl):=by
  intro pins s σ H R I h
  refine thn (hl pins s σ H _ I h) λv s1 ⟨x,H1,I1,r1,q1⟩=>?_
  obtain ⟨a,e,⟨xs,hq⟩,q⟩:=q1
  subst e
  cases r1
  obtain ⟨its,rv,p,hz⟩:=I1.list hq
  refine wpAny_pyIter_list p.isList ?_
  refine ⟨s1.heap.objs.size,[s1.heap.objs.size],_,_,H1,rfl,I1.kept (t':=s1.toks) λb o e=>ae _ e,zk2 a _,⟨_,aq _ rfl,rfl,rfl⟩,λb hb=>?_,q⟩
  have e:b=s1.heap.objs.size:=by simpa using hb
  subst e
  exact I1.fpOk (af _) (I1.hok.fresh (af _))
theorem yn9 {l:Expr}{tl:TE}(hl:PE X l tl):PI X tg l (xh9 X.K tl):=by
  intro pins s σ H R I h
  refine thn (hl pins s σ H _ I h) λv s1 ⟨x,H1,I1,r1,q1⟩=>?_
  obtain ⟨a,e,⟨xs,hq⟩,q⟩:=q1
  subst e
  cases r1
  obtain ⟨its,rv,p,hz⟩:=I1.tuple hq
  refine wpAny_pyIter_tuple (show s1.heap.IsTuple a its.toArray from p) ?_
  refine ⟨s1.heap.objs.size,[s1.heap.objs.size],_,_,H1,rfl,I1.kept (t':=s1.toks) λb o e=>ae _ e,zf5 a _,⟨_,aq _ rfl,rfl,rfl⟩,λb hb=>?_,q⟩
  have e:b=s1.heap.objs.size:=by simpa using hb
  subst e
  exact I1.fpOk (af _) (I1.hok.fresh (af _))
theorem yo7 {pins : List (Addr×Obj)}{σ : St}{H : Hp}{s : Shared}{R : It -> Hp -> Prop}{E : Value -> Shared -> Prop}{lo hi : Int}{t u v : Tok}{tk : Nat}(I : Inv X pins σ H s)(h1 : -(2 ^ 62) <= lo)(h2 : lo<2 ^ 62)(h3 : -(2 ^ 62) <= hi)(h4 : hi<2 ^ 62)
    (q:R (Itr lo (hi-lo).toNat) H):wpAny (model X.prog X.w) X.A (pyIter (.ref s.heap.objs.size)) (PIE X pins σ tg R) E { s with heap:=s.heap.push { cls:=.type "range",data:=.fields #[.int lo t,.int hi u,.int 1 v] },toks:=tk }:=by
  refine wpAny_pyIter_range (IsRange.new ..) (small_one h1 h2 h3 h4) ?_
  have I1:Inv X pins σ H { s with heap:=s.heap.push { cls:=.type "range",data:=.fields #[.int lo t,.int hi u,.int 1 v] },toks:=tk }:=I.kept λb o e=>ae _ e
  refine ⟨(s.heap.push { cls:=.type "range",data:=.fields #[.int lo t,.int hi u,.int 1 v] }).objs.size,[(s.heap.push { cls:=.type "range",data:=.fields #[.int lo t,.int hi u,.int 1 v] }).objs.size],_,_,H,rfl,
    I1.kept (t':=tk) λb o e=>ae _ e,ya7 _ lo (hi-lo).toNat,?_,λb hb=>?_,q⟩
  . have e1 : lo+((0 : Nat) : Int)*1 = lo := by simp
    have e2:(((hi-lo).toNat:Nat):Int)-((0:Nat):Int)=Builtin.Range.rangeSize lo hi 1:=by rw [rangeSize_one];split <;> omega
    show IsRangeIter _ _ (lo+((0:Nat):Int)*1) ((((hi-lo).toNat:Nat):Int)-((0:Nat):Int)) 1
    rw [e1,e2]
    exact aq _ rfl
  . have e : b = (s.heap.push { cls := .type "range", data := .fields #[.int lo t, .int hi u, .int 1 v] }).objs.size := by simpa using hb
    subst e
    exact I1.fpOk (af _) (I1.hok.fresh (af _))
def xd8 (ta:TA):TI:=λσ H R=>ta σ H λvs H1=>∃j:Int,vs=[.int j]/\-(2 ^ 62)<=j/\j<2 ^ 62/\R (Itr 0 j.toNat) H1
theorem T8 {a:Expr}{ta:TA}{p pos:Pos}(hg:Gl X "range") (hm:X.mg "range"=none) (ha:PA X [a] ta) (hs:starEach [a] X.env=[(false,eval a X.env)]:=by rfl):PI X tg (.Call (.Name "range" p) [a] [] pos) (xd8 ta):=by
  intro pins s σ H R I h
  refine Call_ (zm2 I hg hm boot_range (PyProof.Rows.callWith_type1 (thn (ha pos pins s σ H _ I h) λus s1 ⟨vs,H1,I1,r1,q1⟩=>?_) hs rfl))
  obtain ⟨j,e,q1,q2,q⟩:=q1
  subst e
  cases r1 with
  | cons r rr =>
    cases rr
    obtain ⟨t,rfl⟩:=r
    exact call_range_1 (yo7 I1 (by omega) (by omega) q1 q2 (by simpa using q))
def xj0 (wi:TI)(g:TG)(tb:TS):TS:=λD σ H=>wi σ H λJ H1=>∃W:Nat->Nat->St->Hp->Prop,(∃m,W 0 m σ H1)/\∀i m σ H,W i m σ H ->
  (J.stop i H/\D.nx σ H)∨(J.go i H/\∃N:St->Hp->Prop,(∀σ' H',N σ' H'->∃m',m'<m/\W (i+1) m' σ' H')/\∀x H',J.yld i H x H'->g x σ H' λσ2 H2=>tb { D with nx:=N,ct:=N,bk:=D.nx } σ2 H2)
def zo0 (fp:List Addr)(h:Heap):List (Addr×Obj):=fp.filterMap λb=>(h.get? b).map λo=>(b,o)
theorem S7 {fp:List Addr}{h:Heap}{b:Addr}{o:Obj}(hb:b∈fp)(e:h.get? b=some o):(b,o)∈zo0 fp h:=aC.mpr ⟨b,hb,by rw [e];rfl⟩
theorem yg2 {fp:List Addr}{h:Heap}{p:Addr×Obj}(hp:p∈zo0 fp h):p.1∈fp/\h.get? p.1=some p.2:=by
  obtain ⟨b,hb,e⟩:=aC.mp hp
  cases q:h.get? b with
  | none=>rw [q] at e;cases e
  | some o =>
    rw [q] at e
    have e':(b,o)=p:=Option.some.inj e
    subst e'
    exact ⟨hb,q⟩
theorem Inv.pinned {pins:List (Addr×Obj)}{σ:St}{H:Hp}{s:Shared}{fp:List Addr}(I:Inv X pins σ H s)(hf:∀b∈fp,zb3 X pins H b)(ho:∀b∈fp,∃o,s.heap.get? b=some o/\∀v,o.data≠.cell v):Inv X (pins++zo0 fp s.heap) σ H s :=
  I.pins_of λp hp=>(bf.mp hp).elim (λz=>I.pin p (aM _ z)) λz=>by
    obtain ⟨hb,e⟩:=yg2 z
    obtain ⟨f0,f1,f2,_⟩:=hf p.1 hb
    obtain ⟨o,e',d⟩:=ho p.1 hb
    rw [e] at e';cases e'
    exact ⟨e,f0,f1,f2,d⟩
theorem Inv.unpinned {pins pl:List (Addr×Obj)}{σ:St}{H:Hp}{s:Shared}(I:Inv X (pins++pl) σ H s):Inv X pins σ H s:=I.pins_of λp hp=>I.pin p (aM _ (bW _ hp))
theorem R3 {iter : Expr}{body : List Stmt}{wi : TI}{g : TG}{tb : TS}{pos : Pos}(hp : PassesOwn (model X.prog X.w) X.A X.env X.xe)(hc : X.calm = true)(hi : PI X tg iter wi)(hg : PG X tg g)(hb : PSs X body tb)
    (hs:∀x,foldedSetIterable iter X.env x=pure x:=by intro _;rfl):PS X (.For tg iter body [] pos) (xj0 wi g tb):=by
  intro pins s σ H D I h
  refine wpAny_For (thn (hi pins s σ H _ I h) λv s1 h1=>thn h1 λitv s2 h2=>?_) hs
  obtain ⟨it,fp,tn,J,H2,e,I2,T,st2,f2,W,⟨m0,w0⟩,turn⟩:=h2
  subst e
  have stat:∀{H':Hp},(∀b∈fp,H' b=none)->∀b∈fp,zb3 X pins H' b:=λhn b hb=>⟨hn b hb,(f2 b hb).2⟩
  refine codeAny_forLoop_any (λn s'=>∃i σ' H',Inv X pins σ' H' s'/\tn i s'.heap/\(∀b∈fp,H' b=none)/\W i n σ' H') ?_ m0 ⟨0,σ,H2,I2,st2,λb hb=>(f2 b hb).1,w0⟩
  rintro n s3 ⟨i,σ3,H3,I3,st3,fr3,w3⟩
  rcases turn i n σ3 H3 w3 with ⟨stop,qn⟩|⟨go,N,hN,step⟩
  . refine wpAny_passesOwn hp (thn (T.done X rfl rfl rfl hc i pins s3 σ3 H3 X.xe I3 (stat fr3) st3 stop) λr s4 ⟨hr, I4⟩ => ?_)
    subst hr
    exact wpAny_execs_nil ⟨σ3,H3,I4,qn⟩
  . refine wpAny_passesOwn hp (thn (T.item X rfl rfl rfl hc i pins s3 σ3 H3 X.xe I3 (stat fr3) st3 go) λr s4 ⟨u, hr, h4⟩ => ?_)
    subst hr
    refine wpAny_passesOwn hp (thn h4 λ_ s5 ⟨x,H5,I5,r5,y5,st5,fr5⟩=>?_)
    have I5':=I5.pinned (stat fr5) (T.obj _ _ st5)
    refine wpAny_passesOwn hp (thn (hg _ s5 σ3 H5 x u _ I5' r5 (step x H5 y5)) λ_ s6 ⟨σ6,H6,I6,q6⟩=>?_)
    refine wpAny_passesOwn hp (thn (hb _ s6 σ6 H6 _ I6 q6) λf s7 q7=>?_)
    have again:∀{σ7:St} {H7:Hp},Inv X (pins++zo0 fp s5.heap) σ7 H7 s7->N σ7 H7->∃m,m<n/\∃i σ' H',Inv X pins σ' H' s7/\tn i s7.heap/\(∀b∈fp,H' b=none)/\W i m σ' H':=λ{σ7 H7} I7 n7=>by
      obtain ⟨m',hm,w7⟩:=hN σ7 H7 n7
      refine ⟨m',hm,i+1,σ7,H7,I7.unpinned,T.keep _ _ _ st5 λb hb o e=>(I7.pin (b,o) (aM _ (aM _ (S7 hb e)))).1,λb hb=>?_,w7⟩
      obtain ⟨o,e,d⟩:=T.obj _ _ st5 b hb
      exact (I7.pin (b,o) (aM _ (aM _ (S7 hb e)))).2.1
    cases f with
    | next=>obtain ⟨σ7,H7,I7,n7⟩:=q7;exact again I7 n7
    | cont=>obtain ⟨σ7,H7,I7,n7⟩:=q7;exact again I7 n7
    | brk=>obtain ⟨σ7,H7,I7,q7⟩:=q7;exact ⟨σ7,H7,I7.unpinned,q7⟩
    | ret v=>obtain ⟨x7,σ7,H7,I7,r7,q7⟩:=q7;exact ⟨x7,σ7,H7,I7.unpinned,r7,q7⟩
end
theorem G6 {K : PySem.W.Frag}{a : Addr}{xs : List V}{g : TG}{tb : TS}{D : L6}{σ : St}{H : Hp}(Pv : Nat -> St -> Hp -> Prop)(h0 : Pv 0 σ H)(hl : ∀i σ H, i <= xs.length -> Pv i σ H -> SqL K H a xs)
    (hs:∀i x σ H,xs[i]?=some x->Pv i σ H->g x σ H λσ2 H2=>tb { D with nx:=Pv (i+1),ct:=Pv (i+1),bk:=D.nx } σ2 H2) (hd:∀σ H,Pv xs.length σ H->D.nx σ H) :
    ∃W:Nat->Nat->St->Hp->Prop,(∃m,W 0 m σ H)/\∀i m σ H,W i m σ H ->
      ((Itl K a).stop i H/\D.nx σ H)∨((Itl K a).go i H/\∃N:St->Hp->Prop,(∀σ' H',N σ' H'->∃m',m'<m/\W (i+1) m' σ' H')/\∀x H',(Itl K a).yld i H x H'->g x σ H' λσ2 H2=>tb { D with nx:=N,ct:=N,bk:=D.nx } σ2 H2):=by
  refine ⟨λi m σ H=>m=xs.length-i/\i<=xs.length/\Pv i σ H,⟨xs.length,by simp,ax _,h0⟩,?_⟩
  rintro i m σ H ⟨rfl,hi,p⟩
  have q:=hl i σ H hi p
  by_cases hlt:i<xs.length
  . refine .inr ⟨⟨xs, xs[i], q, by simp [hlt]⟩, Pv (i+1), λσ' H' p' => ⟨xs.length-(i+1), by omega, rfl, hlt, p'⟩, λx H' y => ?_⟩
    obtain ⟨e,y⟩:=y
    subst e
    exact hs i x σ _ (y xs q) p
  . have e : i = xs.length := by omega
    subst e
    exact .inl ⟨⟨xs,q,af _⟩,hd σ H p⟩
theorem ys2 {K : PySem.W.Frag}{a : Addr}{xs : List V}{g : TG}{tb : TS}{D : L6}{σ : St}{H : Hp}(Pv : Nat -> St -> Hp -> Prop)(h0 : Pv 0 σ H)(hl : ∀i σ H, i <= xs.length -> Pv i σ H -> SqT K H a xs)
    (hs:∀i x σ H,xs[i]?=some x->Pv i σ H->g x σ H λσ2 H2=>tb { D with nx:=Pv (i+1),ct:=Pv (i+1),bk:=D.nx } σ2 H2) (hd:∀σ H,Pv xs.length σ H->D.nx σ H) :
    ∃W:Nat->Nat->St->Hp->Prop,(∃m,W 0 m σ H)/\∀i m σ H,W i m σ H ->
      ((Itt K a).stop i H/\D.nx σ H)∨((Itt K a).go i H/\∃N:St->Hp->Prop,(∀σ' H',N σ' H'->∃m',m'<m/\W (i+1) m' σ' H')/\∀x H',(Itt K a).yld i H x H'->g x σ H' λσ2 H2=>tb { D with nx:=N,ct:=N,bk:=D.nx } σ2 H2):=by
  refine ⟨λi m σ H=>m=xs.length-i/\i<=xs.length/\Pv i σ H,⟨xs.length,by simp,ax _,h0⟩,?_⟩
  rintro i m σ H ⟨rfl,hi,p⟩
  have q:=hl i σ H hi p
  by_cases hlt:i<xs.length
  . refine .inr ⟨⟨xs, xs[i], q, by simp [hlt]⟩, Pv (i+1), λσ' H' p' => ⟨xs.length-(i+1), by omega, rfl, hlt, p'⟩, λx H' y => ?_⟩
    obtain ⟨e,y⟩:=y
    subst e
    exact hs i x σ _ (y xs q) p
  . have e : i = xs.length := by omega
    subst e
    exact .inl ⟨⟨xs,q,af _⟩,hd σ H p⟩
theorem N3 {lo : Int}{n : Nat}{g : TG}{tb : TS}{D : L6}{σ : St}{H : Hp}(Pv : Nat -> St -> Hp -> Prop)(h0 : Pv 0 σ H)
    (hs:∀i σ H,i<n->Pv i σ H->g (.int (lo+i)) σ H λσ2 H2=>tb { D with nx:=Pv (i+1),ct:=Pv (i+1),bk:=D.nx } σ2 H2) (hd:∀σ H,Pv n σ H->D.nx σ H) :
    ∃W:Nat->Nat->St->Hp->Prop,(∃m,W 0 m σ H)/\∀i m σ H,W i m σ H ->
      ((Itr lo n).stop i H/\D.nx σ H)∨((Itr lo n).go i H/\∃N:St->Hp->Prop,(∀σ' H',N σ' H'->∃m',m'<m/\W (i+1) m' σ' H')/\∀x H',(Itr lo n).yld i H x H'->g x σ H' λσ2 H2=>tb { D with nx:=N,ct:=N,bk:=D.nx } σ2 H2):=by
  refine ⟨λi m σ H=>m=n-i/\i<=n/\Pv i σ H,⟨n,by simp,ax _,h0⟩,?_⟩
  rintro i m σ H ⟨rfl,hi,p⟩
  by_cases hlt:i<n
  . refine .inr ⟨hlt, Pv (i+1), λσ' H' p' => ⟨n-(i+1), by omega, rfl, hlt, p'⟩, λx H' y => ?_⟩
    obtain ⟨e,y⟩:=y
    subst e y
    exact hs i σ _ hlt p
  . have e : i = n := by omega
    subst e
    exact .inl ⟨af _,hd σ H p⟩
abbrev R2:=V->V->Hp->VK->Prop
def OpR (X:Cx)(f:Value->Value->Sem Value)(r:R2):Prop :=
  ∀(pins:List (Addr×Obj)) (s:Shared) (σ:St) (H:Hp) (x y:V) (v u:Value) (Q:VK),Inv X pins σ H s->o6 x v->o6 y u->r x y H Q ->
    wpAny (model X.prog X.w) X.A (f v u) (EP X pins σ Q) X.xe s
def UnR (X:Cx)(f:Value->Sem Value)(r:V->Hp->VK->Prop):Prop :=
  ∀(pins:List (Addr×Obj)) (s:Shared) (σ:St) (H:Hp) (x:V) (v:Value) (Q:VK),Inv X pins σ H s->o6 x v->r x H Q ->
    wpAny (model X.prog X.w) X.A (f v) (EP X pins σ Q) X.xe s
def k9 (X:Cx)(f:Value)(r:List V->Hp->VK->Prop):Prop :=
  ∀(pins:List (Addr×Obj)) (s:Shared) (σ:St) (H:Hp) (xs:List V) (us:List Value) (Q:VK),Inv X pins σ H s->t9 xs us->r xs H Q ->
    wpAny (model X.prog X.w) X.A (call f us) (EP X pins σ Q) X.xe s
def tOp (r:R2)(ta tb:TE):TE:=λσ H Q=>ta σ H λx H1=>tb σ H1 λy H2=>r x y H2 Q
def tUn (r:V->Hp->VK->Prop)(ta:TE):TE:=λσ H Q=>ta σ H λx H1=>r x H1 Q
def rI (C:Int->Int->Prop)(g:Int->Int->V):R2:=λx y H Q=>∃i j,x=.int i/\y=.int j/\C i j/\Q (g i j) H
def rI0 (g:Int->Int->V):R2:=λx y H Q=>∃i j,x=.int i/\y=.int j/\Q (g i j) H
def rU (g:Int->V):V->Hp->VK->Prop:=λx H Q=>∃i,x=.int i/\Q (g i) H
section
variable {X:Cx}{a b c:Expr}{ta tb tc:TE}{pos:Pos}
theorem yx7 (ha : PE X a ta)(hb : PE X b tb){pins : List (Addr×Obj)}{s : Shared}{σ : St}{H : Hp}{R : V -> V -> Hp -> Prop}(I : Inv X pins σ H s)
    (h:ta σ H λx H1=>tb σ H1 λy H2=>R x y H2) {Q:Value->Shared->Prop} {f:Value->Value->Sem Value}
    (hf:∀v u s2 x y H2,Inv X pins σ H2 s2->o6 x v->o6 y u->R x y H2->wpAny (model X.prog X.w) X.A (f v u) Q X.xe s2) :
    wpAny (model X.prog X.w) X.A (eval a X.env) (λv s₁=>wpAny (model X.prog X.w) X.A (eval b X.env) (λu s₂=>wpAny (model X.prog X.w) X.A (f v u) Q X.xe s₂) X.xe s₁) X.xe s:=by
  refine thn (ha pins s σ H _ I h) λv s1 ⟨x,H1,I1,r1,q1⟩=>?_
  refine thn (hb pins s1 σ H1 _ I1 q1) λu s2 ⟨y,H2,I2,r2,q2⟩=>?_
  exact hf v u s2 x y H2 I2 r1 r2 q2
theorem u0 {op:Operator}{r:R2}(ho:OpR X (binaryOp op) r)(ha:PE X a ta)(hb:PE X b tb):PE X (.BinOp a op b pos) (tOp r ta tb):=by
  intro pins s σ H Q I h
  exact wpAny_BinOp (yx7 ha hb I h λv u s2 x y H2 I2 rx ry q=>ho pins s2 σ H2 x y v u Q I2 rx ry q)
theorem yw5 {op:UnaryOp}{r:V->Hp->VK->Prop}(ho:UnR X (unaryOp op) r)(ha:PE X a ta):PE X (.UnaryOp op a pos) (tUn r ta):=by
  intro pins s σ H Q I h
  exact UnaryOp_ (thn (ha pins s σ H _ I h) λv s1 ⟨x,H1,I1,r1,q1⟩=>ho pins s1 σ H1 x v Q I1 r1 q1)
theorem opI {f : Value -> Value -> Sem Value}{C : Int -> Int -> Prop}{g : Int -> Int -> Int}
    (rule:∀(i j:Int) (t u:Tok) (s:Shared) (Q:Value->Shared->Prop) (E:Value->Shared->Prop),C i j->Q (.int (g i j) s.toks) { s with toks:=s.toks+1 }->wpAny (model X.prog X.w) X.A (f (.int i t) (.int j u)) Q E s) :
    OpR X f (rI C λi j=>.int (g i j)):=by
  intro pins s σ H x y v u Q I rx ry h
  obtain ⟨i,j,rfl,rfl,hc,q⟩:=h
  obtain ⟨t,rfl⟩:=rx
  obtain ⟨t',rfl⟩:=ry
  exact rule i j t t' s _ _ hc ⟨.int (g i j),H,I.tok _,⟨_,rfl⟩,q⟩
theorem xe8 {f : Value -> Value -> Sem Value}{g : Int -> Int -> Int}
    (rule:∀(i j:Int) (t u:Tok) (s:Shared) (Q:Value->Shared->Prop) (E:Value->Shared->Prop),Q (.int (g i j) s.toks) { s with toks:=s.toks+1 }->wpAny (model X.prog X.w) X.A (f (.int i t) (.int j u)) Q E s) :
    OpR X f (rI0 λi j=>.int (g i j)):=by
  intro pins s σ H x y v u Q I rx ry h
  obtain ⟨i,j,rfl,rfl,q⟩:=h
  obtain ⟨t,rfl⟩:=rx
  obtain ⟨t',rfl⟩:=ry
  exact rule i j t t' s _ _ ⟨.int (g i j),H,I.tok _,⟨_,rfl⟩,q⟩
theorem yz7 {f : Value -> Value -> Sem Value}{g : Int -> Int -> Bool}
    (rule:∀(i j:Int) (t u:Tok) (s:Shared) (Q:Value->Shared->Prop) (E:Value->Shared->Prop),Q (.bool (g i j)) s->wpAny (model X.prog X.w) X.A (f (.int i t) (.int j u)) Q E s) :
    OpR X f (rI0 λi j=>.bl (g i j)):=by
  intro pins s σ H x y v u Q I rx ry h
  obtain ⟨i,j,rfl,rfl,q⟩:=h
  obtain ⟨t,rfl⟩:=rx
  obtain ⟨t',rfl⟩:=ry
  exact rule i j t t' s _ _ ⟨.bl (g i j),H,I,rfl,q⟩
def xc6 (i j:Int):Prop:=0<j/\j<1073741824
def yx1 (i j:Int):Prop:=(-(2 ^ 64)<i/\i<2 ^ 64)∨(-(2 ^ 64)<j/\j<2 ^ 64)
theorem yx1.ok {i j:Int}(h:yx1 i j):IntMulOk i j:=by
  rcases h with ⟨h1,h2⟩|⟨h1,h2⟩
  . exact .of_left (intBits_le_64 h1 h2)
  . exact .of_right (intBits_le_64 h1 h2)
theorem U8:OpR X (binaryOp .Add) (rI0 λi j=>.int (i+j)):=xe8 λ_ _ _ _ _ _ _ q=>add_int q
theorem zz0:OpR X (binaryOp .Sub) (rI0 λi j=>.int (i-j)):=xe8 λ_ _ _ _ _ _ _ q=>sub_int q
theorem xa7:OpR X (binaryOp .Mult) (rI yx1 λi j=>.int (i*j)):=opI λ_ _ _ _ _ _ _ hc q=>mul_int q hc.ok
theorem o5:OpR X (binaryOp .FloorDiv) (rI xc6 λi j=>.int (i / j)):=opI λi j _ _ _ _ _ hc q=>by
  have h1:(0:Int)<j:=hc.1
  have h2:j<1073741824:=hc.2
  exact floordiv_int (by omega) (by rw [cT i (by omega)];exact q) (.inl (PyProof.noPylong_small (by omega)))
theorem o7:OpR X (binaryOp .Mod) (rI (λ_ j=>0<j) λi j=>.int (i % j)):=opI λi j _ _ _ _ _ hc q=>by
  have h1:(0:Int)<j:=hc
  exact mod_int' (by omega) (by rw [cS i (by omega)];exact q)
theorem unI {f : Value -> Sem Value}{g : Int -> Int}
    (rule:∀(i:Int) (t:Tok) (s:Shared) (Q:Value->Shared->Prop) (E:Value->Shared->Prop),Q (.int (g i) s.toks) { s with toks:=s.toks+1 }->wpAny (model X.prog X.w) X.A (f (.int i t)) Q E s) :
    UnR X f (rU λi=>.int (g i)):=by
  intro pins s σ H x v Q I rx h
  obtain ⟨i,rfl,q⟩:=h
  obtain ⟨t,rfl⟩:=rx
  exact rule i t s _ _ ⟨.int (g i),H,I.tok _,⟨_,rfl⟩,q⟩
theorem yq6:UnR X (unaryOp .USub) (rU λi=>.int (-i)):=unI λ_ _ _ _ _ q=>neg_int q
end
def xf9 : V -> V -> Bool
  | .non,.non=>true | .non,.int _=>true | .int _,.non=>true | .non,.bl _=>true | .bl _,.non=>true | .non,.str _=>true | .str _,.non=>true
  | .int _,.int _=>true | .bl _,.bl _=>true | .str _,.str _=>true | .byt _,.byt _=>true
  | .int _,.str _=>true | .str _,.int _=>true | .bl _,.str _=>true | .str _,.bl _=>true
  | _,_=>false
def rEq:R2:=λx y H Q=>xf9 x y=true/\Q (.bl (decide (x=y))) H
def rNe:R2:=λx y H Q=>xf9 x y=true/\Q (.bl (!decide (x=y))) H
theorem yb5 {i j:Int}:decide (V.int i=V.int j)=(i==j):=by
  rw [cB]
  simp
theorem yj0 {i j:Bool}:decide (V.bl i=V.bl j)=(i==j):=by
  rw [cB]
  simp
theorem yb6 {i j:Str}:decide (V.str i=V.str j)=(i==j):=by
  rw [cB]
  simp
theorem yb4 {i j:Array UInt8}:decide (V.byt i=V.byt j)=(i.toList==j.toList):=by
  rw [cB]
  cases i
  cases j
  simp
section
variable {X:Cx}{a b c:Expr}{ta tb tc:TE}{pos:Pos}
theorem q9 {pins:List (Addr×Obj)}{σ:St}{H:Hp}{s:Shared}{Q:VK}{k k':Bool}(I:Inv X pins σ H s)(q:Q (.bl k) H)(e:k=k'):EP X pins σ Q (.bool k') s:=by
  subst e
  exact ⟨.bl k,H,I,rfl,q⟩
theorem n6:OpR X (compareOp .Eq) rEq:=by
  intro pins s σ H x y v u Q I rx ry h
  obtain ⟨hs,q⟩:=h
  cases x with
  | non =>
    cases rx
    cases y with
    | non=>cases ry;exact PySem.EqNone.eq_none_none (q9 I q (by simp))
    | bl j=>cases ry;exact PySem.EqNone.eq_none_bool (q9 I q (by simp))
    | int j=>obtain ⟨t',rfl⟩:=ry;exact PySem.EqNone.eq_none_int (q9 I q (by simp))
    | str j=>obtain ⟨t',rfl⟩:=ry;exact PySem.EqNone.eq_none_str (q9 I q (by simp))
    | _=>exact absurd (show false=true from hs) am
  | bl i =>
    cases rx
    cases y with
    | non=>cases ry;exact PySem.EqNone.eq_bool_none (q9 I q (by simp))
    | bl j=>cases ry;exact eq_bool (q9 I q yj0)
    | str j=>obtain ⟨t',rfl⟩:=ry;exact PySem.EqMixed.eq_bool_str (q9 I q (by simp))
    | _=>exact absurd (show false=true from hs) am
  | int i =>
    obtain ⟨t,rfl⟩:=rx
    cases y with
    | non=>cases ry;exact PySem.EqNone.eq_int_none (q9 I q (by simp))
    | int j=>obtain ⟨t',rfl⟩:=ry;exact eq_int (q9 I q yb5)
    | str j=>obtain ⟨t',rfl⟩:=ry;exact PySem.EqMixed.eq_int_str (q9 I q (by simp))
    | _=>exact absurd (show false=true from hs) am
  | str i =>
    obtain ⟨t,rfl⟩:=rx
    cases y with
    | non=>cases ry;exact PySem.EqNone.eq_str_none (q9 I q (by simp))
    | bl j=>cases ry;exact PySem.EqMixed.eq_str_bool (q9 I q (by simp))
    | int j=>obtain ⟨t',rfl⟩:=ry;exact PySem.EqMixed.eq_str_int (q9 I q (by simp))
    | str j=>obtain ⟨t',rfl⟩:=ry;exact eq_str (q9 I q yb6)
    | _=>exact absurd (show false=true from hs) am
  | byt i =>
    obtain ⟨t,rfl⟩:=rx
    cases y with
    | byt j=>obtain ⟨t',rfl⟩:=ry;exact W.eq_bytes (q9 I q yb4)
    | _=>exact absurd (show false=true from hs) am
  | _=>cases y <;> exact absurd (show false=true from hs) am
theorem yn1:OpR X (compareOp .NotEq) rNe:=by
  intro pins s σ H x y v u Q I rx ry h
  obtain ⟨hs,q⟩:=h
  cases x with
  | non =>
    cases rx
    cases y with
    | non=>cases ry;exact PySem.EqNone.ne_none_none (q9 I q (by simp))
    | bl j=>cases ry;exact PySem.EqNone.ne_none_bool (q9 I q (by simp))
    | int j=>obtain ⟨t',rfl⟩:=ry;exact PySem.EqNone.ne_none_int (q9 I q (by simp))
    | str j=>obtain ⟨t',rfl⟩:=ry;exact PySem.EqNone.ne_none_str (q9 I q (by simp))
    | _=>exact absurd (show false=true from hs) am
  | bl i =>
    cases rx
    cases y with
    | non=>cases ry;exact PySem.EqNone.ne_bool_none (q9 I q (by simp))
    | bl j=>cases ry;exact ne_bool (q9 I q (congrArg not yj0))
    | str j=>obtain ⟨t',rfl⟩:=ry;exact PySem.EqMixed.ne_bool_str (q9 I q (by simp))
    | _=>exact absurd (show false=true from hs) am
  | int i =>
    obtain ⟨t,rfl⟩:=rx
    cases y with
    | non=>cases ry;exact PySem.EqNone.ne_int_none (q9 I q (by simp))
    | int j=>obtain ⟨t',rfl⟩:=ry;exact ne_int (q9 I q (congrArg not yb5))
    | str j=>obtain ⟨t',rfl⟩:=ry;exact PySem.EqMixed.ne_int_str (q9 I q (by simp))
    | _=>exact absurd (show false=true from hs) am
  | str i =>
    obtain ⟨t,rfl⟩:=rx
    cases y with
    | non=>cases ry;exact PySem.EqNone.ne_str_none (q9 I q (by simp))
    | bl j=>cases ry;exact PySem.EqMixed.ne_str_bool (q9 I q (by simp))
    | int j=>obtain ⟨t',rfl⟩:=ry;exact PySem.EqMixed.ne_str_int (q9 I q (by simp))
    | str j=>obtain ⟨t',rfl⟩:=ry;exact ne_str (q9 I q (congrArg not yb6))
    | _=>exact absurd (show false=true from hs) am
  | byt i =>
    obtain ⟨t,rfl⟩:=rx
    cases y with
    | byt j=>obtain ⟨t',rfl⟩:=ry;exact W.ne_bytes (q9 I q (congrArg not yb4))
    | _=>exact absurd (show false=true from hs) am
  | _=>cases y <;> exact absurd (show false=true from hs) am
theorem B8:OpR X (compareOp .Lt) (rI0 λi j=>.bl (decide (i<j))):=yz7 λ_ _ _ _ _ _ _ q=>lt_int q
theorem zt1:OpR X (compareOp .LtE) (rI0 λi j=>.bl (decide (i<=j))):=yz7 λ_ _ _ _ _ _ _ q=>le_int q
theorem zj2:OpR X (compareOp .Gt) (rI0 λi j=>.bl (decide (j<i))):=yz7 λ_ _ _ _ _ _ _ q=>gt_int q
theorem w8 (b:Expr){op:CmpOp}(h:op≠.In:=by decide)(h2:op≠.NotIn:=by decide):behindInMarks op b=false:=by
  have e1:(op==CmpOp.In)=false:=by cases op <;> first|rfl|exact absurd rfl h
  have e2:(op==CmpOp.NotIn)=false:=by cases op <;> first|rfl|exact absurd rfl h2
  cases b <;> simp [behindInMarks,e1,e2]
theorem N5 {op:CmpOp}{r:R2}(ho:OpR X (compareOp op) r)(ha:PE X a ta)(hb:PE X b tb)(hm:behindInMarks op b=false):PE X (.Compare a [op] [b] pos) (tOp r ta tb):=by
  intro pins s σ H Q I h
  exact wpAny_Compare1 (yx7 ha hb I h λv u s2 x y H2 I2 rx ry q=>ho pins s2 σ H2 x y v u Q I2 rx ry q) hm
def yx0 (t:TE):TT:=λσ H Q=>t σ H λx H'=>∃k,x=.bl k/\Q k H'
theorem w4 {op:CmpOp}{r:R2}(ho:OpR X (compareOp op) r)(ha:PE X a ta)(hb:PE X b tb)(hm:behindInMarks op b=false):PT X (.Compare a [op] [b] pos) (yx0 (tOp r ta tb)):=by
  intro pins s σ H Q I h
  refine wpAny_isTrue_Compare1 (thn (ha pins s σ H _ I h) λv s1 ⟨x,H1,I1,r1,q1⟩=>thn (hb pins s1 σ H1 _ I1 q1) λu s2 ⟨y,H2,I2,r2,q2⟩ =>
    thn (ho pins s2 σ H2 x y v u _ I2 r1 r2 q2) λc s3 ⟨z,H3,I3,r3,k,e,q3⟩=>?_) hm
  subst e
  cases r3
  exact wpAny_truthy_bool ⟨H3,I3,q3⟩
def yp9 (r r':R2)(ta tb tc:TE):TE:=λσ H Q=>ta σ H λx H1=>tb σ H1 λy H2=>r x y H2 λz H3=>∃k,z=.bl k /\
  (if k=true then tc σ H3 λw' H4=>r' y w' H4 Q else Q (.bl false) H3)
theorem zt4 {op op' : CmpOp}{r r' : R2}(ho : OpR X (compareOp op) r)(ho' : OpR X (compareOp op') r')(ha : PE X a ta)(hb : PE X b tb)(hc : PE X c tc)
    (hm:lastMarks [op,op'] [b,c]=false:=by with_unfolding_all rfl):PE X (.Compare a [op,op'] [b,c] pos) (yp9 r r' ta tb tc):=by
  intro pins s σ H Q I h
  refine Compare_chain (thn (ha pins s σ H _ I h) λv s1 ⟨x,H1,I1,r1,q1⟩=>chain_link (thn (hb pins s1 σ H1 _ I1 q1) λu s2 ⟨y,H2,I2,r2,q2⟩ =>
    thn (ho pins s2 σ H2 x y v u _ I2 r1 r2 q2) λd s3 ⟨z,H3,I3,r3,k,e,q3⟩=>?_)) hm
  subst e
  cases r3
  refine wpAny_truthy_bool ?_
  cases k with
  | false=>exact ite_ff ⟨.bl false,H3,I3,rfl,q3⟩
  | true=>exact ite_tt (chain_last (thn (hc pins s3 σ H3 _ I3 q3) λw' s4 ⟨z',H4,I4,r4,q4⟩=>ho' pins s4 σ H4 y z' u w' Q I4 r2 r4 q4))
theorem zu0 {op op' : CmpOp}{r r' : R2}(ho : OpR X (compareOp op) r)(ho' : OpR X (compareOp op') r')(ha : PE X a ta)(hb : PE X b tb)(hc : PE X c tc)
    (hm:lastMarks [op,op'] [b,c]=false:=by with_unfolding_all rfl):PT X (.Compare a [op,op'] [b,c] pos) (yx0 (yp9 r r' ta tb tc)):=by
  intro pins s σ H Q I h
  refine isTrue_chain (thn (ha pins s σ H _ I h) λv s1 ⟨x,H1,I1,r1,q1⟩=>test_link (thn (hb pins s1 σ H1 _ I1 q1) λu s2 ⟨y,H2,I2,r2,q2⟩ =>
    thn (ho pins s2 σ H2 x y v u _ I2 r1 r2 q2) λd s3 ⟨z,H3,I3,r3,k,e,q3⟩=>?_)) hm
  subst e
  cases r3
  refine wpAny_truthy_bool ?_
  cases k with
  | false =>
    obtain ⟨k',e',q'⟩:=q3
    cases e'
    exact ite_ff ⟨H3,I3,q'⟩
  | true =>
    refine ite_tt (test_last (thn (hc pins s3 σ H3 _ I3 q3) λw' s4 ⟨z',H4,I4,r4,q4⟩=>thn (ho' pins s4 σ H4 y z' u w' _ I4 r2 r4 q4) λd' s5 ⟨z2,H5,I5,r5,k2,e2,q5⟩=>?_))
    subst e2
    cases r5
    exact wpAny_truthy_bool ⟨H5,I5,q5⟩
theorem zm3:(sizeLine:Nat)<2 ^ 63:=by rw [sizeLine_eq];decide
theorem X8 {x:V}{us:List Value}(r:t9 [x] us):∃u,us=[u]/\o6 x u:=by
  cases r with
  | cons r1 r2=>cases r2;exact ⟨_,rfl,r1⟩
theorem A4 {x y:V}{us:List Value}(r:t9 [x,y] us):∃u w',us=[u,w']/\o6 x u/\o6 y w':=by
  cases r with
  | cons r1 r2 =>
    cases r2 with
    | cons r3 r4=>cases r4;exact ⟨_,_,rfl,r1,r3⟩
theorem B3:k9 X (.builtin "divmod") (λxs H Q=>∃i j,xs=[.int i,.int j]/\xc6 i j/\∀p,H p=none->Q (.ref p) (upd H p (.tup [.int (i / j),.int (i % j)]))):=by
  intro pins s σ H xs us Q I r h
  obtain ⟨i,j,rfl,⟨h1,h2⟩,q⟩:=h
  obtain ⟨u,w',rfl,⟨t,rfl⟩,⟨t',rfl⟩⟩:=A4 r
  refine divmod_int (by omega) ?_ (.inl (PyProof.noPylong_small (by omega)))
  rw [cT i (by omega),cS i (by omega)]
  have hn:H s.heap.objs.size=none:=I.hok.fresh (af _)
  refine ⟨.ref s.heap.objs.size,_,?_,rfl,q _ hn⟩
  refine I.laid (λb o e=>ae _ e) (af _) ⟨by simp only [ag,aO];rw [sizeLine_eq];decide,[.int (i / j) s.toks,.int (i % j) (s.toks+1)],.cons ⟨_,rfl⟩ (.cons ⟨_,rfl⟩ .nil),?_⟩
  exact ⟨_,aq s.heap rfl,rfl,0,rfl,rfl⟩
end
structure zw7 (h:Heap) (x dx C:Addr) (mA:Str->Option Value):Prop where
  obj:h.get? x=some (W.instObj C dx)
  ns:h.Ns1 dx mA
  ne:dx≠x
theorem yg0 {h:Heap}{dx:Addr}{mA:Str->Option Value}(n:h.Ns1 dx mA):∃od,h.get? dx=some od/\∀name,W.lookIn name od=some (mA name):=by
  obtain ⟨o,es,ep,ho,hd,hk,_,hm⟩:=n
  refine ⟨o,ho,λname=>?_⟩
  have e:=hm name
  unfold nsFind findBy at e
  rw [←Array.find?_toList] at e
  unfold W.lookIn
  rw [hd]
  dsimp only
  split
  . rename_i y q
    rw [q] at e
    exact congrArg some e
  . rename_i q
    rw [q] at e
    have a:es.toList.any (·.refKey)=false:=by
      rw [List.any_eq_false]
      intro y hy
      obtain ⟨z,t,hkey⟩:=hk y (Array.mem_toList_iff.mp hy)
      simp [DictEntry.refKey,hkey]
    have a':¬es.toList.any (·.refKey)=true:=by rw [a];exact am
    rw [if_neg a']
    exact congrArg some e
theorem zw7.look {h:Heap}{x dx C:Addr}{mA:Str->Option Value}(I:zw7 h x dx C mA):∃od,W.InstAt h x (W.instObj C dx) C (some od)/\∀name,W.lookIn name od=some (mA name) :=
  let ⟨od,ho,hl⟩:=yg0 I.ns
  ⟨od,⟨I.obj,rfl,rfl,ho⟩,hl⟩
section
variable {prog:Program}{w:World}{A:Around}{E:Value->Shared->Prop}{s:Shared}{K:W.Frag}{x dx C f:Addr}{mA:Str->Option Value}{name:Str}{v:Value}
theorem ys4 {expr : Bool}{Q : Value -> Shared -> Prop}(X : K.In s.heap)(I : zw7 s.heap x dx C mA)(hg : W.plainGet K C name = true)(hh : W.hasDictIn K C = true)
    (ha:W.findIn K (.ref C) name=some none) (hv:mA name=some v) (hv':W.handedIn v=true) (h:Q v { s with toks:=s.toks+1 }) :
    wpAny (model prog w) A (getAttr (.ref x) name expr) Q E s:=by
  obtain ⟨od,J,hl⟩:=I.look
  exact W.get_value X J (W.plainGet_of hg).1 (W.findObj_own hh ha rfl (by rw [hl,hv])) hv' h
theorem yk2 {pl : Sem Bool}{Q : Value×List Value -> Shared -> Prop}(X : K.In s.heap)(I : zw7 s.heap x dx C mA)(hg : W.plainGet K C name = true)
    (hf:W.findIn K (.ref C) name=some (some (.ref f))) (ht:W.isFn K (.ref f)=true) (hv:mA name=none) (h:Q (.ref f,[.ref x]) s) :
    wpAny (model prog w) A (getMethod (.ref x) name pl) Q E s:=by
  obtain ⟨od,J,hl⟩:=I.look
  exact W.method_fn X J (W.plainGet_of hg).1 (W.plainGet_of hg).2 hf (beq_iff_eq.mp ht) (by show (W.lookIn name od).map (·.isSome)=some false;rw [hl,hv];rfl) h
theorem yu9 {ns : List Str}{Q : Unit -> Shared -> Prop}(X : K.In s.heap)(I : zw7 s.heap x dx C mA)
    (hs:W.findIn K (.ref C) "__setattr__"=some (some (.builtin "object.__setattr__"))) (hp:W.plainOver K C=true) (ht:W.takerIn K C name=some none) (hh:W.hasDictIn K C=true)
    (hw:PySem.Within mA ns) (hsz:ns.length<=sizeLine)
    (h:∀h',zw7 h' x dx C (λy=>if y=name then some v else mA y)->Heap.SameBut dx s.heap h'->Q () { s with heap:=h',toks:=s.toks+2 }) :
    wpAny (model prog w) A (setAttr (.ref x) name v) Q E s:=by
  obtain ⟨od,J,hl⟩:=I.look
  refine W.set_plain X J hs (W.osa_open (s:={ s with toks:=s.toks+1 }) (r:=none) X J hp ht λb=>?_)
  obtain ⟨cd,hc,hd'⟩:=W.any_some hh
  have hx:s.heap.get? x=some ⟨.ref C,some dx,.plain,#[]⟩:=I.obj
  refine wpAny_bind (wpAny_pure (wpAny_bind (wpAny_bind (wpAny_loadPart hx (wpAny_bind (W.Looks.here (s:={ s with toks:=s.toks+1 }) (W.looks_clsIn X hc) ?_))))))
  rw [hd']
  refine wpAny_pure (a:=some dx) (wpAny_bind (wpAny_pure (wpAny_bind ?_)))
  refine wpAny_nsSet1 (s:={ s with toks:=s.toks+1 }) I.ns λh' hn2 hs2=>?_
  obtain ⟨oD,esD,epD,hoD,hdD,hcD⟩:=hn2.count (PySem.Within.cons name v hw)
  refine wpAny_bind (wpAny_lookBehind hoD (by rw [hdD];exact pastItsLine_dict (aB hcD (by rw [ag];omega))) ?_)
  exact wpAny_pure (h _ ⟨(hs2.2 _ (Ne.symm I.ne)).trans I.obj,hn2,I.ne⟩ hs2)
theorem ym0 {R : Result -> Shared -> Prop}{vs : List Value}{kw : List (Str×Value)}(X : K.In s.heap)(hm : W.makesIn K C = true)
    (hi:W.findIn K (.ref C) "__init__"=some (some (.ref f))) (hf:W.typeIn K (.ref f)=some (.type "function"))
    (h : codeAny (model prog w) (A.under (.builtin "type.__call__" ⟨.ref C::vs, kw⟩)) (.call (.ref f) ⟨.ref (s.heap.objs.size+1)::vs, kw⟩) (W.InitBack (s.heap.objs.size+1) R)
      { s with heap:=(s.heap.push W.emptyDict).push (W.instObj C s.heap.objs.size) }) :
    codeAny (model prog w) A (.call (.ref C) ⟨vs,kw⟩) R s:=by
  obtain ⟨hh,g,d,t,os⟩:=s
  exact W.make_core (W.makes_of X hm) (W.looks_findIn X hi) (λself=>W.bind_fn X self hf) (.inl rfl) h
end
def M2 (f : Str)(v : V) : List (Str×V) -> List (Str×V)
  | []=>[(f,v)]
  | (g,x)::r=>if g=f then (g,v)::r else (g,x)::M2 f v r
theorem B6 (f g : Str)(v : V) : ∀fs : List (Str×V), (M2 f v fs).lookup g = if g = f then some v else fs.lookup g
  | []=>by
    show List.lookup g [(f,v)]=_
    by_cases h:g=f
    . have hb : (g==f) = true := beq_iff_eq.mpr h
      simp only [List.lookup,hb,if_pos h]
    . have hb : (g==f) = false := beq_eq_false_iff_ne.mpr h
      simp only [List.lookup,hb,if_neg h]
  | (k,x)::r=>by
    have ih:=B6 f g v r
    rw [show M2 f v ((k,x)::r)=(if k=f then (k,v)::r else (k,x)::M2 f v r) from rfl]
    by_cases hk:k=f
    . rw [if_pos hk]
      by_cases h:g=k
      . have hb : (g==k) = true := beq_iff_eq.mpr h
        simp only [List.lookup,hb,if_pos (h.trans hk)]
      . have hb : (g==k) = false := beq_eq_false_iff_ne.mpr h
        simp only [List.lookup,hb,if_neg (λe:g=f=>h (e.trans hk.symm))]
    . rw [if_neg hk]
      by_cases h:g=k
      . have hb : (g==k) = true := beq_iff_eq.mpr h
        simp only [List.lookup,hb,if_neg (λe:g=f=>hk (h.symm.trans e))]
      . have hb : (g==k) = false := beq_eq_false_iff_ne.mpr h
        simp only [List.lookup,hb]
        exact ih
theorem D4 (f : Str)(v : V) : ∀fs : List (Str×V), f ∈ (M2 f v fs).map (·.1) /\ ∀g, g ∈ fs.map (·.1) -> g ∈ (M2 f v fs).map (·.1)
  | []=>⟨by simp [M2],λg h=>by simp at h⟩
  | (k,x)::r=>by
    obtain ⟨i1,i2⟩:=D4 f v r
    rw [show M2 f v ((k,x)::r)=(if k=f then (k,v)::r else (k,x)::M2 f v r) from rfl]
    by_cases hk:k=f
    . rw [if_pos hk]
      subst hk
      exact ⟨by simp,λg h=>by simpa using h⟩
    . rw [if_neg hk]
      refine ⟨?_,λg h=>?_⟩
      . rw [aE]
        exact aj _ i1
      . rw [aE] at h ⊢
        rcases aw.mp h with e|e
        . exact aw.mpr (.inl e)
        . exact aj _ (i2 g e)
theorem B5 (f : Str)(v : V) : ∀fs : List (Str×V), (M2 f v fs).length <= fs.length+1
  | []=>by simp [M2]
  | (k,x)::r=>by
    have ih:=B5 f v r
    rw [show M2 f v ((k,x)::r)=(if k=f then (k,v)::r else (k,x)::M2 f v r) from rfl]
    by_cases hk:k=f
    . rw [if_pos hk,ag,ag];omega
    . rw [if_neg hk,ag,ag];omega
theorem zf7.some_of {v:V}{o:Option Value}(r:zf7 (some v) o):∃u,o=some u/\o6 v u:=by
  cases o with
  | none=>exact (show False from r).elim
  | some u=>exact ⟨u,rfl,r⟩
theorem zf7.none_of {o:Option Value}(r:zf7 none o):o=none:=by
  cases o with
  | none=>rfl
  | some u=>exact (show False from r).elim
theorem yf3 {v:V}{u:Value}(r:o6 v u):W.handedIn u=true:=by
  cases v with
  | non=>cases (show u=Value.none from r);rfl
  | bl b=>cases (show u=Value.bool b from r);rfl
  | int i=>obtain ⟨t,e⟩:=(show ∃t,u=Value.int i t from r);cases e;rfl
  | str x=>obtain ⟨t,e⟩:=(show ∃t,u=Value.str x t from r);cases e;rfl
  | byt b=>obtain ⟨t,e⟩:=(show ∃t,u=Value.bytes b t from r);cases e;rfl
  | flt b=>obtain ⟨t,e⟩:=(show ∃t,u=Value.float b t from r);cases e;rfl
  | ref a=>cases (show u=Value.ref a from r);rfl
  | ty n=>cases (show u=Value.type n from r);rfl
section
variable {P:Program}{w:World}{H H':Hp}{h h':Heap}{a C dx:Addr}{fs fs':List (Str×V)}
theorem S6 (hok:HOk P w H h)(e:H a=some (.ins C dx fs)):∃mA,zw7 h a dx C mA/\(∀f,zf7 (fs.lookup f) (mA f))/\PySem.Within mA (fs.map (·.1))/\fs.length<=1000/\H dx=some (.own a):=by
  obtain ⟨d,z,ne,ob,mA,n,r,q⟩:=(show p4 P w H h a (.ins C dx fs) from hok a _ e)
  exact ⟨mA,⟨ob,n,ne⟩,r,q,z,d⟩
end
structure Cls (K:W.Frag) (C:Addr):Prop where
  pg:W.plainGet K C Str.empty=true
  hd:W.hasDictIn K C=true
  po:W.plainOver K C=true
  sa:W.findIn K (.ref C) "__setattr__"=some (some (.builtin "object.__setattr__"))
theorem Cls.get {K:W.Frag}{C:Addr}(c:Cls K C)(f:Str):W.plainGet K C f=true:=c.pg
def P2 (K:W.Frag)(C:Addr)(f:Str):Prop:=W.findIn K (.ref C) f=some none
theorem P2.taker {K:W.Frag}{C:Addr}{f:Str}(n:P2 K C f):W.takerIn K C f=some none:=by
  unfold W.takerIn
  rw [show W.findIn K (.ref C) f=some none from n]
  rfl
structure yx3 (K:W.Frag) (C:Addr) (m:Str) (f:Addr):Prop where
  at_:W.findIn K (.ref C) m=some (some (.ref f))
  fn:W.isFn K (.ref f)=true
  kp:W.keepIn K (.ref f)=true
section
variable {X:Cx}{pins:List (Addr×Obj)}{σ:St}{H:Hp}{s:Shared}{a C dx:Addr}{fs:List (Str×V)}{f:Str}{v:V}{A:Around}{E:Value->Shared->Prop}
theorem zx4 {b : Bool}{Q : Value -> Shared -> Prop}(I : Inv X pins σ H s)(e : H a = some (.ins C dx fs))(c : Cls X.K C)(n : P2 X.K C f)(l : fs.lookup f = some v)
    (h:∀u s',Inv X pins σ H s'->o6 v u->Q u s'):wpAny (model X.prog X.w) A (getAttr (.ref a) f b) Q E s:=by
  obtain ⟨mA,O,r,_,_,_⟩:=S6 I.hok e
  obtain ⟨u,hu,ru⟩:=zf7.some_of (v:=v) (o:=mA f) (by rw [←l];exact r f)
  exact ys4 I.kIn O (c.get f) c.hd n hu (yf3 ru) (h u _ (I.tok _) ru)
theorem zc7 {m : Str}{g : Addr}{pl : Sem Bool}{Q : Value×List Value -> Shared -> Prop}(I : Inv X pins σ H s)(e : H a = some (.ins C dx fs))(c : Cls X.K C)(k : yx3 X.K C m g)(l : fs.lookup m = none)
    (h:Q (.ref g,[.ref a]) s):wpAny (model X.prog X.w) A (getMethod (.ref a) m pl) Q E s:=by
  obtain ⟨mA,O,r,_,_,_⟩:=S6 I.hok e
  have hn:mA m=none:=zf7.none_of (by rw [←l];exact r m)
  exact yk2 I.kIn O (c.get m) k.at_ k.fn hn h
theorem zz9 {y : V}{u : Value}{Q : Unit -> Shared -> Prop}(I : Inv X pins σ H s)(e : H a = some (.ins C dx fs))(c : Cls X.K C)(n : P2 X.K C f)(hl : fs.length<1000)(ry : o6 y u)
    (h:∀s',Inv X pins σ (upd H a (.ins C dx (M2 f y fs))) s'->Q () s'):wpAny (model X.prog X.w) A (setAttr (.ref a) f u) Q E s:=by
  obtain ⟨mA,O,r,wi,_,ho⟩:=S6 I.hok e
  have hz:(fs.map (·.1)).length<=sizeLine:=by rw [aa,sizeLine_eq];omega
  refine yu9 I.kIn O c.sa c.po n.taker c.hd wi hz λh' O' sb=>h _ ?_
  have hd:∃o,h'.get? dx=some o:=let ⟨o,_,_,e',_⟩:=O'.ns;⟨o,e'⟩
  refine I.write (x:=a) (e:=dx) (by rw [e];exact True.intro) (.inr ho) (λb q hb z=>(sb.2 b hb).trans z) hd ?_
  refine ⟨by rw [u9 O.ne];exact ho,?_,O.ne,O'.obj,_,O'.ns,λg=>?_,λg hg=>?_⟩
  . have:=B5 f y fs;omega
  . show zf7 ((M2 f y fs).lookup g) (if g = f then some u else mA g)
    rw [B6]
    by_cases q:g=f
    . rw [if_pos q,if_pos q];exact ry
    . rw [if_neg q,if_neg q];exact r g
  . by_cases q : g = f
    . rw [q];exact (D4 f y fs).1
    . refine (D4 f y fs).2 g (wi g λz => hg ?_)
      show (if g=f then some u else mA g)=none
      rw [if_neg q];exact z
theorem Inv.made (I : Inv X pins σ H s) : Inv X pins σ (upd (upd H s.heap.objs.size (.own (s.heap.objs.size+1))) (s.heap.objs.size+1) (.ins C s.heap.objs.size []))
    { s with heap:=(s.heap.push W.emptyDict).push (W.instObj C s.heap.objs.size) }:=by
  have e1:(s.heap.push W.emptyDict).get? s.heap.objs.size=some W.emptyDict:=aq s.heap rfl
  have e2:((s.heap.push W.emptyDict).push (W.instObj C s.heap.objs.size)).get? (s.heap.objs.size+1)=some (W.instObj C s.heap.objs.size):=by
    have:=aq (s.heap.push W.emptyDict) (o:=W.instObj C s.heap.objs.size) rfl
    rwa [bj] at this
  have e3:(s.heap.push W.emptyDict).Ns s.heap.objs.size (λ_=>none):=⟨W.emptyDict,#[],_,e1,rfl,(λe he=>absurd he (by simp)),λ_=>rfl⟩
  have I1:=I.laid (a:=s.heap.objs.size) (o:=.own (s.heap.objs.size+1)) (h':=s.heap.push W.emptyDict) (t':=s.toks) (λb u q=>ae _ q) (af _) ⟨_,e1⟩
  refine I1.laid (a:=s.heap.objs.size+1) (o:=.ins C s.heap.objs.size []) (t':=s.toks) (λb u q=>ae _ q) (cZ (bj _ _)) ?_
  have ne:s.heap.objs.size≠s.heap.objs.size+1:=av (bO _)
  refine ⟨by rw [u9 ne,z5],ax _,ne,e2,λ_=>none,(Heap.Ns1.of_empty e3).at λo q=>ae _ q,λ_=>True.intro,λy hy=>absurd rfl hy⟩
theorem yr7 {prog : Program}{w : World}{env : Env}{e : Expr}{f : Str}{pos : Pos}{s : Shared}{Q : Value -> Shared -> Prop}(hb : attributeBase e f env (eval e env) = eval e env)
    (h:wpAny (model prog w) A (eval e env) (λo s₁=>wpAny (model prog w) A (getAttr o f true) Q E s₁) E s):wpAny (model prog w) A (eval (.Attribute e f pos) env) Q E s :=
  Attribute_any_ h (by rw [arm_eval_Attribute,hb])
end
def xi9 (K:W.Frag)(ta:TE)(f:Str):TE:=λσ H Q=>ta σ H λx H1=>∃a C dx fs v,x=.ref a/\H1 a=some (.ins C dx fs)/\Cls K C/\P2 K C f/\fs.lookup f=some v/\Q v H1
def xi7 (K:W.Frag)(ta tv:TE)(f:Str):TS:=λD σ H=>tv σ H λy H1=>ta σ H1 λx H2=>∃a C dx fs,x=.ref a/\H2 a=some (.ins C dx fs)/\Cls K C/\P2 K C f/\fs.length<1000 /\
  D.nx σ (upd H2 a (.ins C dx (M2 f y fs)))
section
variable {X:Cx}{o e value:Expr}{f:Str}{pos pos' tpos:Pos}{ta tv:TE}
theorem K6 (he:PE X e ta)(hb:attributeBase e f X.env (eval e X.env)=eval e X.env):PE X (.Attribute e f pos) (xi9 X.K ta f):=by
  intro pins s σ H Q I h
  refine yr7 hb (thn (he pins s σ H _ I h) λu s1 ⟨x,H1,I1,rx,a,C,dx,fs,v,ex,ea,c,n,l,q⟩=>?_)
  subst ex
  obtain rfl:u=Value.ref a:=rx
  exact zx4 I1 ea c n l λu' s2 I2 ru=>⟨v,H1,I2,ru,q⟩
theorem xb5 (ha:PE X o ta)(hv:PE X value tv)(hs:swapsWith value (some (.Attribute o f pos')) pos.line X.env=pure false):PS X (.Assign [.Attribute o f pos'] value pos) (xi7 X.K ta tv f):=by
  intro pins s σ H D I h
  refine plainObj_wpAny_Assign_Attribute (thn (hv pins s σ H _ I h) λu s1 ⟨y,H1,I1,ry,q⟩=>thn (ha pins s1 σ H1 _ I1 q) λov s2 ⟨x,H2,I2,rx,a,C,dx,fs,ex,ea,c,n,l,q2⟩=>?_) hs
  subst ex
  obtain rfl:ov=Value.ref a:=rx
  exact zz9 I2 ea c n l ry λs3 I3=>⟨σ,_,I3,q2⟩
end
section
variable {X:Cx}{pins:List (Addr×Obj)}{σ:St}{H:Hp}{s:Shared}{A:Around}{E:Value->Shared->Prop}{Q:Value->Shared->Prop}{c:Value}{b:Bool}
inductive P0 (K:W.Frag) (H:Hp):V->Value->Prop where
  | non:P0 K H .non (.type "NoneType")
  | bl (x:Bool):P0 K H (.bl x) (.type "bool")
  | int (i:Int):P0 K H (.int i) (.type "int")
  | str (x:Str):P0 K H (.str x) (.type "str")
  | flt (x:UInt64):P0 K H (.flt x) (.type "float")
  | lst {a:Addr} {xs:List V} (e:H a=some (.lst xs)):P0 K H (.ref a) (.type "list")
  | frz {a:Addr} {o:Obj} {xs:List V} (e:H a=some (.frz o (.lst xs))):P0 K H (.ref a) (.type "list")
  | tup {a:Addr} {xs:List V} (e:H a=some (.tup xs)):P0 K H (.ref a) (.type "tuple")
  | dK {a:Addr} {kvs:List (Key×V)} (e:H a=some (.dK kvs)):P0 K H (.ref a) (.type "dict")
  | dT {a:Addr} {kvs:List (List Key×V)} (e:H a=some (.dT kvs)):P0 K H (.ref a) (.type "dict")
  | ins {a C dx : Addr} {fs : List (Str×V)} (e : H a = some (.ins C dx fs)) (cl : Cls K C) (ha : W.findIn K (.ref C) "__class__" = some (some (.builtin "object.__class__")))
      (hn:W.specialIn K (.builtin "object.__class__") "__get__"=some (some (.builtin "getset_descriptor.__get__"))) (htk:W.takesIn K (.builtin "object.__class__")=some true)
      (hm:W.mroIn K C (.type "object")=some true):P0 K H (.ref a) (.ref C)
theorem yf6 {x : V}{u t : Value}(I : Inv X pins σ H s)(rx : o6 x u)(ty : P0 X.K H x t)(e : W.kitOne X.K t c = some b)(h : ∀tk, Q (.bool b) { s with toks := tk }) :
    wpAny (model X.prog X.w) A (call (.builtin "isinstance") [u,c]) Q E s:=by
  cases ty with
  | non=>cases (show u=Value.none from rx);exact W.kia_one W.kitx_none I.kIn True.intro e (λz=>nomatch z) h
  | bl y=>cases (show u=Value.bool y from rx);exact W.kia_one W.kitx_bool I.kIn True.intro e (λz=>nomatch z) h
  | int i=>obtain ⟨t,q⟩:=(show ∃t,u=Value.int i t from rx);cases q;exact W.kia_one W.kitx_int I.kIn True.intro e (λz=>nomatch z) h
  | str y=>obtain ⟨t,q⟩:=(show ∃t,u=Value.str y t from rx);cases q;exact W.kia_one W.kitx_str I.kIn True.intro e (λz=>nomatch z) h
  | flt y=>obtain ⟨t,q⟩:=(show ∃t,u=Value.float y t from rx);cases q;exact W.kia_one W.kitx_float I.kIn True.intro e (λz=>nomatch z) h
  | @lst a xs ea =>
    cases (show u=Value.ref a from rx)
    obtain ⟨_,_,n,_,h1⟩:=(show p4 X.prog X.w H s.heap a (.lst xs) from I.hok a _ ea)
    exact W.kia_one W.kitx_list I.kIn ⟨_,h1,rfl⟩ e (λz=>nomatch z) h
  | @frz a ob xs ea =>
    cases (show u=Value.ref a from rx)
    obtain ⟨_,_,_,n,_,h1⟩:=(show p4 X.prog X.w H s.heap a (.frz ob (.lst xs)) from I.hok a _ ea)
    exact W.kia_one W.kitx_list I.kIn ⟨_,h1,rfl⟩ e (λz=>nomatch z) h
  | @tup a xs ea =>
    cases (show u=Value.ref a from rx)
    obtain ⟨_,_,_,p⟩:=(show p4 X.prog X.w H s.heap a (.tup xs) from I.hok a _ ea)
    obtain ⟨o,h1,h2,_⟩:=p
    exact W.kia_one W.kitx_tuple I.kIn ⟨o,h1,h2⟩ e (λz=>nomatch z) h
  | @dK a kvs ea =>
    cases (show u=Value.ref a from rx)
    obtain ⟨_,_,vs,_,p⟩:=(show p4 X.prog X.w H s.heap a (.dK kvs) from I.hok a _ ea)
    obtain ⟨o,es,ep,h1,h2,_⟩:=p
    exact W.kia_one W.kitx_dict I.kIn ⟨o,h1,h2.1⟩ e (λz=>nomatch z) h
  | @dT a kvs ea =>
    cases (show u=Value.ref a from rx)
    obtain ⟨_,_,xs,_,o,es,ep,h1,h2,_⟩:=(show p4 X.prog X.w H s.heap a (.dT kvs) from I.hok a _ ea)
    exact W.kia_one W.kitx_dict I.kIn ⟨o,h1,h2.1⟩ e (λz=>nomatch z) h
  | @ins a C dx fs ea cl ha hn htk hm =>
    cases (show u=Value.ref a from rx)
    obtain ⟨mA,O,_⟩:=S6 I.hok ea
    obtain ⟨od,J,_⟩:=O.look
    exact W.kia_one (W.kitx_own (cl.get _) cl.hd ha hn htk hm) I.kIn J e (λz=>nomatch z) h
end
structure Z2 (k:Nat) (A:Around):Prop where
  hd:A.handled=none
  dp:A.depth+3*k+5<recursionLimit
  un:A.units+16*k+200<cLine
theorem Z2.mono {j k:Nat}{A:Around}(r:Z2 k A)(h:j<=k):Z2 j A:=⟨r.hd,by have:=r.dp;omega,by have:=r.un;omega⟩
theorem Z2.deeper {k:Nat}{A:Around}(r:Z2 (k+1) A)(env:Env):Z2 k (A.deeper env) :=
  ⟨r.hd,by have:=r.dp;show A.depth+1+3*k+5<_;omega,by have:=r.un;show A.units+3+16*k+200<_;omega⟩
theorem zy2 {A:Around}{C:Addr}{us:List Value}{kw:List (Str×Value)}:(A.under (.builtin "type.__call__" ⟨.ref C::us,kw⟩)).depth=A.depth+1:=by
  first|rfl|simp [Around.under,Code.weight,Code.isCreation,Code.isGuard,Code.isCaller,Code.frames,Code.isFrame,guardIds]
theorem zy3 {A:Around}{C:Addr}{us:List Value}{kw:List (Str×Value)}:(A.under (.builtin "type.__call__" ⟨.ref C::us,kw⟩)).units=A.units+1:=by
  first|rfl|simp [Around.under,Code.cUnits,Code.frames,Code.isFrame]
theorem Z2.make {k:Nat}{A:Around}(r:Z2 (k+1) A)(C:Addr)(us:List Value)(kw:List (Str×Value)):Z2 k (A.under (.builtin "type.__call__" ⟨.ref C::us,kw⟩)) :=
  ⟨r.hd,by have:=r.dp;rw [zy2];omega,by have:=r.un;rw [zy3];omega⟩
theorem Z2.depth {k:Nat}{A:Around}(r:Z2 k A):A.depth<recursionLimit:=by have:=r.dp;omega
theorem Z2.units {k:Nat}{A:Around}(r:Z2 k A):A.units+64<cLine:=by have:=r.un;omega
def xj2:TA:=λ_ H Q=>Q [] H
def xg1 (ta:TE)(tr:TA):TA:=λσ H Q=>ta σ H λx H1=>tr σ H1 λxs H2=>Q (x::xs) H2
section
variable {X:Cx}{e:Expr}{es:List Expr}{te:TE}{t:TA}{pos:Pos}
theorem z4:PA X [] xj2:=λ_ _ _ _ H Q I h=>Calls.spliced_nil ⟨[],H,I,.nil,h⟩
theorem z0 (ha:PE X e te)(hr:PA X es t)(hs:starEach (e::es) X.env=(false,eval e X.env)::starEach es X.env:=by rfl):PA X (e::es) (xg1 te t):=by
  intro pos pins s σ H Q I h
  rw [hs]
  show wpAny _ _ (spliced ((false,eval e X.env)::backTo pos (starEach es X.env))) _ _ s
  refine Calls.spliced_cons (thn (ha pins s σ H _ I h) λu s1 ⟨x,H1,I1,r1,q1⟩=>?_)
  exact thn (hr pos pins s1 σ H1 _ I1 q1) λus s2 ⟨xs,H2,I2,r2,q2⟩=>⟨x::xs,H2,I2,.cons r1 r2,q2⟩
def xj5 (t:TA):TE:=λσ H Q=>t σ H λxs H1=>xs.length<=sizeLine/\∀p,H1 p=none->Q (.ref p) (upd H1 p (.tup xs))
def xj1 (t:TA):TE:=λσ H Q=>t σ H λxs H1=>xs.length<=sizeLine/\∀p,H1 p=none->Q (.ref p) (upd H1 p (.lst xs))
theorem S9 {x1}(h:PA X es t):PE X (.Tuple es x1 pos) (xj5 t):=by
  intro pins s σ H Q I hq
  refine wpAny_Tuple_spliced (thn (h pos pins s σ H _ I hq) λus s1 ⟨xs,H1,I1,r,z,q⟩=>⟨by rw [←r.length];exact z,?_⟩)
  have hf:H1 s1.heap.objs.size=none:=I1.hok.fresh (af _)
  refine ⟨.ref s1.heap.objs.size,upd H1 s1.heap.objs.size (.tup xs),I1.laid (t':=s1.toks) (λb u e=>ae _ e) (af _) ?_,rfl,q _ hf⟩
  exact ⟨z,us,r,⟨_,aq _ rfl,rfl,_,rfl,rfl⟩⟩
theorem p3 (h:PA X es t):PE X (.List es pos) (xj1 t):=by
  intro pins s σ H Q I hq
  refine wpAny_List_spliced (thn (h pos pins s σ H _ I hq) λus s1 ⟨xs,H1,I1,r,z,q⟩=>⟨by rw [←r.length];exact z,?_⟩)
  have hf:H1 s1.heap.objs.size=none:=I1.hok.fresh (af _)
  refine ⟨.ref s1.heap.objs.size,upd H1 s1.heap.objs.size (.lst xs),I1.laid (t':=s1.toks) (λb u e=>ae _ e) (af _) ?_,rfl,q _ hf⟩
  exact ⟨z,us,0,r,aq _ rfl⟩
end
abbrev Sp:=List V->Hp->VK->XK->Prop
abbrev CXT:=List Env->Hp->Shared->XK->Value->Shared->Prop
structure zw6 (P:Program) (w:World) (K:W.Frag) (mg:Str->Option Value) (base:Heap) (A:Around) (outer:List Env) (s:Shared) (H:Hp):Prop where
  frames:A.frames=some outer
  mod:Mod K mg base
  bs:∀b o,base.get? b=some o->s.heap.get? b=some o/\H b=none
  bsz:base.objs.size<=s.heap.objs.size
  funs:s.heap.FunFrames base outer
  frf:∀b∈frs outer,H b=none
  hok:HOk P w H s.heap
  bare:AllBare s.gens
def CE (outer:List Env)(P:Program)(w:World)(H:Hp)(s:Shared)(Q:VK)(u:Value)(s':Shared):Prop :=
  ∃v H',s'.os=s.os/\AllBare s'.gens/\Un (frs outer) [] H H' s.heap s'.heap/\HOk P w H' s'.heap/\o6 v u/\Q v H'
def CR (CX:CXT)(outer:List Env)(P:Program)(w:World)(H:Hp)(s:Shared)(Q:VK)(E:XK)(r:Result)(s':Shared):Prop :=
  match r with
  | .ok (.ret u)=>CE outer P w H s Q u s'
  | .ok _=>False
  | .error e=>CX outer H s E e s'
structure r8 (P:Program) (w:World) (K:W.Frag) (mg:Str->Option Value) (base:Heap) (CX:CXT) (k:Nat) (f:Addr) (fd:FuncData) (ps:List Str) (sp:Sp):Prop where
  len:∀vs H Q E,sp vs H Q E->vs.length=ps.length
  run:∀(A:Around) (outer:List Env) (s:Shared) (H:Hp) (args:Args) (us:List Value) (vs:List V) (Q:VK) (E:XK),Z2 k A->zw6 P w K mg base A outer s H->BindsTo s fd args (ps.zip us)->t9 vs us->sp vs H Q E ->
    codeAny (model P w) A (.call (.ref f) args) (CR CX outer P w H s Q E) s
theorem zw6.make {P : Program}{w : World}{K : W.Frag}{mg : Str -> Option Value}{base : Heap}{A : Around}{outer : List Env}{s : Shared}{H : Hp}(e : zw6 P w K mg base A outer s H)(C : Addr)(us : List Value)(kw : List (Str×Value)) :
    zw6 P w K mg base (A.under (.builtin "type.__call__" ⟨.ref C::us,kw⟩)) outer s H:=⟨by first|exact e.frames|(simpa [Around.under,Code.envs,Code.isFrame,pushEnvs] using e.frames),e.mod,e.bs,e.bsz,e.funs,e.frf,e.hok,e.bare⟩
section
variable {X:Cx}{pins:List (Addr×Obj)}{σ:St}{H:Hp}{s s':Shared}
theorem Inv.env0 (I:Inv X pins σ H s):zw6 X.prog X.w X.K X.mg X.base X.A X.stack s H :=
  ⟨I.ok.frames,I.ok.mod,I.bs,aB I.ok.bsz I.sz,I.stack,I.stkFree,I.hok,I.bare⟩
theorem Inv.after {Q:VK}{u:Value}(I:Inv X pins σ H s)(h:CE X.stack X.prog X.w H s Q u s'):EP X pins σ Q u s':=by
  obtain ⟨v,H',os,bare,un,hok,r,q⟩:=h
  obtain ⟨hh,g,d,t,os'⟩:=s'
  obtain rfl:os'=s.os:=os
  exact ⟨v,H',I.call (h':=hh) (g':=g) (d':=d) (t':=t) (ch:=[]) un hok bare (λb z=>absurd z (by simp)),r,q⟩
end
def yd8 (sp:Sp)(dvs:List V)(E:XK)(t:TA):TE:=λσ H Q=>t σ H λvs H1=>sp (vs++dvs) H1 Q E
def yw8 (C:Addr)(sp:Sp)(dvs:List V)(E:XK)(t:TA):TE:=λσ H Q=>t σ H λvs H1=>∀x dx,H1 x=none->H1 dx=none->dx≠x ->
  sp (.ref x::(vs++dvs)) (upd (upd H1 dx (.own x)) x (.ins C dx [])) (λv H2=>v=.non/\Q (.ref x) H2) E
def V5 (K:W.Frag)(fd:FuncData)(ps:List Str)(ds:List Value):Prop :=
  ∀(s:Shared) (us:List Value),K.In s.heap->(us++ds).length=ps.length->BindsTo s fd ⟨us,[]⟩ (ps.zip (us++ds))
theorem V5.all {K:W.Frag}{fd:FuncData}{ps:List Str}(h:∀us:List Value,us.length=ps.length->bindArgs fd ⟨us,[]⟩=pure (ps.zip us)):V5 K fd ps []:=λs us _ hl=>by
  rw [bu] at hl ⊢
  exact .of_eq (h us hl)
def L7 (CX:CXT)(X:Cx)(E:XK):Prop:=∀(pins:List (Addr×Obj)) (σ:St) (H:Hp) (s:Shared) (e:Value) (s':Shared),Inv X pins σ H s->CX X.stack H s E e s'->X.xe e s'
section
variable {X:Cx}{CX:CXT}{k:Nat}{f C:Addr}{fd:FuncData}{ps:List Str}{sp:Sp}{dvs:List V}{ds:List Value}{E:XK}{x m:Str}{p pos apos:Pos}{e o:Expr}{es:List Expr}{ta:TE}{t:TA}
theorem xc0 {pins : List (Addr×Obj)}{σ : St}{H : Hp}{s : Shared}{Q : VK}{us : List Value}{vs : List V}(F : r8 X.prog X.w X.K X.mg X.base CX k f fd ps sp)(hr : Z2 k X.A)(hb : V5 X.K fd ps ds)(hd : t9 dvs ds)(hx : L7 CX X E)
    (I:Inv X pins σ H s) (r:t9 vs us) (h:sp (vs++dvs) H Q E):wpAny (model X.prog X.w) X.A (call (.ref f) us) (EP X pins σ Q) X.xe s:=by
  have r2:t9 (vs++dvs) (us++ds):=r.append hd
  have hl:(us++ds).length=ps.length:=by rw [←r2.length];exact F.len _ _ _ _ h
  refine wpAny_call (codeAny_mono (F.run X.A X.stack s H ⟨us,[]⟩ (us++ds) (vs++dvs) Q E hr I.env0 (hb s us I.kIn hl) r2 h) λr s' hq=>?_)
  cases r with
  | error e=>exact hx pins σ H s e s' I hq
  | ok fl =>
    cases fl with
    | ret u=>exact I.after hq
    | next=>exact False.elim hq
    | brk=>exact False.elim hq
    | cont=>exact False.elim hq
theorem zn6 (F : r8 X.prog X.w X.K X.mg X.base CX k f fd ps sp)(hr : Z2 k X.A)(hg : Gl X x)(hm : X.mg x = some (.ref f))(hk : W.keepIn X.K (.ref f) = true)(hb : V5 X.K fd ps ds)(hd : t9 dvs ds)(hx : L7 CX X E)
    (ha:PA X (e::es) t) (hdb:(x==("__debug__":Str))=false:=by decide) (he:starEach (e::es) X.env=(false,eval e X.env)::starEach es X.env:=by rfl) (hpl:(backTo pos (starEach es X.env)).any (·.1)=false:=by rfl) :
    PE X (.Call (.Name x p) (e::es) [] pos) (yd8 sp dvs E t):=by
  intro pins s σ H Q I h
  refine wpAny_Call_Name_kw (N4 I hg hm ?_ hdb)
  refine W.callWith_K (h₀:=X.base) I.ok.mod.kin hk (thn (ha pos pins s σ H _ I h) λus s1 ⟨vs,H1,I1,r,q⟩=>⟨I1.kIn,?_⟩) he hpl
  exact xc0 F hr hb hd hx I1 r q
structure Mk (K:W.Frag) (C f:Addr):Prop where
  makes:W.makesIn K C=true
  init:W.findIn K (.ref C) "__init__"=some (some (.ref f))
  fn:W.isFn K (.ref f)=true
  kp:W.keepIn K (.ref C)=true
theorem yp2 {pins : List (Addr×Obj)}{σ : St}{H : Hp}{s : Shared}{Q : VK}{us : List Value}{vs : List V}(M : Mk X.K C f)(F : r8 X.prog X.w X.K X.mg X.base CX k f fd ps sp)(hr : Z2 (k+1) X.A)(hb : V5 X.K fd ps ds)(hd : t9 dvs ds)
    (hx:L7 CX X E) (I:Inv X pins σ H s) (r:t9 vs us)
    (h:∀x dx,H x=none->H dx=none->dx≠x->sp (.ref x::(vs++dvs)) (upd (upd H dx (.own x)) x (.ins C dx [])) (λv H2=>v=.non/\Q (.ref x) H2) E) :
    wpAny (model X.prog X.w) X.A (call (.ref C) us) (EP X pins σ Q) X.xe s:=by
  have hq:=h (s.heap.objs.size+1) s.heap.objs.size (I.hok.fresh (bS _)) (I.hok.fresh (af _)) (av (bO _))
  have I2:=Inv.made (C:=C) I
  have r2:t9 (V.ref (s.heap.objs.size+1)::(vs++dvs)) (Value.ref (s.heap.objs.size+1)::(us++ds)):=.cons rfl (r.append hd)
  have hl:(Value.ref (s.heap.objs.size+1)::us++ds).length=ps.length:=by
    have e:=r2.length
    rw [F.len _ _ _ _ hq] at e
    exact e.symm
  refine wpAny_call (ym0 (f := f) I.kIn M.makes M.init (beq_iff_eq.mp M.fn) (codeAny_mono (F.run _ X.stack _ _ ⟨Value.ref (s.heap.objs.size+1)::us, []⟩ (Value.ref (s.heap.objs.size+1)::(us ++ ds)) _ _ E (hr.make C us [])
    (I2.env0.make C us []) (hb _ (Value.ref (s.heap.objs.size+1)::us) I2.kIn hl) r2 hq) λr s' hq'=>?_))
  cases r with
  | error e=>exact hx pins σ _ _ e s' I2 hq'
  | ok fl =>
    cases fl with
    | ret u =>
      obtain ⟨v,H',I3,rv,ev,q3⟩:=I2.after hq'
      subst ev
      exact ⟨rv,⟨V.ref (s.heap.objs.size+1),H',I3,rfl,q3⟩⟩
    | next=>exact False.elim hq'
    | brk=>exact False.elim hq'
    | cont=>exact False.elim hq'
theorem yt9 (M : Mk X.K C f)(F : r8 X.prog X.w X.K X.mg X.base CX k f fd ps sp)(hr : Z2 (k+1) X.A)(hg : Gl X x)(hm : X.mg x = some (.ref C))(hb : V5 X.K fd ps ds)(hd : t9 dvs ds)(hx : L7 CX X E)
    (ha:PA X (e::es) t) (hdb:(x==("__debug__":Str))=false:=by decide) (he:starEach (e::es) X.env=(false,eval e X.env)::starEach es X.env:=by rfl) (hpl:(backTo pos (starEach es X.env)).any (·.1)=false:=by rfl) :
    PE X (.Call (.Name x p) (e::es) [] pos) (yw8 C sp dvs E t):=by
  intro pins s σ H Q I h
  refine wpAny_Call_Name_kw (N4 I hg hm ?_ hdb)
  refine W.callWith_K (h₀:=X.base) I.ok.mod.kin M.kp (thn (ha pos pins s σ H _ I h) λus s1 ⟨vs,H1,I1,r,q⟩=>⟨I1.kIn,?_⟩) he hpl
  exact yp2 M F hr hb hd hx I1 r q
end
section
variable {X:Cx}{CX:CXT}{k:Nat}{f C:Addr}{fd:FuncData}{ps ks:List Str}{sp:Sp}{E:XK}{x m:Str}{p pos apos kpos:Pos}{e o:Expr}{es:List Expr}{kws:List Keyword}{te ta:TE}{t tk:TA}{nm:Option Str}
variable {g:List Value->List Value->List Value}{gV:List V->List V->List V}
end
structure v9 (N P:List Str) (sc:Scope):Prop where
  kind:sc.kind=.function
  co:sc.isCoroutine=false
  gen:sc.isGenerator=false
  nd:N.Nodup
  pre:N.take P.length=P
  par:∀x∈P,sc.names.lookup x=some .local∨sc.names.lookup x=some .cell
  nofree:∀y∈sc.names,y.2≠.free
theorem zi0 {kindOf : Str -> Option NameKind}{x : Str} : ∀{binds : List (Str×Value)} {m : Str -> Option Value}, (∀v, (x, v) ∉ binds) -> bindL kindOf binds m x = m x
  | [],_,_=>rfl
  | (n,v)::r,m,h=>by
    unfold bindL
    rw [zi0 λw hw=>h w (aj _ hw)]
    split
    . have : x ≠ n := by rintro rfl; exact h v ap
      simp [this]
    . rfl
theorem zh8 {kindOf : Str -> Option NameKind}{x : Str} : ∀{binds : List (Str×Value)} {m : Str -> Option Value}, (∀v, (x, v) ∉ binds) -> bindC kindOf binds m x = m x
  | [],_,_=>rfl
  | (n,v)::r,m,h=>by
    unfold bindC
    rw [zh8 λw hw=>h w (aj _ hw)]
    split
    . rfl
    . have : x ≠ n := by rintro rfl; exact h v ap
      simp [this]
theorem zh9 {kindOf:Str->Option NameKind}{x:Str}{v:Value}:∀{P:List Str} {vs:List Value} {i:Nat} {m:Str->Option Value},P.Nodup->P[i]?=some x->vs[i]?=some v->kindOf x=some .local ->
    bindL kindOf (P.zip vs) m x=some v
  | [],_,_,_,_,h,_,_=>by simp at h
  | _::_,[],_,_,_,_,h,_=>by simp at h
  | p::P,w::vs,0,m,nd,h1,h2,hk=>by
    simp at h1 h2;subst h1;subst h2
    show bindL kindOf ((p,w)::P.zip vs) m p=_
    unfold bindL
    rw [zi0 λv hv=>(bD.mp nd).1 (cM hv).1,if_pos hk]
    simp
  | p::P,w::vs,i+1,m,nd,h1,h2,hk=>by
    show bindL kindOf ((p,w)::P.zip vs) m x=_
    unfold bindL
    exact zh9 (i:=i) (bD.mp nd).2 (by simpa using h1) (by simpa using h2) hk
theorem zh7 {kindOf:Str->Option NameKind}{x:Str}{v:Value}:∀{P:List Str} {vs:List Value} {i:Nat} {m:Str->Option Value},P.Nodup->P[i]?=some x->vs[i]?=some v->kindOf x≠some .local ->
    bindC kindOf (P.zip vs) m x=some v
  | [],_,_,_,_,h,_,_=>by simp at h
  | _::_,[],_,_,_,_,h,_=>by simp at h
  | p::P,w::vs,0,m,nd,h1,h2,hk=>by
    simp at h1 h2;subst h1;subst h2
    show bindC kindOf ((p,w)::P.zip vs) m p=_
    unfold bindC
    rw [zh8 λv hv=>(bD.mp nd).1 (cM hv).1,if_neg hk]
    simp
  | p::P,w::vs,i+1,m,nd,h1,h2,hk=>by
    show bindC kindOf ((p,w)::P.zip vs) m x=_
    unfold bindC
    exact zh7 (i:=i) (bD.mp nd).2 (by simpa using h1) (by simpa using h2) hk
def start (N:List Str)(vs:List V):St:=vs.map some++List.replicate (N.length-vs.length) none
def X3 (CX:CXT)(P:Program)(w:World)(K:W.Frag)(mg:Str->Option Value)(base:Heap)(N:List Str)(qual:Str)(scope:Scope)(f:Addr)(cd:Value)(A:Around)(outer:List Env)(s:Shared)(H:Hp)(E:XK):Cx where
  prog:=P
  w:=w
  K:=K
  mg:=mg
  base:=base
  A:=A.deeper (envOfC qual scope s.heap.objs.size f cd)
  N:=N
  s₀:=s
  H₀:=H
  env:=envOfC qual scope s.heap.objs.size f cd
  outer:=outer
  stack:=envOfC qual scope s.heap.objs.size f cd::outer
  ex:=[]
  calm:=true
  fn:=λ_=>true
  pn:=[]
  xe:=λe s'=>wpAny (model P w) (A.deeper (envOfC qual scope s.heap.objs.size f cd)) (leaving (envOfC qual scope s.heap.objs.size f cd) e) (λ_ s''=>CX outer H s E e s'') (λe' s''=>CX outer H s E e' s'') s'
theorem zq1 {sc:Scope}{n:Nat}{x:Str}(h:sc.names.lookup x=some .cell):∃c,(cellsFrom n sc.names []).lookup x=some c:=by
  have q:=W.cellsFrom_some sc.names n [] (.inl h)
  exact Option.isSome_iff_exists.mp q
theorem yf5 {CX : CXT}{P : Program}{w : World}{K : W.Frag}{mg : Str -> Option Value}{base : Heap}{N ps : List Str}{qual : Str}{scope : Scope}{f : Addr}{cd : Value}{A : Around}{outer : List Env}{s s1 : Shared}{H : Hp}{E : XK}{us : List Value}{vs : List V}
    (S:v9 N ps scope) (hd:A.handled=none) (e0:zw6 P w K mg base A outer s H) (hl:vs.length=ps.length) (r:t9 vs us)
    (x:InCallC s s.heap.objs.size (bindL (envOfC qual scope s.heap.objs.size f cd).kindOf (ps.zip us) λ_=>none) (cellsFrom (s.heap.objs.size+1) scope.names []) (bindC (envOfC qual scope s.heap.objs.size f cd).kindOf (ps.zip us) λ_=>none) s1) :
    Inv (X3 CX P w K mg base N qual scope f cd A outer s H E) [] (start N vs) H s1:=by
  have hpl:ps.length<=N.length:=by have:=congrArg List.length S.pre;rw [aP] at this;omega
  obtain ⟨h1,tk,rfl,hk⟩:=x.done
  have noA:∀b:Addr,b∉(X3 CX P w K mg base N qual scope f cd A outer s H E).ex:=λb z=>absurd (show b∈([]:List Addr) from z) (by simp)
  refine ⟨⟨e0.mod,S.kind,rfl,rfl,af _,λy z c h1 h2=>?_,λy hy=>?_,λy c _ h=>?_,λ_=>hd,Around.frames_deeper e0.frames,.inr ⟨rfl,rfl⟩,λb z=>absurd z (noA b),e0.bs,e0.bsz,λb _ _=>noA b,λb z=>absurd z (noA b),e0.funs,e0.frf⟩,
    rfl,e0.bare,Un.kept hk,⟨_,x.toInCall.ns,λi y v h1 h2 h3=>?_⟩,λy c h=>⟨_,x.cell y c h⟩,e0.hok.fresh (af _),λy c h=>?_,λp hp=>absurd (show p∈([]:List (Addr×Obj)) from hp) (by simp),e0.hok.kept hk,?_⟩
  . exact name_of_addr x.apart (PySem.mem_of_lookup h1) (PySem.mem_of_lookup h2)
  . have hy : scope.names.lookup y = some .cell∨scope.names.lookup y = some .free := hy
    rcases hy with hy|hy
    . exact zq1 hy
    . exact absurd rfl (S.nofree _ (PySem.mem_of_lookup hy))
  . exact bI (x.above y c (PySem.mem_of_lookup h))
  . have hi:i<vs.length:=by
      unfold start at h2
      by_cases hi:i<vs.length
      . exact hi
      . rw [aU (by simpa using hi)] at h2
        rw [cu] at h2
        split at h2 <;> cases h2
    have ha:vs[i]?=some v:=by
      unfold start at h2
      rw [aQ (by simpa using hi),au] at h2
      cases e:vs[i]? with
      | none=>rw [e] at h2;cases h2
      | some a=>rw [e] at h2;cases h2;rfl
    obtain ⟨u,hu,rv⟩:=r.get ha
    have hp:ps[i]?=some y:=by
      rw [←S.pre,cq (by omega)];exact h1
    have ndP:ps.Nodup:=by rw [←S.pre];exact S.nd.sublist (df _ _)
    refine ⟨u,rv,?_⟩
    rcases S.par y (ay hp) with k|k
    . exact .inl ⟨k,zh9 ndP hp hu k⟩
    . obtain ⟨c, e⟩ := zq1 (n := s.heap.objs.size+1) k
      refine .inr ⟨.inl k,c,e,?_⟩
      have q:=x.cell y c e
      rw [zh7 ndP hp hu (by show scope.names.lookup y≠_;rw [k];decide)] at q
      exact q
  . exact e0.hok.fresh (bI (x.above y c (PySem.mem_of_lookup h)))
  . unfold start
    show _=N.length
    rw [al,aa,bU]
    omega
theorem yw0 {CX : CXT}{P : Program}{w : World}{K : W.Frag}{mg : Str -> Option Value}{base : Heap}{k : Nat}{f : Addr}{name qual : Str}{params : Arguments}{body : List Stmt}{scope : Scope}{dV kV doc pm cdv ct oc : Value}{an od : Option Addr}
    {osl:Array (Option Value)} {N ps:List Str} {sp:Sp} (lk:K.lookup f=some ⟨oc,od,.func (W.fnOf name qual params body scope dV kV doc pm an cdv ct),osl⟩) (hcd:W.codeIn K cdv qual=true) (S:v9 N ps scope)
    (len:∀vs H Q E,sp vs H Q E->vs.length=ps.length)
    (hbody:∀(A:Around) (outer:List Env) (s:Shared) (H:Hp) (vs:List V) (Q:VK) (E:XK),Z2 k (A.deeper (envOfC qual scope s.heap.objs.size f cdv))->sp vs H Q E ->
      ∃t,PSs (X3 CX P w K mg base N qual scope f cdv A outer s H E) body t/\t { nx:=λ_ H'=>Q .non H',rt:=Q } (start N vs) H) :
    r8 P w K mg base CX (k+1) f (W.fnOf name qual params body scope dV kV doc pm an cdv ct) ps sp:=by
  refine ⟨len,λA outer s H args us vs Q E hr e0 hb r hsp=>?_⟩
  have hl:=len _ _ _ _ hsp
  have KX:K.In s.heap:=e0.mod.kin.keeps λb o e=>(e0.bs b o e).1
  have lim:s.heap.NoLimit:=e0.mod.nolimit.keeps λb o e=>(e0.bs b o e).1
  have hkind:∀y∈ps.zip us,scope.names.lookup y.1=some .local∨(scope.names.lookup y.1=some .cell/\((cellsFrom (s.heap.objs.size+1) scope.names []).lookup y.1).isSome=true):=λ⟨n,v⟩ hy=>by
    rcases S.par n (cM hy).1 with q|q
    . exact .inl q
    . exact .inr ⟨q,W.cellsFrom_some _ _ _ (.inl q)⟩
  refine codeAny_call_function hr.depth (KX _ _ lk) rfl S.co S.gen rfl (W.codeRec_of KX hcd) (hb _ _ _ _ ?_)
  refine wpAny_newFunctionEnv_cells S.kind hkind λenv he s1 x=>?_
  subst he
  refine ⟨lim.keeps x.toInCall.keep,codeAny_func ?_⟩
  obtain ⟨t,ht,hq⟩:=hbody A outer s H vs Q E (hr.deeper _) hsp
  have I:Inv (X3 CX P w K mg base N qual scope f cdv A outer s H E) [] (start N vs) H s1:=yf5 S hr.hd e0 hl r x
  refine wpAny_mono (ht [] s1 (start N vs) H _ I hq) (λfl s' hs=>?_) λe s' hs=>hs
  have fin:∀{σ':St} {H':Hp} {v:V} {u:Value},Inv (X3 CX P w K mg base N qual scope f cdv A outer s H E) [] σ' H' s'->o6 v u->Q v H'->CE outer P w H s Q u s' :=
    λ{σ' H' v u} J rv q=>⟨v,H',J.os,J.bare,J.base,J.hok,rv,q⟩
  cases fl with
  | ret u =>
    obtain ⟨v,σ',H',J,rv,q⟩:=hs
    exact fin J rv q
  | next =>
    obtain ⟨σ',H',J,q⟩:=hs
    exact fin (v:=V.non) (u:=Value.none) J rfl q
  | brk =>
    obtain ⟨_,_,_,q⟩:=hs
    exact False.elim q
  | cont =>
    obtain ⟨_,_,_,q⟩:=hs
    exact False.elim q
section
variable {X:Cx}{x:Str}{p pos:Pos}{e:Expr}{es:List Expr}{t:TA}{id T:String}{r:List V->Hp->VK->Prop}
def tCB (r:List V->Hp->VK->Prop)(t:TA):TE:=λσ H Q=>t σ H λvs H1=>r vs H1 Q
theorem y6 (hc : k9 X (.builtin id) r)(hg : Gl X x)(hm : X.mg x = none)(hv : bootBuiltins x = some (.builtin id))(ha : PA X (e::es) t)(hn : x ≠ "__name__" := by decide) (hdb : (x==("__debug__" : Str)) = false := by decide)
    (he:starEach (e::es) X.env=(false,eval e X.env)::starEach es X.env:=by rfl) (hpl:(backTo pos (starEach es X.env)).any (·.1)=false:=by rfl):PE X (.Call (.Name x p) (e::es) [] pos) (tCB r t):=by
  intro pins s σ H Q I h
  refine wpAny_Call_Name_kw (zm2 I hg hm hv ?_ hn hdb)
  exact PyProof.Rows.callWith_builtin1 (thn (ha pos pins s σ H _ I h) λus s1 ⟨vs,H1,I1,r1,q1⟩=>hc pins s1 σ H1 vs us Q I1 r1 q1) he hpl
theorem p8 (hc : k9 X (.type T) r)(hg : Gl X x)(hm : X.mg x = none)(hv : bootBuiltins x = some (.type T))(ha : PA X (e::es) t)(hn : x ≠ "__name__" := by decide) (hdb : (x==("__debug__" : Str)) = false := by decide)
    (he:starEach (e::es) X.env=(false,eval e X.env)::starEach es X.env:=by rfl) (hpl:(backTo pos (starEach es X.env)).any (·.1)=false:=by rfl):PE X (.Call (.Name x p) (e::es) [] pos) (tCB r t):=by
  intro pins s σ H Q I h
  refine wpAny_Call_Name_kw (zm2 I hg hm hv ?_ hn hdb)
  exact PyProof.Rows.callWith_type1 (thn (ha pos pins s σ H _ I h) λus s1 ⟨vs,H1,I1,r1,q1⟩=>hc pins s1 σ H1 vs us Q I1 r1 q1) he hpl
end
end L2
namespace HT
open PySem PyProof.Rows
def lexLt : List Int -> List Int -> Bool
  | [],[]=>false
  | [],_::_=>true
  | _::_,[]=>false
  | x::xs,y::ys=>if x=y then lexLt xs ys else decide (x<y)
theorem lexLt_cons (x y:Int)(xs ys:List Int):lexLt (x::xs) (y::ys)=if x=y then lexLt xs ys else decide (x<y):=rfl
theorem lexLt_nil_cons (y:Int)(ys:List Int):lexLt [] (y::ys)=true:=rfl
section
open PySem.SeqAt
open PySem.AutoSeq1 (wpAny_loadPart')
open PySem.MeetsSeq PySem.MeetsSeq2 PySem.MeetsSeq3
end
section
variable {prog:Program}{w:World}{A:Around}{E:Value->Shared->Prop}{s:Shared}
def sIx (n d : Nat) : Option Int -> Nat
  | none=>d
  | some v=>if v<0 then (v+(n:Int)).toNat else min v.toNat n
theorem sIx_none (n d:Nat):sIx n d none=d:=rfl
theorem sIx_nat (n d k:Nat):sIx n d (some (k:Int))=min k n:=by
  show (if (k:Int)<0 then ((k:Int)+(n:Int)).toNat else min (k:Int).toNat n)=min k n
  rw [if_neg (by omega),aJ]
end
end HT
namespace L2
open PySem PySem.Spec PyProof.Rows
abbrev TO:=St->Hp->(Option Int->Hp->Prop)->Prop
def PO (X:Cx)(e:Option Expr)(t:TO):Prop :=
  ∀(pins:List (Addr×Obj)) (s:Shared) (σ:St) (H:Hp) (Q:Option Int->Hp->Prop),Inv X pins σ H s->t σ H Q ->
    wpAny (model X.prog X.w) X.A (evalPart e X.env) (λu s'=>∃o H',Inv X pins σ H' s'/\IsPart u o/\Q o H') X.xe s
def yv2:TO:=λ_ H Q=>Q none H
def xg6 (t:TE):TO:=λσ H Q=>t σ H λx H1=>∃i,x=.int i/\Q (some i) H1
theorem W7 {ns:List Int}:∀{us:List Value},t9 (ns.map V.int) us->IntsAre us ns:=by
  induction ns with
  | nil=>intro us r;rw [bM] at r;cases r;exact .nil
  | cons n ns ih =>
    intro us r
    rw [aE] at r
    cases r with
    | cons r1 r2 =>
      obtain ⟨t,e⟩:=r1
      subst e
      exact .cons n t (ih r2)
section
variable {X:Cx}{e:Expr}{te:TE}{lo hi:Option Expr}{tl th:TO}{pos p2:Pos}
theorem yu0:PO X none yv2:=by
  intro pins s σ H Q I h
  rw [evalPart_none]
  exact wpAny_pure ⟨none,H,I,.none,h⟩
theorem zo2 (h:PE X e te):PO X (some e) (xg6 te):=by
  intro pins s σ H Q I hw
  rw [evalPart_some]
  refine thn (h pins s σ H _ I hw) λu s1 ⟨x,H1,I1,r1,q1⟩=>?_
  obtain ⟨i,rfl,q⟩:=q1
  obtain ⟨t,rfl⟩:=r1
  exact ⟨some i,H1,I1,.int i t,q⟩
def SlR (X:Cx)(r:V->Option Int->Option Int->Hp->VK->Prop):Prop :=
  ∀(pins:List (Addr×Obj)) (s:Shared) (σ:St) (H:Hp) (x:V) (v vl vu:Value) (lo hi:Option Int) (sl:Addr) (Q:VK),Inv X pins σ H s->o6 x v->s.heap.IsSliceOf sl vl vu .none->IsPart vl lo->IsPart vu hi->r x lo hi H Q ->
    ∃T id,typeLookup (.type T) "__getitem__"=pure (some (.builtin id))/\s.TypeIs v T/\wpAny (model X.prog X.w) X.A (getItem v (.ref sl)) (EP X pins σ Q) X.xe s
def tSl (r:V->Option Int->Option Int->Hp->VK->Prop)(te:TE)(tl th:TO):TE:=λσ H Q=>te σ H λx H1=>tl σ H1 λl H2=>th σ H2 λu H3=>r x l u H3 Q
theorem zt5 {r:V->Option Int->Option Int->Hp->VK->Prop}(hr:SlR X r)(he:PE X e te)(hl:PO X lo tl)(hu:PO X hi th):PE X (.Subscript e (.Slice lo hi none p2) pos) (tSl r te tl th):=by
  intro pins s σ H Q I h
  refine Subscript_ (thn (he pins s σ H _ I h) λv s1 ⟨x,H1,I1,r1,q1⟩=>?_)
  refine wpAny_Slice (thn (hl pins s1 σ H1 _ I1 q1) λvl s2 ⟨l,H2,I2,pl,q2⟩=>thn (hu pins s2 σ H2 _ I2 q2) λvu s3 ⟨u,H3,I3,pu,q3⟩=>?_)
  rw [evalPart_none]
  refine wpAny_pure ?_
  have I4:Inv X pins σ H3 { s3 with heap:=s3.heap.push { cls:=.type "slice",data:=.fields #[vl,vu,.none] } }:=I3.kept (t':=s3.toks) λb ob q=>ae _ q
  obtain ⟨T,id,hT,ht,hg⟩:=hr pins { s3 with heap:=s3.heap.push { cls:=.type "slice",data:=.fields #[vl,vu,.none] } } σ H3 x v vl vu l u s3.heap.objs.size Q I4 r1 (Heap.IsSliceOf.new ..) pl pu q3
  show wpAny (model X.prog X.w) X.A (subscriptTail e (.Slice lo hi none p2) v (.ref s3.heap.objs.size)) (EP X pins σ Q) X.xe { s3 with heap:=s3.heap.push { cls:=.type "slice",data:=.fields #[vl,vu,.none] } }
  exact tail_any (ops:=[.ref s3.heap.objs.size,v]) ht hT hg (by with_unfolding_all rfl)
def K1 (xs:List V)(lo hi:Option Int):List V:=(xs.drop (HT.sIx xs.length 0 lo)).take (HT.sIx xs.length xs.length hi-HT.sIx xs.length 0 lo)
theorem zq6 (xs:List V)(lo hi:Option Int):(K1 xs lo hi).length<=xs.length:=by
  unfold K1
  rw [aP,bF]
  omega
end
def ixN (n:Nat)(i:Int):Option Nat:=if 0<=i then (if i<n then some i.toNat else none) else if -(n:Int)<=i then some (i+n).toNat else none
def atI {α:Type}(xs:List α)(i:Int):Option α:=(ixN xs.length i).bind λj=>xs[j]?
theorem zl6 {n:Nat}{i:Int}{j:Nat}(h:ixN n i=some j):seqIndex? i n=some j/\j<n/\-(n:Int)<=i/\i<n:=by
  unfold ixN at h
  by_cases h0:0<=i
  . rw [if_pos h0] at h
    by_cases h1:i<n
    . rw [if_pos h1] at h
      have e:i.toNat=j:=Option.some.inj h
      exact ⟨by rw [seqIndex_of h0 h1,e],by omega,by omega,h1⟩
    . rw [if_neg h1] at h;cases h
  . rw [if_neg h0] at h
    by_cases h1:-(n:Int)<=i
    . rw [if_pos h1] at h
      have e:(i+n).toNat=j:=Option.some.inj h
      exact ⟨by rw [seqIndex_neg (by omega) h1,e],by omega,h1,by omega⟩
    . rw [if_neg h1] at h;cases h
theorem yb2 {α:Type}{xs:List α}{i:Int}{v:α}(h:atI xs i=some v):∃j,seqIndex? i xs.length=some j/\xs[j]?=some v/\j<xs.length/\-(xs.length:Int)<=i/\i<xs.length:=by
  unfold atI at h
  cases e:ixN xs.length i with
  | none=>rw [e] at h;cases h
  | some j =>
    rw [e] at h
    obtain ⟨h1,h2,h3,h4⟩:=zl6 e
    exact ⟨j,h1,h,h2,h3,h4⟩
theorem Z3 {α:Type}{xs:List α}{j:Nat}{v:α}(h:xs[j]?=some v):atI xs (j:Int)=some v:=by
  have hj:j<xs.length:=(ar.mp h).1
  have e:ixN xs.length (j:Int)=some j:=by
    unfold ixN
    rw [if_pos (by omega),if_pos (by omega)];simp
  unfold atI;rw [e];exact h
def ya9 (b:Expr):Prop:=∀o i,subscripted b false o i=operate [o,i] (getItem o i)
def IxR (X:Cx)(r:R2):Prop :=
  ∀(value slice:Expr) (pins:List (Addr×Obj)) (s:Shared) (σ:St) (H:Hp) (x y:V) (v u:Value) (Q:VK),Inv X pins σ H s->o6 x v->o6 y u->r x y H Q ->
    subscripted slice false v u=operate [v,u] (getItem v u)->wpAny (model X.prog X.w) X.A (subscriptTail value slice v u) (EP X pins σ Q) X.xe s
def MtR (X:Cx)(id:String)(r:V->List V->Hp->VK->Prop):Prop :=
  ∀(pins:List (Addr×Obj)) (s:Shared) (σ:St) (H:Hp) (x:V) (xs:List V) (v:Value) (us:List Value) (Q:VK),Inv X pins σ H s->o6 x v->t9 xs us->r x xs H Q ->
    wpAny (model X.prog X.w) X.A (call (.builtin id) (v::us)) (EP X pins σ Q) X.xe s
section
variable {X:Cx}{a b:Expr}{ta tb:TE}{pos:Pos}
theorem V7 {r:R2}(hr:IxR X r)(ha:PE X a ta)(hb:PE X b tb)(hs:ya9 b):PE X (.Subscript a b pos) (tOp r ta tb):=by
  intro pins s σ H Q I h
  exact Subscript_ (yx7 ha hb I h λv u s2 x y H2 I2 rx ry q=>hr a b pins s2 σ H2 x y v u Q I2 rx ry q (hs _ _))
def xi4 (K:W.Frag):R2:=λx y H Q=>∃p xs i v,x=.ref p/\y=.int i/\SqL K H p xs/\atI xs i=some v/\Q v H
def xi5 (K:W.Frag):R2:=λx y H Q=>∃p xs i v,x=.ref p/\y=.int i/\SqT K H p xs/\atI xs i=some v/\Q v H
theorem W0:IxR X (xi4 X.K):=by
  intro value slice pins s σ H x y v u Q I rx ry h hs
  obtain ⟨p,xs,i,z,rfl,rfl,hq,he,q⟩:=h
  cases rx
  obtain ⟨t,rfl⟩:=ry
  obtain ⟨its,r,pl,hz⟩:=I.list hq
  obtain ⟨j,h1,h2,h3,h4,h5⟩:=yb2 he
  obtain ⟨w,ew,rw'⟩:=r.get h2
  have hl:=r.length
  have hn:=zm3
  have fin:EP X pins σ Q w s:=⟨z,H,I,rw',q⟩
  by_cases h0:0<=i
  . have hj:i.toNat=j:=by
      rw [seqIndex_of h0 h5] at h1
      exact Option.some.inj h1
    exact item_listR pl.isList h0 (by omega) (by rw [hj];simpa using ew) fin hs
  . have hj:(i+(its.toArray.size:Int)).toNat=j:=by
      rw [seqIndex_neg (by omega) h4] at h1
      rw [ao,←hl]
      exact Option.some.inj h1
    exact subscriptTail_builtinR (x := w) pl.isList.typeIs slot_list_getitem.lookup
      (wpAny_getItem_list_neg (Q:=λr s'=>r=w/\EP X pins σ Q r s') pl.isList (by omega) (by rw [ao] <;> omega) (by omega) (by rw [hj];simpa using ew) ⟨rfl,fin⟩) hs
theorem zx8:IxR X (xi5 X.K):=by
  intro value slice pins s σ H x y v u Q I rx ry h hs
  obtain ⟨p,xs,i,z,rfl,rfl,hq,he,q⟩:=h
  cases rx
  obtain ⟨t,rfl⟩:=ry
  obtain ⟨its,r,pl,hz⟩:=I.tuple hq
  obtain ⟨j,h1,h2,h3,h4,h5⟩:=yb2 he
  obtain ⟨w,ew,rw'⟩:=r.get h2
  have hl:=r.length
  have hn:=zm3
  have fin:EP X pins σ Q w s:=⟨z,H,I,rw',q⟩
  exact subscriptTail_builtinR (x := w) pl.typeIs slot_tuple_getitem.lookup
    (getItem_tuple (j:=j) (Q:=λr s'=>r=w/\EP X pins σ Q r s') pl (by omega) (by omega) (by rw [ao,←hl];exact h1) (by simpa using ew) ⟨rfl,fin⟩) hs
theorem zy4 (its:List Value)(n j:Nat)(u:Value):Obj.mapSeq (·.setIfInBounds j u) { cls:=.type "list",data:=.seq its.toArray n }={ cls:=.type "list",data:=.seq (its.set j u).toArray n }:=by
  simp [Obj.mapSeq]
theorem Inv.lst {pins : List (Addr×Obj)}{σ : St}{H : Hp}{s : Shared}{p : Addr}{xs : List V}(I : Inv X pins σ H s)(h : H p = some (.lst xs)) :
    ∃(its:List Value) (n:Nat),t9 xs its/\s.heap.get? p=some { cls:=.type "list",data:=.seq its.toArray n }/\xs.length<=sizeLine:=by
  obtain ⟨z,its,n,r,e⟩:=I.hok p _ h
  exact ⟨its,n,r,e,z⟩
theorem Inv.lstUpd {pins : List (Addr×Obj)}{σ : St}{H : Hp}{s : Shared}{p : Addr}{xs ys : List V}{its its' : List Value}{n n' : Nat}{f : Obj -> Obj}(I : Inv X pins σ H s)(h : H p = some (.lst xs))
    (ho:s.heap.get? p=some { cls:=.type "list",data:=.seq its.toArray n }) (hf:f { cls:=.type "list",data:=.seq its.toArray n }={ cls:=.type "list",data:=.seq its'.toArray n' }) (r:t9 ys its') (hz:ys.length<=sizeLine) (t:Nat) :
    Inv X pins σ (upd H p (.lst ys)) { s with heap:=s.heap.update p f,toks:=t }:=by
  have e:(s.heap.update p f).get? p=some { cls:=.type "list",data:=.seq its'.toArray n' }:=by
    rw [Heap.get?_update_self f ho (by rw [hf] <;> rfl),hf]
  refine I.write (x:=p) (e:=p) (by rw [h];trivial) (.inl rfl) (λb u hb q=>(Heap.get?_update_other _ _ (Ne.symm hb)).trans q) ⟨_,e⟩ ?_
  exact ⟨hz,its',n',r,e⟩
def xf7:V->V->V->Hp->(Hp->Prop)->Prop:=λo i v H Q=>∃p xs k j,o=.ref p/\i=.int k/\H p=some (.lst xs)/\ixN xs.length k=some j/\Q (upd H p (.lst (xs.set j v)))
theorem F9:xc8 X xf7:=by
  intro pins s σ H o i v ov iv u Q I ro ri rv h
  obtain ⟨p,xs,k,j,rfl,rfl,hp,hj,q⟩:=h
  cases ro
  obtain ⟨t,rfl⟩:=ri
  obtain ⟨its,n,r,ho,hz⟩:=I.lst hp
  obtain ⟨h1,h2,h3,h4⟩:=zl6 hj
  have hl:=r.length
  have hn:=zm3
  have I':Inv X pins σ (upd H p (.lst (xs.set j v))) { s with heap:=s.heap.update p (Obj.mapSeq (·.setIfInBounds j u)) } :=
    I.lstUpd hp ho (zy4 its n j u) (r.set rv j) (by rw [cA];exact hz) s.toks
  by_cases h0:0<=k
  . have hk:k.toNat=j:=by
      rw [seqIndex_of h0 h4] at h1
      exact Option.some.inj h1
    exact W.ki_setAt ho h0 (by omega) (by rw [ao,←hl];exact h4) (by rw [hk];exact ⟨_,I',q⟩)
  . have hk:(k+(its.toArray.size:Int)).toNat=j:=by
      rw [seqIndex_neg (by omega) h3] at h1
      rw [ao,←hl]
      exact Option.some.inj h1
    exact W.ki_setBack ho (by omega) (by rw [ao,←hl];exact h3) (by omega) (by rw [hk];exact ⟨_,I',q⟩)
theorem zo9 (lo hi:Option Int)(n:Nat):(sliceBounds lo hi none n).1=((HT.sIx n 0 lo:Nat):Int)/\(sliceBounds lo hi none n).2.1=((HT.sIx n n hi:Nat):Int)/\(sliceBounds lo hi none n).2.2=1:=by
  refine ⟨?_,?_,rfl⟩
  . cases lo with
    | none=>simp [sliceBounds,HT.sIx]
    | some i =>
      simp only [sliceBounds,HT.sIx,db,show (1:Int) > 0 by decide,if_true]
      by_cases h:i<0
      . simp only [h,if_true] <;> omega
      . simp only [h,if_false] <;> omega
  . cases hi with
    | none=>simp [sliceBounds,HT.sIx]
    | some i =>
      simp only [sliceBounds,HT.sIx,db,show (1:Int) > 0 by decide,if_true]
      by_cases h:i<0
      . simp only [h,if_true] <;> omega
      . simp only [h,if_false] <;> omega
theorem zh5 (its:List Value)(lo hi:Option Int):slicePick its.toArray lo hi none=((its.drop (HT.sIx its.length 0 lo)).take (HT.sIx its.length its.length hi-HT.sIx its.length 0 lo)).toArray:=by
  obtain ⟨h1,h2,h3⟩:=zo9 lo hi its.toArray.size
  unfold slicePick
  rw [h1,h2,h3]
  simp only [sliceRange_one,pick_run,ao] <;> rfl
def xi6 (K:W.Frag):V->Option Int->Option Int->Hp->VK->Prop:=λx lo hi H Q=>∃a xs,x=.ref a/\SqL K H a xs/\∀p,H p=none->Q (.ref p) (upd H p (.lst (K1 xs lo hi)))
theorem yd2:SlR X (xi6 X.K):=by
  intro pins s σ H x v vl vu lo hi sl Q I rx hs pl pu h
  obtain ⟨a,xs,rfl,hx,q⟩:=h
  cases rx
  obtain ⟨its,r,ht,hz⟩:=I.list hx
  have hlen:=r.length
  refine ⟨"list",_,slot_list_getitem.lookup,ht.isList.typeIs,?_⟩
  refine wpAny_getItem_list_slice ht.isList hs pl pu .none (by simp) ?_ (by rw [ao] <;> omega)
  rw [zh5,←hlen]
  refine ⟨.ref s.heap.objs.size,_,I.laid (t':=s.toks) (o:=.lst (K1 xs lo hi)) (λb ob q=>ae _ q) (af _) ?_,rfl,q _ (I.hok.fresh (af _))⟩
  exact ⟨aB (zq6 xs lo hi) hz,_,0,(r.drop (HT.sIx xs.length 0 lo)).take (HT.sIx xs.length xs.length hi-HT.sIx xs.length 0 lo),aq _ rfl⟩
theorem u7:k9 X (.builtin "len") (λxs H Q=>∃p ys,xs=[.ref p]/\(SqL X.K H p ys∨SqT X.K H p ys)/\Q (.int ys.length) H):=by
  intro pins s σ H xs us Q I r h
  obtain ⟨p,ys,rfl,hq,q⟩:=h
  obtain ⟨u,rfl,rx⟩:=X8 r
  cases rx
  have hn:=zm3
  rcases hq with hq|hq
  . obtain ⟨its, r', pl, hz⟩ := I.list hq
    have hlen:=r'.length
    exact Calls.call_len_list pl.isList (by simp only [ao] <;> omega) ⟨.int ys.length,H,I.tok _,⟨s.toks+1,by rw [ao,hlen]⟩,q⟩
  . obtain ⟨its, r', pl, hz⟩ := I.tuple hq
    have hlen:=r'.length
    exact len_tuple pl (by simp only [ao] <;> omega) ⟨.int ys.length,H,I.tok _,⟨s.toks+1,by rw [ao,hlen]⟩,q⟩
theorem m9:k9 X (.type "tuple") (λxs H Q=>∃p ys,xs=[.ref p]/\((SqL X.K H p ys/\∀l,H l=none->Q (.ref l) (upd H l (.tup ys)))∨(SqT X.K H p ys/\Q (.ref p) H))):=by
  intro pins s σ H xs us Q I r h
  obtain ⟨p,ys,rfl,h⟩:=h
  obtain ⟨u,rfl,rx⟩:=X8 r
  cases rx
  rcases h with ⟨hq,q⟩|⟨hq,q⟩
  . obtain ⟨its, r', pl, hz⟩ := I.list hq
    have hlen:=r'.length
    refine call_tuple_list pl.isList (λh' kp=>?_) (by simp only [ao] <;> omega)
    have I1:Inv X pins σ H { s with heap:=h' }:=I.kept (t':=s.toks) kp
    have I2:Inv X pins σ (upd H h'.objs.size (.tup ys)) { s with heap:=h'.push { cls:=.type "tuple",data:=.seq its.toArray } } :=
      I1.laid (t':=s.toks) (λb o e=>ae _ e) (af _) (show p4 X.prog X.w _ _ _ (.tup ys) from ⟨hz,its,r',ye2.new _ _⟩)
    exact ⟨.ref h'.objs.size,_,I2,rfl,q _ (I1.hok.fresh (af _))⟩
  . obtain ⟨its, r', pl, hz⟩ := I.tuple hq
    exact call_tuple_same pl ⟨.ref p,H,I,rfl,q⟩
def tyV (K:W.Frag)(T:String)(x:V)(H:Hp):Prop:=match x with
  | .str _=>T="str"
  | .int _=>T="int"
  | .ref p => (T = "list" /\ ∃xs, SqL K H p xs)∨(T = "tuple" /\ ∃o, K.lookup p = some o /\ o.cls = .type "tuple" /\ o.dict = none) ∨
      (T="dict"/\((∃kvs,H p=some (.dK kvs))∨∃kvs,H p=some (.dT kvs)))∨(T="set"/\∃S n,H p=some (.set S n))
  | _=>False
theorem xc3 {pins : List (Addr×Obj)}{σ : St}{H : Hp}{s : Shared}{T : String}{x : V}{v : Value}(I : Inv X pins σ H s)(r : o6 x v)(ty : tyV X.K T x H) :
    s.TypeIs v T/\∀a,v=.ref a->∃ob,s.heap.get? a=some ob/\ob.dict=none:=by
  cases x with
  | str z =>
    obtain ⟨t,rfl⟩:=r
    cases (show T="str" from ty)
    exact ⟨typeIs_str s z t,λ_ e=>nomatch e⟩
  | int i =>
    obtain ⟨t,rfl⟩:=r
    cases (show T="int" from ty)
    exact ⟨typeIs_int s i t,λ_ e=>nomatch e⟩
  | ref p =>
    cases r
    rcases ty with ⟨rfl,xs,hq⟩|⟨rfl,o,hk,hc,hd⟩|⟨rfl,hk⟩|⟨rfl,S,n,hk⟩
    . obtain ⟨its, _, pl, _⟩ := I.list hq
      refine ⟨pl.isList.typeIs,λa e=>?_⟩
      cases e
      obtain ⟨o,n,e,c,hd,_⟩:=pl
      exact ⟨o,e,hd⟩
    . refine ⟨⟨o, I.kIn p o hk, hc⟩, λa e => ?_⟩
      cases e
      exact ⟨o,I.kIn _ o hk,hd⟩
    . have z:∃o,s.heap.get? p=some o/\o.ExactDict:=by
        rcases hk with ⟨kvs,hk⟩|⟨kvs,hk⟩
        . obtain ⟨_, _, _, _, o, _, _, e, ex, _⟩ := I.hok p _ hk
          exact ⟨o,e,ex⟩
        . obtain ⟨_, _, _, _, o, _, _, e, ex, _⟩ := I.hok p _ hk
          exact ⟨o,e,ex⟩
      obtain ⟨o,e,ex⟩:=z
      refine ⟨⟨o,e,ex.1⟩,λa e2=>?_⟩
      cases e2
      exact ⟨o,e,ex.2.1⟩
    . obtain ⟨o, _, _, _, e, ex, _⟩ := I.hok p _ hk
      refine ⟨⟨o,e,ex.1⟩,λa e2=>?_⟩
      cases e2
      exact ⟨o,e,ex.2.1⟩
  | _=>exact False.elim ty
def tBM (K:W.Frag)(T:String)(r:V->List V->Hp->VK->Prop)(to:TE)(t:TA):TE:=λσ H Q=>to σ H λx H1=>tyV K T x H1/\t σ H1 λxs H2=>r x xs H2 Q
variable {o e:Expr}{es:List Expr}{to:TE}{t:TA}{name:Str}{apos cpos:Pos}{T id:String}{r:V->List V->Hp->VK->Prop}
theorem zd9 (pa : PlainAttrs T)(slot : Slot T name id)(hty : typeOf (.builtin id) = pure (.type "method_descriptor")) (hm : MtR X id r) (ho : PE X o to) (ha : PA X (e::es) t)
    (hbase:attributeBase o name X.env (eval o X.env)=eval o X.env:=by rfl)
    (hfew : ((backTo cpos (starEach (e::es) X.env)).all (λx => !x.1)&&(backToKw cpos (keywordEach [] X.env)).all (λx => x.1.isSome)
      && decide ((e::es).length+([]:List Keyword).length+(if ([]:List Keyword).isEmpty then 0 else 1)<30))=true:=by rfl)
    (hline:(apos.endLine==cpos.line)=true:=by rfl) (hs:starEach (e::es) X.env=(false,eval e X.env)::starEach es X.env:=by rfl) (hplain:(backTo cpos (starEach es X.env)).any (·.1)=false:=by rfl) :
    PE X (.Call (.Attribute o name apos) (e::es) [] cpos) (tBM X.K T r to t):=by
  intro pins s σ H Q I h
  refine wpAny_Call_method_late hbase hfew hline rfl (thn (ho pins s σ H _ I h) λv s1 ⟨x,H1,I1,r1,ty,q1⟩=>?_)
  obtain ⟨h1,h2⟩:=xc3 I1 r1 ty
  refine ⟨T,id,pa,slot,hty,h1,h2,?_⟩
  have hA:=ha cpos pins s1 σ H1 _ I1 q1
  rw [hs] at hA ⊢
  refine Calls.callWith_builtin (by show (false || (backTo cpos (starEach es X.env)).any (·.1))=false;rw [hplain] <;> rfl) (Calls.evalArgs_plain ?_)
  exact thn hA λus s2 ⟨vs,H2,I2,r2,q2⟩=>hm pins s2 σ H2 x vs v us Q I2 r1 r2 q2
end
def MtM (X:Cx)(id:String)(r:V->List V->Hp->VK->Prop):Prop :=
  ∀(pins:List (Addr×Obj)) (s:Shared) (σ:St) (H:Hp) (x:V) (xs:List V) (v:Value) (us:List Value) (Q:VK),Inv X pins σ H s->o6 x v->t9 xs us->r x xs H Q ->
    wpAny (model X.prog X.w) X.A (call (.builtin id) (v::us)) (EP X pins σ Q) X.xe s
theorem t9.one : ∀{x : V} {us : List Value}, t9 [x] us -> ∃u, us = [u] /\ o6 x u
  | _,_,.cons r .nil=>⟨_,rfl,r⟩
theorem t9.eraseIdx : ∀{xs : List V} {us : List Value} (i : Nat), t9 xs us -> t9 (xs.eraseIdx i) (us.eraseIdx i)
  | _,_,_,.nil=>.nil
  | _,_,0,.cons _ t=>t
  | _,_,i+1,.cons r t=>.cons r (t9.eraseIdx i t)
theorem zi9 {α : Type} : ∀(l : List α) (i : Nat), (l.eraseIdx i).length <= l.length
  | [],_=>af _
  | _::_,0=>bS _
  | _::r,i+1=>Nat.succ_le_succ (zi9 r i)
section
variable {X:Cx}{pins:List (Addr×Obj)}{σ:St}{H:Hp}{s:Shared}{l b:Addr}{xs ys zs:List V}
theorem Inv.lset {its its' : List Value}{n : Nat}{f : Array Value -> Array Value}{t' : Nat}(I : Inv X pins σ H s)(hH : H l = some (.lst xs))
    (e:s.heap.get? l=some { cls:=.type "list",data:=.seq its.toArray n }) (hf:f its.toArray=its'.toArray) (hv:t9 ys its') (hz:ys.length<=sizeLine) :
    Inv X pins σ (upd H l (.lst ys)) { s with heap:=s.heap.update l (Obj.mapSeq f),toks:=t' }:=by
  have q:=PySem.IsL.update e f
  rw [hf] at q
  refine I.write (x:=l) (e:=l) (by rw [hH];exact trivial) (.inl rfl) (λb' u hb hu=>(Heap.get?_update_other s.heap (Obj.mapSeq f) (Ne.symm hb)).trans hu) ⟨_,q⟩ ?_
  exact ⟨hz,its',_,hv,q⟩
theorem Inv.lnew {its : List Value}{t' : Nat}(I : Inv X pins σ H s)(hv : t9 ys its)(hz : ys.length <= sizeLine) :
    Inv X pins σ (upd H s.heap.objs.size (.lst ys)) { s with heap:=s.heap.push { cls:=.type "list",data:=.seq its.toArray },toks:=t' } :=
  I.laid (λ_ _ q=>ae _ q) (af _) ⟨hz,its,0,hv,aq _ rfl⟩
theorem Inv.fresh (I:Inv X pins σ H s):H s.heap.objs.size=none:=I.hok.fresh (af _)
theorem Inv.lstM (I:Inv X pins σ H s)(hH:H l=some (.lst xs)):xs.length<=sizeLine/\∃(its:List Value) (n:Nat),t9 xs its/\xs.length=its.length/\s.heap.get? l=some { cls:=.type "list",data:=.seq its.toArray n }:=by
  obtain ⟨z,its,n,r,e⟩:=I.hok l _ hH
  exact ⟨z,its,n,r,r.length,e⟩
end
section
variable {X:Cx}
def yu3:V->List V->Hp->VK->Prop:=λx vs H Q=>∃l xs y,x=.ref l/\vs=[y]/\H l=some (.lst xs)/\xs.length<sizeLine/\Q .non (upd H l (.lst (xs++[y])))
theorem Z0:MtM X "list.append" yu3:=by
  intro pins s σ H x vs v us Q I rx rv h
  obtain ⟨l,xs,y,rfl,rfl,hH,hz,q⟩:=h
  cases rx
  obtain ⟨u,rfl,ru⟩:=rv.one
  obtain ⟨z,its,n,r,hl,e⟩:=I.lstM hH
  refine call_meets F.slot_list_append ⟨_,e,rfl⟩ F.entry_list_append (F.args_list_append_2 _ _) (PySem.list_append l its.toArray n u (by rw [ao];omega)) ⟨e,?_⟩
  refine ⟨.non,_,I.lset (its':=its++[u]) hH e (by simp) (r.append (.cons ru .nil)) ?_,rfl,q⟩
  rw [al,List.length_singleton]
  omega
def xb7:V->List V->Hp->VK->Prop:=λx vs H Q=>∃l xs i k y,x=.ref l/\vs=[.int i]/\H l=some (.lst xs)/\-(2 ^ 63)<=i/\i<2 ^ 63/\seqIndex? i xs.length=some k/\xs[k]?=some y/\Q y (upd H l (.lst (xs.eraseIdx k)))
theorem ym4:MtM X "list.pop" xb7:=by
  intro pins s σ H x vs v us Q I rx rv h
  obtain ⟨l,xs,i,k,y,rfl,rfl,hH,h1,h2,hk,hy,q⟩:=h
  cases rx
  obtain ⟨u,rfl,ru⟩:=rv.one
  obtain ⟨t,rfl⟩:=ru
  obtain ⟨z,its,n,r,hl,e⟩:=I.lstM hH
  obtain ⟨w,hw,rw'⟩:=r.get hy
  refine call_meets F.slot_list_pop ⟨_, e, rfl⟩ F.entry_list_pop (F.args_list_pop_2 _ _)
    (MeetsSeq.list_pop_at l its.toArray n i t k w (fitsIndex_both h1 h2) (by rw [ao,←hl];exact hk) (by rw [←aD];exact hw) (by rw [ao];omega)) ⟨e,?_⟩
  refine ⟨y,_,I.lset (its':=its.eraseIdx k) hH e ?_ (r.eraseIdx k) ?_,rw',q⟩
  . show its.toArray.eraseIdxIfInBounds k = (its.eraseIdx k).toArray
    rw [List.eraseIdxIfInBounds_toArray]
  . have := zi9 xs k
    omega
end
section
variable {prog:Program}{w:World}{A:Around}{E:Value->Shared->Prop}{s:Shared}
end
section
variable {X:Cx}
end
section
variable {κ:Type}[DecidableEq κ]
def zu1 (kvs:List (κ×V))(k:κ)(v:V):List (κ×V) :=
  if (kvs.any λkv=>decide (kv.1=k))=true then kvs.map (λkv=>if kv.1=k then (kv.1,v) else kv) else kvs++[(k,v)]
theorem zr7 (kvs:List (κ×V))(k:κ)(v:V):(zu1 kvs k v).length<=kvs.length+1:=by
  unfold zu1
  split
  . rw [aa];omega
  . rw [al,ag,aO];omega
theorem KV.any {kvs:List (κ×V)}{vs:List (κ×Value)}(r:KV kvs vs)(k:κ):(kvs.any λkv=>decide (kv.1=k))=vs.any λkv=>decide (kv.1=k):=by
  unfold KV at r
  induction r with
  | nil=>rfl
  | cons h t ih=>rw [dy,dy,ih,h.1]
theorem KV.repl {kvs : List (κ×V)}{vs : List (κ×Value)}(r : KV kvs vs)(k : κ){y : V}{u : Value}(ry : o6 y u) :
    KV (kvs.map λkv=>if kv.1=k then (kv.1,y) else kv) (vs.map λkv=>if kv.1=k then (kv.1,u) else kv):=by
  unfold KV at r ⊢
  induction r with
  | nil=>exact .nil
  | @cons p q ps qs h t ih =>
    rw [aE,aE]
    refine .cons ?_ ih
    obtain ⟨h1,h2⟩:=h
    by_cases e:p.1=k
    . rw [if_pos e,if_pos (h1.symm.trans e)];exact ⟨h1,ry⟩
    . rw [if_neg e,if_neg (λz=>e (h1.trans z))];exact ⟨h1,h2⟩
theorem KV.put {kvs:List (κ×V)}{vs:List (κ×Value)}(r:KV kvs vs)(k:κ){y:V}{u:Value}(ry:o6 y u):KV (zu1 kvs k y) (stored vs k u):=by
  unfold zu1 stored
  rw [r.any k]
  by_cases e:(vs.any λkv=>decide (kv.1=k))=true
  . rw [if_pos e,if_pos e];exact r.repl k ry
  . rw [if_neg e,if_neg e];exact Paired.snoc r ⟨rfl,ry⟩
end
theorem yw2 {P:Program}{w:World}{k:Key}{u:Value}(r:o6 (kV k) u):(c8 P w).is k u=true:=by
  cases k with
  | inl i=>obtain ⟨t,e⟩:=(show ∃t,u=Value.int i t from r);subst e;exact zr9 P w i t
  | inr x=>obtain ⟨t,e⟩:=(show ∃t,u=Value.str x t from r);subst e;exact zs0 P w x t
theorem D3 {P : Program}{w : World} : ∀{ks : List Key} {us : List Value}, t9 (ks.map kV) us -> ItemsAre (c8 P w) ks us
  | [],_,r=>by rw [bM] at r;cases r;exact .nil
  | k::ks,_,r=>by
    rw [aE] at r
    cases r with
    | cons h t=>exact .cons (yw2 h) (D3 t)
abbrev KT (H:Hp):List (List Key×V)->List (List Key×Addr×Value)->Prop:=Paired λp q=>p.1=q.1/\H q.2.1=some (.tup (p.1.map kV))/\o6 p.2 q.2.2
section
variable {P:Program}{w:World}{H:Hp}{h:Heap}{a:Addr}
theorem xf8 {u:HO}(ok:HOk P w H h)(e:Rd H a u):p4 P w H h a u:=e.ok ok
theorem xd1 {kvs:List (Key×V)}(ok:HOk P w H h)(e:Rd H a (.dK kvs)):kvs.length<=sizeLine/\(a==sysModules)=false/\∃vs,KV kvs vs/\h.DictOf (c8 P w) a vs :=
  show p4 P w H h a (.dK kvs) from xf8 ok e
theorem yj1 {kvs:List (Key×V)}(ok:HOk P w H h)(e:H a=some (.dK kvs)):kvs.length<=sizeLine/\(a==sysModules)=false/\∃vs,KV kvs vs/\h.DictOf (c8 P w) a vs:=xd1 ok (.inl e)
end
section
variable {X:Cx}{pins:List (Addr×Obj)}{σ:St}{H:Hp}{s:Shared}{a:Addr}{y v:V}{u r:Value}{o:Option V}{A:Around}{E:Value->Shared->Prop}
theorem Inv.big (I:Inv X pins σ H s):sysModules<s.heap.objs.size:=by
  have h:mainGlobals<s.heap.objs.size:=(I.mod.glob.keeps I.bk).lt
  exact dA (by decide) h
theorem yr8 {h' : Heap}{t' : Nat}{ob : HO}(I : Inv X pins σ H s)(mu : Mut (H a))(hs : Heap.SameBut a s.heap h')(he : ∃q, h'.get? a = some q)(new : p4 X.prog X.w (upd H a ob) h' a ob) :
    Inv X pins σ (upd H a ob) { s with heap:=h',toks:=t' } :=
  I.write (x:=a) (e:=a) mu (.inl rfl) (λb q hb z=>(hs.2 b hb).trans z) he new
theorem yy2 {P : Program}{w : World}{H' : Hp}{h' : Heap}{kvs : List (Key×V)}{vs : List (Key×Value)}(z : kvs.length <= sizeLine)(hd : (a==sysModules) = false)(rel : KV kvs vs)(dd : h'.DictOf (c8 P w) a vs) :
    p4 P w H' h' a (.dK kvs):=⟨z,hd,vs,rel,dd⟩
end
section
variable {X:Cx}{pins:List (Addr×Obj)}{σ:St}{H:Hp}{s:Shared}{a:Addr}{kvs:List (Key×V)}{k:Key}{u:Value}{A:Around}{E:Value->Shared->Prop}
end
section
variable {X:Cx}{o i e value:Expr}{pos pos' tpos:Pos}{td ty tv:TE}
end
theorem zq7 {P:Program}{w:World}{H:Hp}(h:Heap)(hb:sysModules<h.objs.size):p4 P w H (h.push { cls:=.type "dict",data:=.dict #[] }) h.objs.size (.dK []) :=
  ⟨ax _,beq_eq_false_iff_ne.mpr (Ne.symm (av hb)),[],.nil,Heap.DictOf.new h⟩
def xc2:TE:=λ_ H Q=>∀p,H p=none->Q (.ref p) (upd H p (.dK []))
section
variable {X:Cx}{pos:Pos}
theorem yn7:PE X (.Dict [] [] pos) xc2:=λpins s σ H Q I h =>
  wpAny_Dict_empty ⟨.ref s.heap.objs.size,_,I.laid (a:=s.heap.objs.size) (o:=.dK []) (t':=s.toks) (λ_ _ q=>ae _ q) (af _) (zq7 s.heap I.big),rfl,h _ (I.hok.fresh (af _))⟩
end
def ya5 : List (TE×TE) -> St -> Hp -> (List (V×V) -> Hp -> Prop) -> Prop
  | [],_,H,Q=>Q [] H
  | (tk,tv)::r,σ,H,Q=>tk σ H λx H1=>tv σ H1 λy H2=>ya5 r σ H2 λps H3=>Q ((x,y)::ps) H3
abbrev VV:List (V×V)->List (Value×Value)->Prop:=Paired λp q=>o6 p.1 q.1/\o6 p.2 q.2
def PPs (X:Cx)(pos:Pos)(keys:List (Option Expr))(values:List Expr)(trs:List (TE×TE)):Prop :=
  ∀(pins:List (Addr×Obj)) (s:Shared) (σ:St) (H:Hp) (Q:List (V×V)->Hp->Prop),Inv X pins σ H s->ya5 trs σ H Q ->
    wpAny (model X.prog X.w) X.A (evalPairs (pairTrees keys values X.env pos)) (λvs s'=>∃ps H',Inv X pins σ H' s'/\VV ps vs/\Q ps H') X.xe s
theorem yu1 {X:Cx}{pos:Pos}:PPs X pos [] [] []:=λpins s σ H Q I h=>pairTrees_nil_walk ⟨[],H,I,.nil,h⟩
theorem yo2 {X : Cx}{pos : Pos}{k v : Expr}{ks : List (Option Expr)}{vs : List Expr}{tk tv : TE}{trs : List (TE×TE)}(hk : PE X k tk)(hv : PE X v tv)(hr : PPs X pos ks vs trs) :
    PPs X pos (some k::ks) (v::vs) ((tk,tv)::trs):=λpins s σ H Q I h =>
  pairTrees_cons_walk (thn (hk pins s σ H _ I h) λu s1 ⟨x,H1,I1,rx,q1⟩=>thn (hv pins s1 σ H1 _ I1 q1) λw2 s2 ⟨y,H2,I2,ry,q2⟩ =>
    thn (hr pins s2 σ H2 _ I2 q2) λws s3 ⟨ps,H3,I3,rel,q3⟩=>⟨(x,y)::ps,H3,I3,.cons ⟨rx,ry⟩ rel,q3⟩)
def zd0 (kvs more:List (Key×V)):List (Key×V):=more.foldl (λacc kv=>zu1 acc kv.1 kv.2) kvs
theorem KV.merge:∀{more:List (Key×V)} {rs:List (Key×Value)} {kvs:List (Key×V)} {vs:List (Key×Value)},KV more rs->KV kvs vs->KV (zd0 kvs more) (merged vs rs):=by
  intro more rs kvs vs r
  unfold KV at r
  induction r generalizing kvs vs with
  | nil=>intro q;exact q
  | @cons p q ps qs h t ih =>
    intro r0
    have e:KV (zu1 kvs p.1 p.2) (stored vs q.1 q.2):=by
      have:=r0.put p.1 h.2
      rw [←h.1];exact this
    exact ih e
theorem M8 : ∀(more kvs : List (Key×V)), (zd0 kvs more).length <= kvs.length+more.length
  | [],kvs=>by show kvs.length<=kvs.length+0;omega
  | p::r,kvs=>by
    have h1:=M8 r (zu1 kvs p.1 p.2)
    have h2:=zr7 kvs p.1 p.2
    show (zd0 (zu1 kvs p.1 p.2) r).length<=_
    rw [ag];omega
theorem zb7 {P : Program}{w : World} : ∀{kvs : List (Key×V)} {ws : List (Value×Value)}, VV (kvs.map λkv => (kV kv.1, kv.2)) ws -> ∃rs, Carries (c8 P w) ws rs /\ KV kvs rs
  | [],_,r=>by rw [bM] at r;cases r;exact ⟨[],True.intro,.nil⟩
  | p::kvs,_,r=>by
    rw [aE] at r
    cases r with
    | @cons a b as bs h t =>
      obtain ⟨rs,c,q⟩:=zb7 (P:=P) (w:=w) t
      obtain ⟨b1,b2⟩:=b
      exact ⟨(p.1,b2)::rs,⟨yw2 h.1,rfl,c⟩,.cons ⟨rfl,h.2⟩ q⟩
def xg2 (trs:List (TE×TE)):TE:=λσ H Q=>∀p,H p=none->ya5 trs σ (upd H p (.dK [])) λps H2=>H2 p=some (.dK [])/\∃kvs:List (Key×V),ps=kvs.map (λkv=>(kV kv.1,kv.2))/\kvs.length<=15/\Q (.ref p) (upd H2 p (.dK (zd0 [] kvs)))
theorem yt8 {X : Cx}{pos : Pos}{keys : List (Option Expr)}{values : List Expr}{trs : List (TE×TE)}(h : PPs X pos keys values trs)(hall : keys.all (·.isSome) = true)(hl : keys.length = values.length)(h0 : keys ≠ [])
    (h15:keys.length<=15):PE X (.Dict keys values pos) (xg2 trs):=by
  intro pins s σ H Q I q
  have hn:=I.hok.fresh (af s.heap.objs.size)
  have I1:=I.laid (a:=s.heap.objs.size) (o:=.dK []) (h':=s.heap.push { cls:=.type "dict",data:=.dict #[] }) (t':=s.toks) (λ_ _ q=>ae _ q) (af _) (zq7 s.heap I.big)
  refine wpAny_Dict_walk (knd:=c8 X.prog X.w) hall hl h0 h15 (thn (h pins _ σ _ _ I1 (q _ hn)) λws s2 ⟨ps,H2,I2,rel,e,kvs,ep,lk,q2⟩=>?_)
  subst ep
  obtain ⟨rs,c,rk⟩:=zb7 (P:=X.prog) (w:=X.w) rel
  obtain ⟨z,hd,vs0,r0,dd⟩:=yj1 I2.hok e
  cases r0
  refine ⟨rs,c,dd,λh' dd' hs=>⟨.ref s.heap.objs.size,_,?_,rfl,q2⟩⟩
  have hz:(zd0 [] kvs).length<=sizeLine:=by
    have h1:=M8 kvs []
    rw [aO] at h1
    rw [sizeLine_eq];omega
  have he:∃q,h'.get? s.heap.objs.size=some q:=let ⟨q,_,_,hq,_⟩:=dd';⟨q,hq⟩
  exact yr8 I2 (by rw [e];exact True.intro) hs he (yy2 hz hd (rk.merge .nil) dd')
section
variable {X:Cx}{pins:List (Addr×Obj)}{σ:St}{H:Hp}{s:Shared}{a:Addr}{y d:V}{u r:Value}{o:Option V}{A:Around}{E:Value->Shared->Prop}
end
section
variable {X:Cx}{o e f:Expr}{apos cpos:Pos}{td ty tx:TE}
end
section
variable {X:Cx}{pins:List (Addr×Obj)}{σ:St}{H:Hp}{s:Shared}{a:Addr}{kvs:List (Key×V)}{A:Around}{E:Value->Shared->Prop}
end
section
variable {X:Cx}{pins:List (Addr×Obj)}{σ:St}{H:Hp}{s:Shared}{a:Addr}{y:V}{u:Value}{A:Around}{E:Value->Shared->Prop}
end
end L2
namespace Att
open PySem PySem.W PySem.Calls PyProof.Rows
theorem A5 {P:Params}{h:Heap}:∀(ns:List Int) (vs:List Value),WellAll P h vs (ns.map WData.int)->IntsAre vs ns:=by
  intro ns
  induction ns with
  | nil =>
    intro vs w
    rw [bM] at w
    cases w
    exact .nil
  | cons n ns ih =>
    intro vs w
    rw [aE] at w
    cases w with
    | cons a b =>
      cases a
      exact .cons _ _ (ih _ b)
theorem yh0 {l : OpenLaw}{n : Nat}(hn : l.most = some n){P : Params}{h : Heap}{args : List WData}{vals : List Value}
    (hpre:l.row.toRowW.claim.pre args=true) (hwl:WellAll P h vals args) :
    ∃a vs ns,vals=[Value.ref a]/\args=[WData.list (ns.map WData.int)]/\h.get? a=some { cls:=.type "list",data:=.seq vs.toArray }/\IntsAre vs ns/\ns.length<=n:=by
  have hsh:WShape.hasAll [] args [.list .int]=true:=(pre_splitW hpre).1
  have hc:l.pre.holds [] { args:=args }=true:=(pre_splitW hpre).2
  obtain ⟨d,r,rfl,h1,h2⟩:=hasAllW_cons hsh
  obtain rfl:=hasAllW_nil h2
  obtain ⟨xs,rfl,h3⟩:=hasW_list h1
  obtain ⟨ns,rfl⟩:=items_int h3
  have hlen:ns.length<=n:=by
    unfold OpenLaw.pre at hc
    have h4:(WTm.not (.lt (.lit (.int n)) (.len (.arg 0)))).holds [] { args:=[.list (ns.map .int)] }=true:=by
      have h4:=(holds_andW hc).1
      rw [hn] at h4
      exact h4
    have h5:=condW_of h4 (w_not (w_lt w_lit (w_len_list (w_arg rfl))))
    rw [aa] at h5
    refine dq λq=>?_
    have q':(n:Int)<((ns.length:Nat):Int):=by omega
    first
      | (rw [decide_eq_true q'] at h5;exact absurd h5 (by decide))
      | (simp at h5;omega)
  cases hwl with
  | cons w1 w2 =>
    cases w2
    cases w1 with
    | list ho hall=>exact ⟨_,_,ns,rfl,rfl,ho,A5 ns _ hall,hlen⟩
theorem yg5 (l:OpenLaw)(args:List WData):l.row.toRowW.claim.post args (.bool true) args=true :=
  postW_of (r := l.row.toRowW) (X := (true==true))
    (show WShape.has [] (.bool true) .bool=true by first|rfl|decide|simp [WShape.has,WShape.arms,WShape.armsAll])
    (show (WTm.eq .res (.lit (.bool true))).value [] { args:=args,res:=some (.bool true),after:=args }=some (.bool (true==true)) from w_eq_bool (w_res rfl) w_lit) rfl
section
variable {prog:Program}{w:World}{A:Around}{E:Value->Shared->Prop}{s:Shared}{K:Frag}
end
end Att
namespace L2
open PySem PySem.Spec PyProof.Rows
theorem N8 : ∀{vs : List Value} {ns : List Int}, IntsAre vs ns -> t9 (ns.map V.int) vs
  | _,_,.nil=>.nil
  | _,_,.cons n t h=>.cons ⟨t,rfl⟩ (N8 h)
def yx4 (H:Hp):Prop:=∀b,H b=none∨∃o xs,H b=some (.frz o (.lst xs))
theorem yl4 {P : Program}{w : World}{K : W.Frag}{mg mb : Str -> Option Value}{CX : CXT}{k : Nat}{fa a : Addr}{fd : FuncData}{x : Str}{sp : Sp}{s₁ : Shared}{vs : List Value}{ns : List Int}
    (KX:K.In s₁.heap) (hns:s₁.heap.Ns mainGlobals mg) (hb:s₁.heap.Ns builtinsNs mb) (hbb:∀x:Str,x≠"__name__"->mb x=bootBuiltins x) (hlim:s₁.heap.NoLimit) (hg:s₁.gens=#[])
    (ha:s₁.heap.get? a=some { cls:=.type "list",data:=.seq vs.toArray }) (hi:IntsAre vs ns) (hl:ns.length<=sizeLine) (hr:Z2 k callerA)
    (F:∀base:Heap,K.In base->base.Ns mainGlobals mg->r8 P w K mg base CX k fa fd [x] sp) (hbind:∀(s:Shared) (u:Value),BindsTo s fd ⟨[u],[]⟩ [(x,u)])
    (hsp:∀H:Hp,yx4 H->SqL K H a (ns.map V.int)->sp [.ref a] H (λv _=>v=.bl true) λ_ _ _=>False)
    (hCX:∀H e s',CX [] H s₁ (λ_ _ _=>False) e s'->False) :
    codeAny (model P w) callerA (.call (.ref fa) ⟨[.ref a],[]⟩) (λr s'=>r=.ok (.ret (.bool true))/\OldK s₁.heap s'.heap/\s'.os=s₁.os/\AllBare s'.gens) s₁:=by
  have rv:=N8 hi
  have lenV:=hi.length
  have core:∀H:Hp,yx4 H->SqL K H a (ns.map V.int)->HOk P w H s₁.heap->(∀b,H b≠none->b=a)->(H a≠none->K.lookup a=none) ->
      codeAny (model P w) callerA (.call (.ref fa) ⟨[.ref a],[]⟩) (λr s'=>r=.ok (.ret (.bool true))/\OldK s₁.heap s'.heap/\s'.os=s₁.os/\AllBare s'.gens) s₁:=by
    intro H hO hS hok hA hK
    have base_of:∀{b:Addr} {o:Obj},s₁.heap.get? b=some o->H b=none->(zl4 s₁.heap H).get? b=some o:=λe n=>yk5 e n
    have noA:∀{b:Addr} {o:Obj} {es:Array DictEntry} {ep:Nat},s₁.heap.get? b=some o->o.data=.dict es ep->H b=none:=λ{b o es ep} e d=>by
      cases q:H b with
      | none=>rfl
      | some u =>
        have e':b=a:=hA b (by rw [q];simp)
        subst e'
        rw [ha] at e;cases e
        have d':Data.seq vs.toArray _=Data.dict es ep:=d
        cases d'
    have nsK:∀{b:Addr} {m:Str->Option Value},s₁.heap.Ns b m->(zl4 s₁.heap H).Ns b m:=λ{b m} ⟨o,es,ep,e,d,r⟩=>⟨o,es,ep,base_of e (noA e d),d,r⟩
    have hKb:K.In (zl4 s₁.heap H):=λb o e=>base_of (KX b o e) (by
      cases q:H b with
      | none=>rfl
      | some u =>
        have e':b=a:=hA b (by rw [q];simp)
        subst e'
        rw [hK (by rw [q];simp)] at e;cases e)
    have hM:Mod K mg (zl4 s₁.heap H):=⟨hKb,nsK hns,⟨mb,nsK hb,hbb⟩,let ⟨mc,h1,h2⟩:=hlim;⟨mc,nsK h1,h2⟩⟩
    have e0:zw6 P w K mg (zl4 s₁.heap H) callerA [] s₁ H:=⟨rfl,hM,λb o e=>yt4 e,cZ (yf4 _ _),trivial,λb hb=>absurd (show b∈([]:List Addr) from hb) (by simp),hok,.of_eq hg⟩
    refine codeAny_mono ((F _ hKb (nsK hns)).run callerA [] s₁ H ⟨[.ref a],[]⟩ [.ref a] [.ref a] _ _ hr e0 (hbind s₁ (.ref a)) (.cons rfl .nil) (hsp H hO hS)) λr s' h=>?_
    cases r with
    | error e=>exact (hCX H e s' h).elim
    | ok fl =>
      cases fl with
      | next=>exact False.elim h
      | brk=>exact False.elim h
      | cont=>exact False.elim h
      | ret u =>
        obtain ⟨v,H',os,bare,un,hok',r',q⟩:=h
        have q':v=.bl true:=q
        subst q'
        obtain rfl:u=Value.bool true:=r'
        refine ⟨rfl,OldK.of_keep λb o e=>?_,os,bare⟩
        cases q:H b with
        | none=>exact un.keep b o e q (by intro z;exact absurd (show b∈([]:List Addr) from z) (by simp)) (by simp)
        | some u =>
          rcases hO b with z|⟨ob,xs,z⟩
          . rw [q] at z;cases z
          . have z2 := un.frzs b ob _ z
            obtain ⟨e1,_⟩:=hok b _ z
            obtain ⟨e2,_⟩:=hok' b _ z2
            rw [e] at e1;cases e1
            exact e2
  cases hk:K.lookup a with
  | some o =>
    have e:=KX a o hk
    rw [ha] at e
    cases e
    refine core (λ_=>none) (λ_=>.inl rfl) (.inr ⟨_,vs.toArray,_,hk,rfl,rfl,rfl,by rw [ao,lenV];exact hl,by simpa using rv⟩) (λb u z=>by have z':(none:Option HO)=some u:=z;cases z') (λb z=>absurd rfl z) λz=>absurd rfl z
  | none =>
    refine core (λb=>if b=a then some (.frz { cls:=.type "list",data:=.seq vs.toArray } (.lst (ns.map V.int))) else none) (λb=>?_) (.inl (.inr ⟨{ cls:=.type "list",data:=.seq vs.toArray },if_pos rfl⟩)) (λb u z=>?_) (λb z=>?_) λ_=>hk
    . by_cases hb : b = a
      . exact .inr ⟨_,_,if_pos hb⟩
      . exact .inl (if_neg hb)
    . by_cases hb : b = a
      . have z' := (if_pos hb).symm.trans z
        cases z'
        subst hb
        exact ⟨ha,by rw [aa];exact hl,vs,_,rv,ha⟩
      . have z' := (if_neg hb).symm.trans z
        cases z'
    . by_cases hb : b = a
      . exact hb
      . exact absurd (if_neg hb) z
end L2
namespace L2
open PySem PySem.Spec PyProof.Rows
def X9 (s:Stmt):Arguments:=match s with
  | .FunctionDef _ a _ _ _ _ _ _ _ _=>a
  | _=>{ posonlyargs:=[],args:=[],vararg:=none,kwonlyargs:=[],kw_defaults:=[],kwarg:=none,defaults:=[] }
def Z4 (s:Stmt):List Stmt:=match s with
  | .FunctionDef _ _ b _ _ _ _ _ _ _=>b
  | _=>[]
def y0 (s:Stmt):Scope:=match s with
  | .FunctionDef _ _ _ _ _ _ sc _ _ _=>sc
  | _=>{ kind:=.function,names:=[],isGenerator:=false,isCoroutine:=false }
abbrev CX0:CXT:=λ_ _ _ _ _ _=>False
abbrev E0:XK:=λ_ _ _=>False
theorem yw3 {X:Cx}:L7 CX0 X E0:=λ_ _ _ _ _ _ _ h=>h.elim
structure Fun (K:W.Frag) (x qual:Str) (st:Stmt) (f:Addr) (fd:FuncData):Prop where
  ex:∃(oc:Value) (od:Option Addr) (kV doc pm:Value) (an:Option Addr) (cdv ct:Value) (osl:Array (Option Value)),
    fd=W.fnOf x qual (X9 st) (Z4 st) (y0 st) .none kV doc pm an cdv ct/\K.lookup f=some ⟨oc,od,.func fd,osl⟩/\W.codeIn K cdv qual=true
  kp:W.keepIn K (.ref f)=true
section
variable {P:Program}{w:World}{K:W.Frag}{mg:Str->Option Value}{base:Heap}
theorem Fun.ok {x qual : Str}{st : Stmt}{f : Addr}{fd : FuncData}{N ps : List Str}{k : Nat}{sp : Sp}(F : Fun K x qual st f fd)(S : v9 N ps (y0 st))(len : ∀vs H Q E, sp vs H Q E -> vs.length = ps.length)
    (hbody:∀(cdv:Value) (A:Around) (outer:List Env) (s:Shared) (H:Hp) (vs:List V) (Q:VK) (E:XK),Z2 k (A.deeper (envOfC qual (y0 st) s.heap.objs.size f cdv))->sp vs H Q E ->
      ∃t,PSs (X3 CX0 P w K mg base N qual (y0 st) f cdv A outer s H E).nox (Z4 st) t/\t { nx:=λ_ H'=>Q .non H',rt:=Q } (start N vs) H):r8 P w K mg base CX0 (k+1) f fd ps sp:=by
  obtain ⟨oc,od,kV,doc,pm,an,cdv,ct,osl,rfl,lk,hcd⟩:=F.ex
  refine yw0 lk hcd S len λA outer s H vs Q E hr hsp=>?_
  obtain ⟨t,h,q⟩:=hbody cdv A outer s H vs Q E hr hsp
  exact ⟨t,h.nox,q⟩
theorem Fun.binds {x qual : Str}{st : Stmt}{f : Addr}{fd : FuncData}{ps : List Str}(F : Fun K x qual st f fd)
    (h:∀(kV doc pm:Value) (an:Option Addr) (cdv ct:Value) (us:List Value),us.length=ps.length->bindArgs (W.fnOf x qual (X9 st) (Z4 st) (y0 st) .none kV doc pm an cdv ct) ⟨us,[]⟩=pure (ps.zip us)):V5 K fd ps []:=by
  obtain ⟨oc,od,kV,doc,pm,an,cdv,ct,osl,rfl,lk,hcd⟩:=F.ex
  exact .all (h kV doc pm an cdv ct)
theorem zl1 {x qual : Str}{st : Stmt}{f : Addr}{oc : Value}{od an : Option Addr}{osl : Array (Option Value)}{kV doc pm cdv ct : Value}(l : K.lookup f = some ⟨oc, od, .func (W.fnOf x qual (X9 st) (Z4 st) (y0 st) .none kV doc pm an cdv ct), osl⟩)
    (c:W.codeIn K cdv qual=true) (k:W.keepIn K (.ref f)=true):Fun K x qual st f (W.fnOf x qual (X9 st) (Z4 st) (y0 st) .none kV doc pm an cdv ct):=⟨⟨oc,od,kV,doc,pm,an,cdv,ct,osl,rfl,l,c⟩,k⟩
end
theorem W5 {n:Nat}(h:n<=1000):n<sizeLine:=bA h (by decide)
section
variable {X:Cx}
theorem pv (i : Nat){x : Str}{pos : Pos}(hN : X.N[i]? = some x := by rfl)(hv : Vis X.env.scope x := by first|exact Or.inl rfl|exact Or.inr (Or.inl rfl)|exact Or.inr (Or.inr rfl))(hd : (x==("__debug__" : Str)) = false := by decide)
    (hcd:(x==("__classdict__":Str))=false:=by decide):PE X (.Name x pos) (xg7 i):=xb2 hN hv hd hcd
end
theorem w6 {A B:Prop}(h:B):if false=true then A else B:=by
  rw [if_neg am]
  exact h
theorem u4 {A B:Prop}(h:A):if true=true then A else B:=by
  rw [if_pos rfl]
  exact h
theorem xi0 {c A B:Prop}[Decidable c](h1:c->A)(h2:¬c->B):if c then A else B:=by
  by_cases h:c
  . rw [if_pos h]
    exact h1 h
  . rw [if_neg h]
    exact h2 h
def z9 (H H':Hp):Prop:=∀b o,H b=some o->H' b=some o
theorem z9.refl (H:Hp):z9 H H:=λ_ _ h=>h
theorem z9.trans {H H1 H2:Hp}(a:z9 H H1)(b:z9 H1 H2):z9 H H2:=λc o h=>b c o (a c o h)
theorem z9.free {H H':Hp}(e:z9 H H'){l:Addr}(h:H' l=Option.none):H l=Option.none:=by
  cases q:H l with
  | none=>rfl
  | some o =>
    rw [e l o q] at h
    cases h
theorem z9.seq {K:W.Frag}{H H':Hp}{a:Addr}{xs:List V}(e:z9 H H')(h:SqL K H a xs):SqL K H' a xs:=by
  rcases h with (h|⟨o,h⟩)|h
  . exact .inl (.inl (e _ _ h))
  . exact .inl (.inr ⟨o,e _ _ h⟩)
  . exact .inr h
section
variable {X:Cx}
end
section
variable {κ:Type}[DecidableEq κ]
end
end L2
set_option maxHeartbeats 4000000
namespace Att
open PySem PySem.W PySem.Calls PyProof.Rows
theorem ye3 {ns:List Int}{z:Int}(h:(WData.list (ns.map WData.int)).layable=true)(hz:z∈ns):Builtin.Int.intBits z<=2 ^ 20:=by
 have h1:=layableW_item h (WData.int z) (aI.mpr ⟨z,hz,rfl⟩)
 obtain ⟨_,_,h3⟩:=layableW_iff.mp h1
 simpa only [WData.weight,Builtin.Int.intBits] using h3
theorem attach_callB {l:OpenLaw}{n:Nat}{q:Program}{loose:List Str}{XP:(Str->Option Value)->Heap->Prop}{YP:World->Heap->Prop}{d:DefRec}
  (hn:l.most=some n) (hdf:d.params.defaults=[])
  (call:∀(w:World) (s₀ s₁:Shared) (mg mb:Str->Option Value) (fa:Addr) (o:Obj) (pm cd doc:Value) (a:Addr) (vs:List Value) (ns:List Int),
   Ground q loose [] XP w s₀ mg mb s₁.heap->YP w s₁.heap ->
   s₁.heap.get? fa=some o->o.data=.func (docDef d.name d.params d.body d.scope pm cd doc)->s₁.heap.CodeRec cd d.name->mg d.name=some (.ref fa) ->
   s₁.heap.get? a=some { cls:=.type "list",data:=.seq vs.toArray }->IntsAre vs ns->ns.length<=n->(∀z∈ns,Builtin.Int.intBits z<=2 ^ 20)->s₁.gens=#[] ->
   codeAny (model l.prog w) callerA (.call (.ref fa) ⟨[.ref a],[]⟩) (λr s'=>r=.ok (.ret (.bool true))/\OldK s₁.heap s'.heap/\s'.os=s₁.os/\AllBare s'.gens) s₁) :
  WalkO q loose XP YP l.row.toRowW d [] (λf vs=>PySem.call f vs):=by
 intro w s₀ s₁ mg mb G Y fa o pm cd doc dV kV ho hd hcd hD hmg hg args vals as hpre hlay hrd hwl hlo
 obtain rfl:dV=.none:=Dflts.none hD hdf
 obtain rfl:kV=.none:=Dflts.noKw hD
 obtain ⟨a,vs,ns,rfl,rfl,hobj,hints,hlen⟩:=yh0 hn hpre hwl
 have hbits:∀z∈ns,Builtin.Int.intBits z<=2 ^ 20:=λz hz=>ye3 (layableW_arg hlay _ ap) hz
 refine enter_call (codeAny_mono (call w s₀ s₁ mg mb fa o pm cd doc a vs ns G Y ho (fd_plain hd) hcd hmg hobj hints hlen hbits hg) λr s' hq=>?_)
 obtain ⟨rfl,h2,h3,h4⟩:=hq
 exact ⟨.inl ⟨.bool true,.bool true,[],rfl,λ_=>rfl,.bool true,yg5 l _,λ_=>⟨List.Pairwise.nil,λ_ hm=>(nomatch hm)⟩⟩,h2,h3,h4⟩
end Att
namespace L2
open PySem PySem.Spec PyProof.Rows
theorem walk_ofB {l:W.OpenLaw}{n k:Nat}{q:Program}{loose:List Str}{XP:(Str->Option Value)->Heap->Prop}{YP:World->Heap->Prop}{d:DefRec}{K:Params->W.Frag}{CX:CXT}{sp:W.Frag->Sp}{x:Str}
  (hn:l.most=some n) (hn2:n<=sizeLine) (hdf:d.params.defaults=[]) (hr:Z2 k callerA)
  (hY:∀(w:World) (h:Heap),YP w h->(K w.params).In h)
  (F:∀(w:World) (mg:Str->Option Value) (fa:Addr) (h:Heap),(K w.params).In h->h.Ns mainGlobals mg->mg d.name=some (.ref fa) ->
   ∃fd:FuncData,(∀(s:Shared) (u:Value),BindsTo s fd ⟨[u],[]⟩ [(x,u)]) /\
    ∀base:Heap,(K w.params).In base->base.Ns mainGlobals mg->r8 l.prog w (K w.params) mg base CX k fa fd [x] (sp (K w.params)))
  (hsp:∀(K:W.Frag) (H:Hp) (a:Addr) (ns:List Int),ns.length<=n->(∀z∈ns,Builtin.Int.intBits z<=2 ^ 20)->yx4 H->SqL K H a (ns.map V.int)->sp K [.ref a] H (λv _=>v=.bl true) λ_ _ _=>False)
  (hCX:∀(H:Hp) (s:Shared) (e:Value) (s':Shared),CX [] H s (λ_ _ _=>False) e s'->False) :
  W.WalkO q loose XP YP l.row.toRowW d [] (λf vs=>PySem.call f vs):=by
 refine Att.attach_callB hn hdf λw s₀ s₁ mg mb fa o pm cd doc a vs ns G Y ho hd hcd hmg hobj hints hlen hbits hg=>?_
 have KX:=hY w _ Y
 obtain ⟨fd,hb,hF⟩:=F w mg fa _ KX G.T.g hmg
 exact yl4 KX G.T.g G.T.b G.T.builtins G.T.nolimit hg hobj hints (aB hlen hn2) hr hF hb (λH hO hS=>hsp (K w.params) H a ns hlen hbits hO hS) λH e s'=>hCX H s₁ e s'
section
variable {X:Cx}
end
theorem yf2 {α β:Type}{l:List α}{f:α->β->Sem (ForInStep β)}{g:β->α->β}:∀(c:β),(∀x∈l,∀c,f x c=pure (.yield (g c x)))->forIn l c f=pure (l.foldl g c):=by
 induction l with
 | nil=>intro c _;rfl
 | cons x l ih =>
  intro c h
  rw [cN,h x ap,pure_bind]
  exact ih _ λy hy=>h y (aj _ hy)
def g8 (cells:List (Str×Addr))(cs:List (Str×Addr))(x:Str×NameKind):List (Str×Addr):=if (x.2==NameKind.free)=true then (x.1,(cells.lookup x.1).getD 0)::cs else cs
def yi6 (cells:List (Str×Addr))(names:List (Str×NameKind)):List (Str×Addr):=names.foldl (g8 cells) []
theorem P3 {scope:Scope}{env:Env}(h:∀y∈scope.names,y.2=.free->∃c,env.cells.lookup y.1=some c):closureFor scope env=pure (yi6 env.cells scope.names):=by
 simp only [closureFor]
 rw [yf2 (g:=g8 env.cells) [] (λx hx c=>by
  obtain ⟨n,k⟩:=x
  by_cases hk:k=.free
  ·subst hk
   obtain ⟨a,ha⟩:=h _ hx rfl
   have ha':env.cells.lookup n=some a:=ha
   simp only [g8,beq_self_eq_true,if_true,cellOf,ha',cn,pure_bind]
  ·have hb:(k==NameKind.free)=false:=by simpa using hk
   simp only [g8,hb,bz,if_false])]
 rfl
theorem zi3 {cells:List (Str×Addr)}:∀{names:List (Str×NameKind)} {cs:List (Str×Addr)},(∀y∈names,y.2=.free->∃c,cells.lookup y.1=some c)->(∀x c,cs.lookup x=some c->cells.lookup x=some c) ->
  ∀x c,(names.foldl (g8 cells) cs).lookup x=some c->cells.lookup x=some c
 | [],cs,_,h,x,c,e=>h x c e
 | (n,k)::r,cs,hn,h,x,c,e=>by
  refine zi3 (names:=r) (λy hy=>hn y (aj _ hy)) (λx c e=>?_) x c e
  by_cases hk:k=.free
  ·subst hk
   obtain ⟨a,ha⟩:=hn (n,.free) ap rfl
   have ha':cells.lookup n=some a:=ha
   simp only [g8,beq_self_eq_true,if_true,ha',cn,bp] at e
   cases q:x==n with
   | true =>
    rw [q] at e
    have q':x=n:=by simpa using q
    rw [q',ha']
    exact e
   | false =>
    rw [q] at e
    exact h x c e
  ·have hb:(k==NameKind.free)=false:=by simpa using hk
   simp only [g8,hb,bz,if_false] at e
   exact h x c e
theorem E8 {cells:List (Str×Addr)}{x:Str}:∀{names:List (Str×NameKind)} {cs:List (Str×Addr)},((x,NameKind.free)∈names∨∃c,cs.lookup x=some c)->∃c,(names.foldl (g8 cells) cs).lookup x=some c
 | [],cs,h=>by
  rcases h with h|h
  ·cases h
  ·exact h
 | (n,k)::r,cs,h=>by
  refine E8 (names:=r) (cs:=g8 cells cs (n,k)) ?_
  rcases h with h|⟨c,h⟩
  ·rcases aw.mp h with e|e
   ·cases e
    right
    simp [g8]
   ·exact .inl e
  ·right
   by_cases hk:k=.free
   ·subst hk
    simp only [g8,beq_self_eq_true,if_true,bp]
    cases x==n with
    | true=>exact ⟨_,rfl⟩
    | false=>exact ⟨c,h⟩
   ·have hb:(k==NameKind.free)=false:=by simpa using hk
    simp only [g8,hb,bz,if_false]
    exact ⟨c,h⟩
def K0 (sc osc:Scope)(fr:List Str):Bool :=
 sc.kind == .function&&(sc.names.all λy=>y.2 != .cell)&&(sc.names.all λy=>y.2 != .local || sc.names.lookup y.1==some .local) &&
 (sc.names.all λy=>y.2 != .free || (osc.names.lookup y.1==some .cell || osc.names.lookup y.1==some .free))&&(fr.all λx=>sc.names.lookup x==some .free)
structure zk4 (sc osc:Scope) (fr:List Str):Prop where
 kind:sc.kind=.function
 cell:∀y∈sc.names,y.2≠.cell
 loc:∀y∈sc.names,y.2=.local->sc.names.lookup y.1=some .local
 free:∀y∈sc.names,y.2=.free->osc.names.lookup y.1=some .cell∨osc.names.lookup y.1=some .free
 fr:∀x∈fr,sc.names.lookup x=some .free
theorem E9 {sc osc:Scope}{fr:List Str}(h:K0 sc osc fr=true):zk4 sc osc fr:=by
 unfold K0 at h
 rw [aG,aG,aG,aG] at h
 obtain ⟨⟨⟨⟨h1,h2⟩,h3⟩,h4⟩,h5⟩:=h
 refine ⟨by simpa using h1,λy hy=>?_,λy hy e=>?_,λy hy e=>?_,λx hx=>?_⟩
 ·simpa using aX.mp h2 y hy
 ·have:=aX.mp h3 y hy
  rw [e] at this
  simpa using this
 ·have:=aX.mp h4 y hy
  rw [e] at this
  simpa using this
 ·simpa using aX.mp h5 x hx
theorem mem_of_lookup {x:Str}{k:NameKind}:∀{l:List (Str×NameKind)},l.lookup x=some k->(x,k)∈l
 | [],h=>by cases h
 | (n,j)::r,h=>by
  rw [bp] at h
  cases q:x==n with
  | true =>
   rw [q] at h
   have q':x=n:=by simpa using q
   cases h
   rw [q']
   exact ap
  | false =>
   rw [q] at h
   exact aj _ (mem_of_lookup h)
theorem X7 {env:Env}:∀{names:List (Str×NameKind)} {x:Str},names.lookup x=some .free ->
  (names.map λ(n,k)=>if (k==NameKind.free&&env.scope.kind == .function&&env.kindOf n==some .cell) then (n,NameKind.cell) else (n,k)).lookup x=some .cell ∨
  (names.map λ(n,k)=>if (k==NameKind.free&&env.scope.kind == .function&&env.kindOf n==some .cell) then (n,NameKind.cell) else (n,k)).lookup x=some .free
 | [],_,h=>by cases h
 | (n,k)::r,x,h=>by
  have ih:=@X7 env r x
  show List.lookup x ((if (k==NameKind.free&&env.scope.kind == .function&&env.kindOf n==some .cell)=true then (n,NameKind.cell) else (n,k))::_)=_∨List.lookup x ((if (k==NameKind.free&&env.scope.kind == .function&&env.kindOf n==some .cell)=true then (n,NameKind.cell) else (n,k))::_)=_
  rw [bp] at h
  by_cases hc:(k==NameKind.free&&env.scope.kind == .function&&env.kindOf n==some .cell)=true
  ·rw [if_pos hc]
   simp only [bp]
   cases hx:x==n with
   | true=>exact .inl rfl
   | false=>rw [hx] at h;exact ih h
  ·rw [if_neg hc]
   simp only [bp]
   cases hx:x==n with
   | true=>rw [hx] at h;exact .inr h
   | false=>rw [hx] at h;exact ih h
def p9 (X:Cx)(N':List Str)(scope:Scope)(C:Addr)(s₃:Shared)(H₃:Hp)(fp:List Addr):Cx where
 prog:=X.prog
 w:=X.w
 K:=X.K
 mg:=X.mg
 base:=X.base
 A:=X.A
 N:=N'
 s₀:=s₃
 H₀:=H₃
 env:=compEnvC scope (yi6 X.env.cells scope.names) C X.env
 outer:=X.stack
 stack:=X.stack
 ex:=fp
 fn:=λ_=>false
 calm:=X.calm
 pn:=[]
 xe:=λ_ _=>False
def Q7 (own:Nat)(fr:List Nat)(σ:St):St:=List.replicate own none++fr.map λj=>(σ[j]?).getD none
section
variable {X:Cx}{pins:List (Addr×Obj)}{σ:St}{H:Hp}{s:Shared}
theorem zr3 {N':List Str}{own:Nat}{fr:List Nat}{scope:Scope}{fp:List Addr}{h₁:Heap}{m:Str->Option Value}{t:Nat}{oD:Obj}(I:Inv X pins σ H s)(hf:∀b∈fp,zb3 X pins H b)(hob:∀b∈fp,∃o,s.heap.get? b=some o)
  (hok:zk4 scope X.env.scope (N'.drop own)) (hfr:fr.map (λj=>X.N[j]?)=(N'.drop own).map some) (hown:own<=N'.length)
  (hn:h₁.Ns s.heap.objs.size m) (hsb:Heap.SameBut s.heap.objs.size (s.heap.push oD) h₁) :
  Inv (p9 X N' scope s.heap.objs.size s H fp) [] (Q7 own fr σ) H { s with heap:=h₁,toks:=t }:=by
 have cellsSub:∀x c,(yi6 X.env.cells scope.names).lookup x=some c->X.env.cells.lookup x=some c:=λx c e =>
  zi3 (λy hy hk=>I.ok.has y.1 (hok.free y hy hk)) (λx c e=>by cases e) x c e
 have up:∀b o,s.heap.get? b=some o->h₁.get? b=some o:=λb o e=>(hsb.2 b (av (ai e))).trans (ae _ e)
 have hlen:fr.length=(N'.drop own).length:=by
  have:=congrArg List.length hfr
  simpa using this
 have okX:(p9 X N' scope s.heap.objs.size s H fp).Ok :=
  {mod:=I.ok.mod
   kind:=hok.kind
   glob:=I.ok.glob
   blt:=I.ok.blt
   above:=af _
   inj:=λx y c e1 e2=>I.ok.inj x y c (cellsSub x c e1) (cellsSub y c e2)
   has:=λx hk=>by
    have hk':(relabel scope X.env).names.lookup x=some .cell∨(relabel scope X.env).names.lookup x=some .free:=hk
    have key:(x,NameKind.free)∈scope.names:=by
     have all:∀(l:List (Str×NameKind)),(∀y∈l,y.2≠.cell)->((l.map λ(n,k)=>if (k==NameKind.free&&X.env.scope.kind == .function&&X.env.kindOf n==some .cell) then (n,NameKind.cell) else (n,k)).lookup x=some .cell ∨
       (l.map λ(n,k)=>if (k==NameKind.free&&X.env.scope.kind == .function&&X.env.kindOf n==some .cell) then (n,NameKind.cell) else (n,k)).lookup x=some .free)->(x,NameKind.free)∈l:=by
      intro l
      induction l with
      | nil=>intro _ h;rcases h with h|h <;> cases h
      | cons p r ih =>
       obtain ⟨n,k⟩:=p
       intro hc h
       have hr:∀y∈r,y.2≠.cell:=λy hy=>hc y (aj _ hy)
       have hkc:k≠.cell:=hc (n,k) ap
       rw [aE] at h
       by_cases hx:(x==n)=true
       ·have hx':x=n:=by simpa using hx
        subst hx'
        by_cases hk:k=.free
        ·subst hk
         exact ap
        ·exfalso
         have hb:(k==NameKind.free)=false:=by simpa using hk
         simp [hb,bp] at h
         rcases h with h|h
         ·exact hkc h
         ·exact hk h
       ·have hx0:(x==n)=false:=by simpa using hx
        refine aj _ (ih hr ?_)
        by_cases hc:(k==NameKind.free&&X.env.scope.kind == .function&&X.env.kindOf n==some .cell)=true
        ·simp only [hc,if_true,bp,hx0] at h
         exact h
        ·have hc':(k==NameKind.free&&X.env.scope.kind == .function&&X.env.kindOf n==some .cell)=false:=by simpa using hc
         simp only [hc',bz,if_false,bp,hx0] at h
         exact h
     exact all scope.names hok.cell hk'
    exact E8 (.inl key)
   cab:=λx c e=>by cases e
   hd:=I.ok.hd
   frames:=I.ok.frames
   stk:=.inl rfl
   exf:=λb hb=>⟨λe=>by
     obtain ⟨o,ho⟩:=hob b hb
     exact absurd (ai ho) (by rw [e];exact aF _),λx c e=>(hf b hb).2.2.2.2.1 x c (cellsSub x c e)⟩
   bs:=I.bs
   bsz:=aB I.ok.bsz I.sz
   noex:=λb o e hb=>by
    rcases (hf b hb).2.2.2.1 with z|z
    ·exact I.ok.noex b o e z
    ·exact absurd (ai (I.ok.bs b o e).1) (dC.mpr z)
   exfs:=λb hb z=>by
    rcases aw.mp (I.stkSub b z) with e|e
    ·exact (hf b hb).2.1 e
    ·exact (hf b hb).2.2.1 e
   funs:=I.stack
   frf:=I.stkFree }
 refine ⟨okX,rfl,I.bare,Un.kept up,⟨m,hn,λi x v e1 e2 e3=>?_⟩,λx c e=>?_,I.hok.fresh (af _),λx c e=>I.freeC x c (cellsSub x c e),λp hp=>(by cases hp),I.hok.kept up,?_⟩
 ·have e2':(List.replicate own none++fr.map λj=>(σ[j]?).getD none)[i]?=some (some v):=e2
  by_cases hi:i<own
  ·rw [aQ (by simpa using hi),cu] at e2'
   rw [if_pos hi] at e2'
   cases e2'
  ·rw [aU (by simpa using dq hi),bU,au] at e2'
   cases hj:fr[i-own]? with
   | none=>rw [hj] at e2';cases e2'
   | some j =>
    rw [hj] at e2'
    have e4:(σ[j]?).getD none=some v:=by simpa using e2'
    have e5:σ[j]?=some (some v):=by
     cases q:σ[j]? with
     | none=>rw [q] at e4;cases e4
     | some z=>rw [q] at e4;simpa using e4
    have e6:N'[own+(i-own)]?=some x:=by
     rw [show own+(i-own)=i by lia]
     exact e1
    have e7:(N'.drop own)[i-own]?=some x:=by rw [cG];exact e6
    have e8:X.N[j]?=some x:=by
     have q:=congrArg (λl=>l[i-own]?) hfr
     simp only [au,hj,e7,Option.map_some] at q
     simpa using q
    have hx:=hok.fr x (ay e7)
    have hmem:=mem_of_lookup hx
    have hout:=hok.free _ hmem rfl
    obtain ⟨mX,_,hl⟩:=I.loc
    obtain ⟨u,r,l⟩:=hl j x v e8 e5 (.inr hout)
    refine ⟨u,r,?_⟩
    rcases l with ⟨k,_⟩|⟨_,c,ec,z⟩
    ·have k':X.env.scope.names.lookup x=some .local:=k
     rcases hout with q|q <;> (have q':X.env.scope.names.lookup x=_:=q;rw [k'] at q';cases q')
    ·obtain ⟨c',ec'⟩:=E8 (cells:=X.env.cells) (cs:=[]) (.inl hmem)
     have q:=cellsSub x c' ec'
     rw [ec] at q
     cases q
     obtain ⟨o,ho,hd⟩:=z
     exact .inr ⟨X7 hx,c,ec',o,up c o ho,hd⟩
 ·obtain ⟨v,o,ho,hd⟩:=I.cell x c (cellsSub x c e)
  exact ⟨v,o,up c o ho,hd⟩
 ·show (List.replicate own none++fr.map λj=>(σ[j]?).getD none).length=N'.length
  rw [al,bU,aa,hlen,bF]
  lia
end
section
variable {prog:Program}{w:World}{A:Around}{s:Shared}
theorem Y8 {elt target iter:Expr}{scope:Scope}{pos:Pos}{it acc:Value}{env:Env}{R:Result->Shared->Prop}(I:Nat->Shared->Prop)
  (turn:∀n s,I n s->wpAny (model prog w) A (pyNext it) (λr s₁=>match r with
   | none=>R (.ok .next) s₁
   | some v=>wpAny (model prog w) A (letOwnedTupleGo target it v) (λ_ s₁'=>wpAny (model prog w) A (assign target env v) (λ_ s₂=>wpAny (model prog w) A (eval elt env) (λx s₃ =>
     wpAny (model prog w) A (call (.builtin "list.append") [acc,x]) (λ_ s₄=>∃m,m<n/\I m s₄) (notedBy (model prog w) A env λe s'=>R (.error e) s') s₃)
     (notedBy (model prog w) A env λe s'=>R (.error e) s') s₂) (notedBy (model prog w) A env λe s'=>R (.error e) s') s₁') (notedBy (model prog w) A env λe s'=>R (.error e) s') s₁) (notedBy (model prog w) A env λe s'=>R (.error e) s') s)
  (n:Nat) (h:I n s):codeAny (model prog w) A (.compLoop (.ListComp elt [⟨target,iter,[],0⟩] scope pos) 0 it acc env) R s:=by
 refine codeAny_loop rfl I (λn s hI=>?_) n h
 show wpAny _ _ ((compTurn (.ListComp elt [⟨target,iter,[],0⟩] scope pos) 0 it acc env).onRaise (λx=>do noteFrame x env;theTreesLotGoes x)) _ _ s
 refine wpAny_noted ?_
 rw [compTurn_list1]
 refine wpAny_bind (wpAny_standAt (wpAny_bind (wpAny_mono (turn n s hI) (λr s₁ h₁=>?_) λ_ _ h'=>h')))
 cases r with
 | none=>exact wpAny_pure h₁
 | some v =>
  refine wpAny_bind (wpAny_mono h₁ (λ_ s₁' h₁'=>?_) λ_ _ h'=>h')
  exact wpAny_bind (wpAny_mono h₁' (λ_ s₂ h₂=>wpAny_bind (wpAny_bind (wpAny_mono h₂ (λx s₃ h₃=>wpAny_bind (wpAny_mono h₃
   (λ_ s₄ h₄=>wpAny_pure (wpAny_pure ⟨rfl,h₄⟩)) λ_ _ h'=>h')) λ_ _ h'=>h'))) λ_ _ h'=>h')
end
abbrev CT (α:Type):=Addr->Shared->Hp->List Addr->α
def ya4 (own:Nat)(fr:List Nat)(wi:TI)(g:CT TG)(te:CT TE)(σ:St)(H:Hp)(Q:Addr->Hp->Prop):Prop:=wi σ H λJ H1=>∀D,H1 D=none ->
 ∃W:Nat->Nat->St->Hp->Prop,(∃m,W 0 m (Q7 own fr σ) (upd H1 D (.lst [])))/\∀i m σ' H',W i m σ' H' ->
  (J.stop i H'/\Q D H')∨(J.go i H'/\∀x H2,J.yld i H' x H2->∀C₀ s₀ H₀ fp,g C₀ s₀ H₀ fp x σ' H2 λσ3 H3=>∃N:VK,te C₀ s₀ H₀ fp σ3 H3 N/\∀y H4,N y H4 ->
   ∃ys m',H4 D=some (.lst ys)/\ys.length<sizeLine/\m'<m/\W (i+1) m' σ3 (upd H4 D (.lst (ys++[y]))))
def zv6 (own:Nat)(fr:List Nat)(wi:TI)(g:CT TG)(te:CT TE):TE:=λσ H Q=>ya4 own fr wi g te σ H λD H'=>Q (.ref D) H'
def yv7 (X:Cx)(pins:List (Addr×Obj))(H:Hp)(C:Addr):Prop :=
 H C=none/\C≠X.env.locals/\X.s₀.heap.objs.size<=C/\(∀x c,X.env.cells.lookup x=some c->c≠C)/\∀p∈X.pn++pins,p.1≠C
section
variable {X:Cx}{own:Nat}{fr:List Nat}{N':List Str}{tg iter elt:Expr}{scope:Scope}{pos:Pos}{wi:TI}{g:CT TG}{te:CT TE}
theorem zq5 {pins:List (Addr×Obj)}{s:Shared}{σ:St}{H:Hp}{Q:Addr->Hp->Prop}{use:Option (Value->Sem Unit)}{Q':Value->Shared->Prop}{pos':Pos}(hc:X.calm=true)(hi:PI X tg iter wi)(hg:∀C s₃ H₃ fp,PG (p9 X N' scope C s₃ H₃ fp) tg (g C s₃ H₃ fp))(he:∀C s₃ H₃ fp,PE (p9 X N' scope C s₃ H₃ fp) elt (te C s₃ H₃ fp))
  (hok:zk4 scope X.env.scope (N'.drop own)) (hfr:fr.map (λj=>X.N[j]?)=(N'.drop own).map some) (hown:own<=N'.length) (hs:∀x,foldedSetIterable iter X.env x=pure x)
  (I:Inv X pins σ H s) (h:ya4 own fr wi g te σ H Q)
  (fin:∀D C m H' s',Inv X pins σ H' s'->s'.heap.Ns C m->yv7 X pins H' C->Q D H'->compPost (model X.prog X.w) X.A X.xe use Q' (.ref D) C (.ok .next) s') :
  wpAny (model X.prog X.w) X.A (comprehension (.ListComp elt [⟨tg,iter,[],0⟩] scope pos) scope X.env pos' (newList []) false (eval iter X.env) use) Q' X.xe s:=by
 refine wpAny_comprehension_free rfl hs (P3 λy hy hk=>I.ok.has y.1 (hok.free y hy hk)) hok.kind hok.loc (thn (hi pins s σ H _ I h) λxv s1 h1=>thn h1 λitv s2 h2=>?_)
 obtain ⟨it,fp,tn,J,H2,e,I2,T,st2,f2,body⟩:=h2
 subst e
 refine wpAny_newList (items:=[]) ?_
 have hD:H2 s2.heap.objs.size=none:=I2.hok.fresh (af _)
 have I3:Inv X pins σ (upd H2 s2.heap.objs.size (.lst [])) { s2 with heap:=s2.heap.push { cls:=.type "list",data:=.seq ([]:List Value).toArray } }:=I2.lnew (its:=[]) (t':=s2.toks) .nil (by decide)
 obtain ⟨W,⟨m0,w0⟩,turn⟩:=body _ hD
 generalize hDD:s2.heap.objs.size=D at hD I3 w0 turn ⊢
 have up3:∀b o,s2.heap.get? b=some o->(s2.heap.push { cls:=.type "list",data:=.seq ([]:List Value).toArray }).get? b=some o:=λb o e=>ae _ e
 have st3:tn 0 (s2.heap.push { cls:=.type "list",data:=.seq ([]:List Value).toArray }):=T.keep _ _ _ st2 λb _ o e=>up3 b o e
 have fpne:∀b∈fp,b≠D:=λb hb e=>by
  obtain ⟨o,ho,_⟩:=T.obj _ _ st2 b hb
  rw [e,←hDD] at ho
  exact absurd (ai ho) (aF _)
 have f3:∀b∈fp,zb3 X pins (upd H2 D (.lst [])) b:=λb hb=>⟨by rw [u9 (fpne b hb)];exact (f2 b hb).1,(f2 b hb).2⟩
 generalize hs3:({ s2 with heap:=s2.heap.push { cls:=.type "list",data:=.seq ([]:List Value).toArray } }:Shared)=s3 at I3 ⊢
 have st3':tn 0 s3.heap:=by rw [←hs3];exact st3
 generalize upd H2 D (.lst [])=H3 at I3 f3 w0
 have hob:∀b∈fp,∃o,s3.heap.get? b=some o:=λb hb=>let ⟨o,ho,_⟩:=T.obj _ _ st3' b hb;⟨o,ho⟩
 refine wpAny_newFunctionEnv hok.cell (by intro y hy;simp at hy) (λh₁ hns₁ hsb₁=>?_) hok.kind
 have up4:∀b o,s3.heap.get? b=some o->h₁.get? b=some o:=λb o e=>(hsb₁.2 b (av (ai e))).trans (ae _ e)
 have I4:=zr3 (N':=N') (own:=own) (fr:=fr) (scope:=scope) (t:=s3.toks+([]:List (Str×Value)).length) I3 f3 hob hok hfr hown hns₁ hsb₁
 have st4:tn 0 h₁:=T.keep _ _ _ st3' λb _ o e=>up4 b o e
 have stat:∀{H':Hp} ,(∀b∈fp,H' b=none)->∀b∈fp,zb3 (p9 X N' scope s3.heap.objs.size s3 H3 fp) [] H' b:=λhn b hb=>by
  refine ⟨hn b hb,(I4.ok.exf b hb).1,I4.ok.exfs b hb,.inl hb,(I4.ok.exf b hb).2,λp hp=>by cases hp⟩
 have loop:codeAny (model X.prog X.w) X.A (.compLoop (.ListComp elt [⟨tg,iter,[],0⟩] scope pos) 0 (.ref it) (.ref D) (p9 X N' scope s3.heap.objs.size s3 H3 fp).env)
   (compPost (model X.prog X.w) X.A X.xe use Q' (.ref D) s3.heap.objs.size) { s3 with heap:=h₁,toks:=s3.toks+([]:List (Str×Value)).length }:=by
  refine Y8 (λn s'=>∃i σ' H',Inv (p9 X N' scope s3.heap.objs.size s3 H3 fp) [] σ' H' s'/\tn i s'.heap/\(∀b∈fp,H' b=none)/\W i n σ' H') ?_ m0 ⟨0,_,H3,I4,st4,λb hb=>(f3 b hb).1,w0⟩
  rintro n s5 ⟨i,σ5,H5,I5,st5,fr5,w5⟩
  rcases turn i n σ5 H5 w5 with ⟨stop,q⟩|⟨go,step⟩
  ·refine thn (T.done (p9 X N' scope s3.heap.objs.size s3 H3 fp) rfl rfl rfl hc i [] s5 σ5 H5 _ I5 (stat fr5) st5 stop) λr s6 ⟨hr,I6⟩=>?_
   subst hr
   obtain ⟨m6,hn6,_⟩:=I6.loc
   have I7:Inv X pins σ H5 s6:=I3.call' (ch:=fp) (by have:=I6.os;exact this) I6.base I6.hok I6.bare λb hb=>⟨(f3 b hb).2.2.2.1,(f3 b hb).2.1,(f3 b hb).2.2.2.2.1,(f3 b hb).2.2.2.2.2⟩
   refine fin D s3.heap.objs.size m6 H5 s6 I7 hn6 ⟨I6.free,ci I3.lt,I3.sz,λx c e z=>?_,λp hp z=>?_⟩ q
   ·obtain ⟨v,z1⟩:=I3.cell x c e
    exact absurd z1.lt (by rw [z];exact aF _)
   ·exact absurd (ai (I3.pin p hp).1) (by rw [z];exact aF _)
  ·refine thn (T.item (p9 X N' scope s3.heap.objs.size s3 H3 fp) rfl rfl rfl hc i [] s5 σ5 H5 _ I5 (stat fr5) st5 go) λr s6 ⟨u,hr,h6⟩=>?_
   subst hr
   refine thn h6 λ_ s7 ⟨x,H7,I7,r7,y7,st7,fr7⟩=>?_
   have I7':=I7.pinned (stat fr7) (T.obj _ _ st7)
   refine wpAny_mono (hg _ _ _ _ _ s7 σ5 H7 x u _ I7' r7 (step x H7 y7 _ _ _ _)) (λ_ s8 ⟨σ8,H8,I8,N,q8,hN⟩=>?_) λ_ _ z=>z.elim
   refine wpAny_mono (he _ _ _ _ _ s8 σ8 H8 N I8 q8) (λyv s9 ⟨y,H9,I9,r9,n9⟩=>?_) λ_ _ z=>z.elim
   obtain ⟨ys,m',hD9,hlt,hm,w9⟩:=hN y H9 n9
   refine wpAny_mono (Z0 (X:=p9 X N' scope s3.heap.objs.size s3 H3 fp) _ s9 σ8 H9 (.ref D) [y] (.ref D) [yv] (λ_ H'=>H'=upd H9 D (.lst (ys++[y]))) I9 rfl (.cons r9 .nil) ⟨D,ys,y,rfl,rfl,hD9,hlt,rfl⟩) (λ_ s10 ⟨_,H10,I10,_,q10⟩=>?_) λ_ _ z=>z.elim
   subst q10
   have pin:=λb hb o e=>I10.pin (b,o) (aM _ (aM _ (S7 (h:=s7.heap) (fp:=fp) hb e)))
   refine ⟨m',hm,i+1,σ8,_,I10.unpinned,T.keep _ _ _ st7 λb hb o e=>(pin b hb o e).1,λb hb=>?_,w9⟩
   obtain ⟨o,e,d⟩:=T.obj _ _ st7 b hb
   exact (pin b hb o e).2.1
 exact codeAny_compStart_list loop (T.self X.A 0 _ _ _ st4 loop)
theorem yt7 (own:Nat)(fr:List Nat)(N':List Str)(hc:X.calm=true)(hi:PI X tg iter wi)(hg:∀C s₃ H₃ fp,PG (p9 X N' scope C s₃ H₃ fp) tg (g C s₃ H₃ fp))(he:∀C s₃ H₃ fp,PE (p9 X N' scope C s₃ H₃ fp) elt (te C s₃ H₃ fp))
  (hok:K0 scope X.env.scope (N'.drop own)=true:=by rfl) (hfr:fr.map (λj=>X.N[j]?)=(N'.drop own).map some:=by rfl) (hown:own<=N'.length:=by decide) (hs:∀x,foldedSetIterable iter X.env x=pure x:=by intro _;rfl) :
  PE X (.ListComp elt [⟨tg,iter,[],0⟩] scope pos) (zv6 own fr wi g te):=by
 intro pins s σ H Q I h
 rw [eval_ListComp]
 refine zq5 (use:=none) hc hi hg he (E9 hok) hfr hown hs I h λD C m H' s' I' hn sp q=>?_
 refine ⟨m,hn,λh' sb=>⟨.ref D,H',?_,rfl,q⟩⟩
 exact I'.turned (t':=s'.toks) (λb o hb e=>(sb.2 b hb).trans e) sp.1 sp.2.1 (.inr sp.2.2.1) sp.2.2.2.1 sp.2.2.2.2
theorem zz3 {i:Nat}{y:Str}{py spos:Pos}(own:Nat)(fr:List Nat)(N':List Str)(hN:X.N.Nodup)(hy:X.N[i]?=some y)(hl:X.env.scope.names.lookup y=some .local)(hc:X.calm=true)(hi:PI X tg iter wi)(hg:∀C s₃ H₃ fp,PG (p9 X N' scope C s₃ H₃ fp) tg (g C s₃ H₃ fp))(he:∀C s₃ H₃ fp,PE (p9 X N' scope C s₃ H₃ fp) elt (te C s₃ H₃ fp))
  (hsw:swapsWith (.ListComp elt [⟨tg,iter,[],0⟩] scope pos) (some (.Name y py)) spos.line X.env=pure true:=by rfl)
  (hok:K0 scope X.env.scope (N'.drop own)=true:=by rfl) (hfr:fr.map (λj=>X.N[j]?)=(N'.drop own).map some:=by rfl) (hown:own<=N'.length:=by decide) (hs:∀x,foldedSetIterable iter X.env x=pure x:=by intro _;rfl) :
  PS X (.Assign [.Name y py] (.ListComp elt [⟨tg,iter,[],0⟩] scope pos) spos) (ya3 (zv6 own fr wi g te) (Y1 i)):=by
 intro pins s σ H D I h
 rw [exec_Assign_Name_used _ _ _ _ hsw]
 refine wpAny_bind (wpAny_standAt (wpAny_bind ?_))
 show wpAny _ X.A (do let _ ←comprehension (.ListComp elt [⟨tg,iter,[],0⟩] scope pos) scope X.env _ (newList []) false (eval iter X.env) (some (assign (.Name y py) X.env))) _ _ s
 refine wpAny_bind (wpAny_mono (zq5 (use:=some (assign (.Name y py) X.env)) (Q':=λ_ s'=>SP X pins D .next s') hc hi hg he (E9 hok) hfr hown hs I h λDl C m H' s' I' hn sp q=>?_) (λ_ s' hq=>wpAny_pure (wpAny_pure hq)) λ_ _ e=>e)
 show wpAny _ X.A (assign (.Name y py) X.env (.ref Dl)) _ _ _
 refine wpAny_assign_Name (N7 (v:=.ref Dl) I' hN hy (.inl hl) rfl (λs2 I2 ⟨a,sb,ha⟩=>?_) (.inr hl))
 have hCa:C≠a:=by
  rcases ha with e|e
  ·rw [e];exact sp.2.1
  ·exact λz=>sp.2.2.2.1 y a e z.symm
 refine ⟨m,hn.sameBut sb hCa,λh' sb'=>⟨_,H',?_,q⟩⟩
 exact I2.turned (t':=s2.toks) (λb o hb e=>(sb'.2 b hb).trans e) sp.1 sp.2.1 (.inr sp.2.2.1) sp.2.2.2.1 sp.2.2.2.2
theorem ze0 {x:Str}{px:Pos}(fr:List Nat)(N':List Str)(hc:X.calm=true)(hi:PI X (.Name x px) iter wi)(he:∀C s₃ H₃ fp,PE (p9 X N' scope C s₃ H₃ fp) elt (te C s₃ H₃ fp))(hN:N'.Nodup:=by decide +kernel)(h0:N'[0]?=some x:=by rfl)(hx:scope.names.lookup x=some .local:=by rfl)
  (hok:K0 scope X.env.scope (N'.drop 1)=true:=by rfl) (hfr:fr.map (λj=>X.N[j]?)=(N'.drop 1).map some:=by rfl) (hown:1<=N'.length:=by decide) (hs:∀x,foldedSetIterable iter X.env x=pure x:=by intro _;rfl) :
  PE X (.ListComp elt [⟨.Name x px,iter,[],0⟩] scope pos) (zv6 1 fr wi (λ_ _ _ _=>Y1 0) te) :=
 yt7 1 fr N' hc hi (λ_ _ _ _=>k8 hN h0 (.inl (lookup_relabel_local hx)) (.inr (lookup_relabel_local hx))) he hok hfr hown hs
theorem zt8 {i:Nat}{x y:Str}{px py spos:Pos}(fr:List Nat)(N':List Str)(hNd:X.N.Nodup)(hy:X.N[i]?=some y)(hl:X.env.scope.names.lookup y=some .local)(hc:X.calm=true)(hi:PI X (.Name x px) iter wi)(he:∀C s₃ H₃ fp,PE (p9 X N' scope C s₃ H₃ fp) elt (te C s₃ H₃ fp))
  (hsw:swapsWith (.ListComp elt [⟨.Name x px,iter,[],0⟩] scope pos) (some (.Name y py)) spos.line X.env=pure true:=by rfl) (hN:N'.Nodup:=by decide +kernel) (h0:N'[0]?=some x:=by rfl) (hx:scope.names.lookup x=some .local:=by rfl)
  (hok:K0 scope X.env.scope (N'.drop 1)=true:=by rfl) (hfr:fr.map (λj=>X.N[j]?)=(N'.drop 1).map some:=by rfl) (hown:1<=N'.length:=by decide) (hs:∀x,foldedSetIterable iter X.env x=pure x:=by intro _;rfl) :
  PS X (.Assign [.Name y py] (.ListComp elt [⟨.Name x px,iter,[],0⟩] scope pos) spos) (ya3 (zv6 1 fr wi (λ_ _ _ _=>Y1 0) te) (Y1 i)) :=
 zz3 1 fr N' hNd hy hl hc hi (λ_ _ _ _=>k8 hN h0 (.inl (lookup_relabel_local hx)) (.inr (lookup_relabel_local hx))) he hsw hok hfr hown hs
end
end L2
namespace PySem
open Sem (wp)
section
variable {prog:Program}{w:World}{A:Around}{E:Value->Shared->Prop}{s:Shared}
open AutoSeq1 (wpAny_loadPart')
end
end PySem
namespace L2
open PySem PySem.Spec PyProof.Rows
theorem L5:∀{xs:List V} {us:List Value},xs.length=us.length->(∀(i:Nat) x u,xs[i]?=some x->us[i]?=some u->o6 x u)->t9 xs us
 | [],[],_,_=>.nil
 | [],_::_,h,_=>by cases h
 | _::_,[],h,_=>by cases h
 | x::xs,u::us,h,r=>.cons (r 0 x u rfl rfl) (L5 (by simpa using h) λi y w e1 e2=>r (i+1) y w (by simpa using e1) (by simpa using e2))
def W8 (lo:Int)(n:Nat):List V:=(List.range n).map λi=>V.int (lo+(i:Nat))
theorem U7 (lo:Int)(n:Nat):(W8 lo n).length=n:=by unfold W8;rw [aa,aS]
theorem ya8 {acc:Array Value}{lo:Int}{n:Nat}(h:ItemsOf (λi v=>∃t,v=.int (lo+i*1) t) acc n):t9 (W8 lo n) acc.toList:=by
 obtain ⟨h1,h2⟩:=h
 refine L5 (by rw [U7,ak,h1]) λi x u e1 e2=>?_
 have hi:i<n:=by
  have:=(ar.mp e1).1
  rwa [U7] at this
 obtain ⟨t,rfl⟩:=h2 i u (by simpa using e2)
 unfold W8 at e1
 rw [au,bE hi] at e1
 cases e1
 exact ⟨t,by rw [Int.mul_one]⟩
section
variable {X:Cx}
theorem zi2:k9 X (.type "range") (λxs H Q=>∃j,xs=[.int j]/\∀p,H p=none->Q (.ref p) (upd H p (.rng 0 j))):=by
 intro pins s σ H xs us Q I r h
 obtain ⟨j,rfl,q⟩:=h
 obtain ⟨u,rfl,t,rfl⟩:=X8 r
 exact call_range_1 ⟨.ref s.heap.objs.size,_,I.laid (λb o e=>ae _ e) (af _) (show p4 X.prog X.w _ _ _ (.rng 0 j) from ⟨_,_,_,aq _ rfl⟩),rfl,q _ (I.hok.fresh (af _))⟩
def yx5 (lo hi:Int):Prop:=-(2 ^ 62)<=lo/\lo<2 ^ 62/\-(2 ^ 62)<=hi/\hi<2 ^ 62/\(hi-lo).toNat<=1000000
theorem p7:1000000<=sizeLine:=by decide
theorem M6 (hc:X.calm=true):k9 X (.type "list") (λxs H Q=>∃p lo hi,xs=[.ref p]/\H p=some (.rng lo hi)/\yx5 lo hi/\∀l,H l=none->Q (.ref l) (upd H l (.lst (W8 lo (hi-lo).toNat)))):=by
 intro pins s σ H xs us Q I r h
 obtain ⟨p,lo,hi,rfl,hp,⟨s1,s2,s3,s4,s5⟩,q⟩:=h
 obtain ⟨u,rfl,rx⟩:=X8 r
 cases rx
 obtain ⟨t,u,v,hr⟩:=I.hok p _ hp
 have hz:=p7
 refine call_list_range (n:=(hi-lo).toNat) (I.ok.hd hc) hr (small_one s1 s2 s3 s4) (by rw [rangeSize_one];split <;> lia) (by lia) λh' tk acc' c' kp hS hacc=>?_
 refine ⟨.ref s.heap.objs.size,_,I.laid (t':=tk) kp (af _) (show p4 X.prog X.w _ h' _ (.lst (W8 lo (hi-lo).toNat)) from ⟨by rw [U7];lia,acc'.toList,c',ya8 hacc,by simpa using hS⟩),rfl,q _ (I.hok.fresh (af _))⟩
theorem d7:k9 X (.builtin "isinstance") (λxs H Q=>∃x t c b,xs=[x,.ty c]/\P0 X.K H x t/\W.kitOne X.K t (.type c)=some b/\Q (.bl b) H):=by
 intro pins s σ H xs us Q I r h
 obtain ⟨x,t,c,b,rfl,ty,e,q⟩:=h
 obtain ⟨u,w',rfl,rx,rc⟩:=A4 r
 cases (show w'=Value.type c from rc)
 exact yf6 I rx ty e λtk=>⟨.bl b,H,I.tok tk,rfl,q⟩
theorem D1 {J:It}{fr:List Nat}{te:CT TE}{σ:St}{H1:Hp}{Q:Addr->Hp->Prop}{n:Nat}(ys:List V)(hn:ys.length=n)(hz:n<=sizeLine)
  (hstop:∀H,z9 H1 H->J.stop n H) (hgo:∀i H,i<n->z9 H1 H->J.go i H)
  (turn:∀i H x H2,i<n->z9 H1 H->J.yld i H x H2->H2=H/\∀C₀ s₀ H₀ fp,te C₀ s₀ H₀ fp (some x::fr.map λj=>(σ[j]?).getD none) H λy H4=>z9 H H4/\ys[i]?=some y)
  (fin:∀D H,H1 D=none->z9 H1 H->H D=some (.lst ys)->Q D H) :
  ∀D,H1 D=none->∃W:Nat->Nat->St->Hp->Prop,(∃m,W 0 m (Q7 1 fr σ) (upd H1 D (.lst [])))/\∀i m σ' H',W i m σ' H' ->
  (J.stop i H'/\Q D H')∨(J.go i H'/\∀x H2,J.yld i H' x H2->∀C₀ s₀ H₀ fp,Y1 0 x σ' H2 λσ3 H3=>∃N:VK,te C₀ s₀ H₀ fp σ3 H3 N/\∀y H4,N y H4 ->
   ∃ys m',H4 D=some (.lst ys)/\ys.length<sizeLine/\m'<m/\W (i+1) m' σ3 (upd H4 D (.lst (ys++[y])))):=by
 intro D hD
 have s0:∀o,z9 H1 (upd H1 D o):=λo b u e=>by rw [u9 (u8 e hD)];exact e
 refine ⟨λi m σ' H'=>m=n-i/\i<=n/\z9 H1 H'/\H' D=some (.lst (ys.take i))/\∃z,σ'=z::fr.map λj=>(σ[j]?).getD none,⟨n,rfl,ax _,s0 _,by rw [z5];rfl,none,rfl⟩,?_⟩
 rintro i m σ' H' ⟨rfl,hi,sm,hl,z,rfl⟩
 by_cases hlt:i<n
 ·refine .inr ⟨hgo i H' hlt sm,λx H2 y C₀ s₀ H₀ fp=>?_⟩
  obtain ⟨e,q⟩:=turn i H' x H2 hlt sm y
  subst e
  refine ⟨_,q C₀ s₀ H₀ fp,λy H4 ⟨s4,e4⟩=>⟨ys.take i,n-(i+1),s4 _ _ hl,?_,by lia,rfl,hlt,?_,?_,_,rfl⟩⟩
  ·rw [aP];lia
  ·intro b u e
   rw [u9 (u8 e hD)]
   exact s4 _ _ (sm _ _ e)
  ·rw [z5,bT,e4]
   rfl
 ·have e:i=n:=by lia
  subst e
  refine .inl ⟨hstop H' sm,fin D H' hD sm ?_⟩
  rw [hl,aV (by lia)]
theorem z9.seqT {K:W.Frag}{H H':Hp}{a:Addr}{xs:List V}(e:z9 H H')(h:SqT K H a xs):SqT K H' a xs:=by
 rcases h with (h|⟨o,h⟩)|h
 ·exact .inl (.inl (e _ _ h))
 ·exact .inl (.inr ⟨o,e _ _ h⟩)
 ·exact .inr h
theorem zb8 {K:PySem.W.Frag}{a:Addr}{xs:List V}{fr:List Nat}{te:CT TE}{σ:St}{H1:Hp}{Q:Addr->Hp->Prop}(hS:SqT K H1 a xs)(ys:List V)(hn:ys.length=xs.length)(hz:xs.length<=sizeLine)
  (turn:∀(i:Nat) H x,xs[i]?=some x->z9 H1 H->∀C₀ s₀ H₀ fp,te C₀ s₀ H₀ fp (some x::fr.map λj=>(σ[j]?).getD none) H λy H4=>z9 H H4/\ys[i]?=some y)
  (fin:∀D H,H1 D=none->z9 H1 H->H D=some (.lst ys)->Q D H) :
  ∀D,H1 D=none->∃W:Nat->Nat->St->Hp->Prop,(∃m,W 0 m (Q7 1 fr σ) (upd H1 D (.lst [])))/\∀i m σ' H',W i m σ' H' ->
  ((Itt K a).stop i H'/\Q D H')∨((Itt K a).go i H'/\∀x H2,(Itt K a).yld i H' x H2->∀C₀ s₀ H₀ fp,Y1 0 x σ' H2 λσ3 H3=>∃N:VK,te C₀ s₀ H₀ fp σ3 H3 N/\∀y H4,N y H4 ->
   ∃ys m',H4 D=some (.lst ys)/\ys.length<sizeLine/\m'<m/\W (i+1) m' σ3 (upd H4 D (.lst (ys++[y])))) :=
 D1 ys hn hz (λH s=>⟨xs,s.seqT hS,af _⟩) (λi H hi s=>⟨xs,xs[i],s.seqT hS,by simp [hi]⟩) (λi H x H2 hi s y=>⟨y.1,turn i H x (y.2 xs (s.seqT hS)) s⟩) fin
theorem ye8 {K:PySem.W.Frag}{a:Addr}{xs:List V}{fr:List Nat}{te:CT TE}{σ:St}{H1:Hp}{Q:Addr->Hp->Prop}(hS:SqL K H1 a xs)(ys:List V)(hn:ys.length=xs.length)(hz:xs.length<=sizeLine)
  (turn:∀(i:Nat) H x,xs[i]?=some x->z9 H1 H->∀C₀ s₀ H₀ fp,te C₀ s₀ H₀ fp (some x::fr.map λj=>(σ[j]?).getD none) H λy H4=>z9 H H4/\ys[i]?=some y)
  (fin:∀D H,H1 D=none->z9 H1 H->H D=some (.lst ys)->Q D H) :
  ∀D,H1 D=none->∃W:Nat->Nat->St->Hp->Prop,(∃m,W 0 m (Q7 1 fr σ) (upd H1 D (.lst [])))/\∀i m σ' H',W i m σ' H' ->
  ((Itl K a).stop i H'/\Q D H')∨((Itl K a).go i H'/\∀x H2,(Itl K a).yld i H' x H2->∀C₀ s₀ H₀ fp,Y1 0 x σ' H2 λσ3 H3=>∃N:VK,te C₀ s₀ H₀ fp σ3 H3 N/\∀y H4,N y H4 ->
   ∃ys m',H4 D=some (.lst ys)/\ys.length<sizeLine/\m'<m/\W (i+1) m' σ3 (upd H4 D (.lst (ys++[y])))) :=
 D1 ys hn hz (λH s=>⟨xs,s.seq hS,af _⟩) (λi H hi s=>⟨xs,xs[i],s.seq hS,by simp [hi]⟩) (λi H x H2 hi s y=>⟨y.1,turn i H x (y.2 xs (s.seq hS)) s⟩) fin
end
end L2
namespace PySem
open Sem (wp)
open AutoSeq1 (wpAny_loadPart')
section
variable {prog:Program}{w:World}{A:Around}{E:Value->Shared->Prop}{s:Shared}
end
section
variable {prog:Program}{w:World}{A:Around}{E:Value->Shared->Prop}{s:Shared}
end
end PySem
namespace L2
open PySem PySem.Spec PyProof.Rows
section
variable {X:Cx}
end
section
variable {X:Cx}
end
section
variable {X:Cx}
theorem zk9:k9 X (.builtin "sorted") (λxs H Q=>∃(p:Addr) (ns:List Int),xs=[.ref p]/\SqL X.K H p (ns.map V.int)/\ns.length<64/\∀(l:Addr) (ms:List Int),H l=none->ms.Perm ns->ms.Pairwise (·<=·)->Q (.ref l) (upd H l (.lst (ms.map V.int)))):=by
 intro pins s σ H xs us Q I r h
 obtain ⟨p,ns,rfl,hq,h64,q⟩:=h
 obtain ⟨u,rfl,rx⟩:=X8 r
 cases rx
 obtain ⟨its,r1,p1,hz⟩:=I.list hq
 have l1:=r1.length
 rw [aa] at l1 hz
 refine sorted_ints p1.isList (W7 r1) (by lia) λout ms a1 a2 a3=>?_
 obtain ⟨e,he⟩:=sortedAll_at s.heap its out
 have hl:=a2.length_eq
 refine ⟨.ref (s.heap.objs.size+1),_,I.laid (t':=s.toks) (λb o z=>sortedAll_old z) (bS _) (show p4 X.prog X.w _ _ _ (.lst (ms.map V.int)) from ⟨by rw [aa];lia,out.toList,e,N8 a1,by simpa using he⟩),rfl,q _ ms (I.hok.fresh (bS _)) a2 a3⟩
end
section
variable {X:Cx}
theorem yt5:OpR X (binaryOp .Add) (λx y H Q=>∃(l b:Addr) (xs zs:List V),x=.ref l/\y=.ref b/\SqL X.K H l xs/\SqL X.K H b zs/\xs.length+zs.length<=sizeLine/\∀p,H p=none->Q (.ref p) (upd H p (.lst (xs++zs)))):=by
 intro pins s σ H x y v u Q I rx ry h
 obtain ⟨l,b,xs,zs,rfl,rfl,hH,hB,hz,q⟩:=h
 cases rx
 cases ry
 obtain ⟨its,r,p1,_⟩:=I.list hH
 obtain ⟨its2,r2,p2,_⟩:=I.list hB
 obtain ⟨⟨cls,dd,data,sl⟩,n,ho,hc,_,hd⟩:=p1
 obtain ⟨⟨cls2,dd2,data2,sl2⟩,n2,ho2,hc2,_,hd2⟩:=p2
 simp only at hc hd hc2 hd2
 subst hc hd hc2 hd2
 have l1:=r.length
 have l2:=r2.length
 have e:its.toArray++its2.toArray=(its++its2).toArray:=by simp
 refine concat_meets ⟨_,ho,rfl⟩ ⟨_,ho2,rfl⟩ noFill_list_add seq_list_add PySem.F.slot_list_add PySem.F.entry_list_add (PySem.F.args_list_add_2 _ _) (list_addW l b its.toArray its2.toArray n n2 dd dd2 sl sl2 (by simp only [ao];lia)) ⟨ho,ho2,?_⟩
 rw [e]
 exact ⟨.ref _,_,I.lnew (t':=s.toks) (r.append r2) (by rw [al];lia),rfl,q _ I.fresh⟩
end
section
variable {X:Cx}
end
end L2
namespace L2
open PySem PySem.Spec PyProof.Rows PyProof.Rows.LSm
mutual
inductive RdD (K:W.Frag) (H:Hp):V->PyData->Prop
 | non:RdD K H .non .none
 | bl (b:Bool):RdD K H (.bl b) (.bool b)
 | int (i:Int):RdD K H (.int i) (.int i)
 | str (x:Str):RdD K H (.str x) (.str x)
 | lst {a:Addr} {xs:List V} {ds:List PyData}:SqL K H a xs->L8 K H xs ds->RdD K H (.ref a) (.list ds)
 | tup {a:Addr} {xs:List V} {ds:List PyData}:SqT K H a xs->L8 K H xs ds->RdD K H (.ref a) (.tuple ds)
inductive L8 (K:W.Frag) (H:Hp):List V->List PyData->Prop
 | nil:L8 K H [] []
 | cons {x:V} {d:PyData} {xs:List V} {ds:List PyData}:RdD K H x d->L8 K H xs ds->L8 K H (x::xs) (d::ds)
end
theorem L8.ints {K:W.Frag}{H:Hp}:∀(ns:List Int),L8 K H (ns.map V.int) (ns.map PyData.int)
 | []=>.nil
 | n::r=>.cons (.int n) (L8.ints r)
section
variable {X:Cx}{pins:List (Addr×Obj)}{σ:St}{H:Hp}{s:Shared}
mutual
theorem RdD.reads (I:Inv X pins σ H s):∀{x:V} {d:PyData},RdD X.K H x d->∀u,o6 x u->∃as,Reads s.heap u d as
 | _,_,.non,u,r=>by cases (show u=Value.none from r);exact ⟨_,.none⟩
 | _,_,.bl b,u,r=>by cases (show u=Value.bool b from r);exact ⟨_,.bool b⟩
 | _,_,.int i,u,r=>by obtain ⟨t,rfl⟩:=(show ∃t,u=Value.int i t from r);exact ⟨_,.int i t⟩
 | _,_,.str x,u,r=>by obtain ⟨t,rfl⟩:=(show ∃t,u=Value.str x t from r);exact ⟨_,.str x t⟩
 | _,_,.lst h hs,u,r=>by
  cases (show u=Value.ref _ from r)
  obtain ⟨its,rv,p,_⟩:=I.list h
  obtain ⟨o,ho,hc,n,hd⟩:=p.isList
  obtain ⟨as,ha⟩:=L8.reads I hs its rv
  exact ⟨_,.list ho hc hd (by simpa using ha)⟩
 | _,_,.tup h hs,u,r=>by
  cases (show u=Value.ref _ from r)
  obtain ⟨its,rv,p,_⟩:=I.tuple h
  obtain ⟨o,ho,hc,n,hd⟩:=p
  obtain ⟨as,ha⟩:=L8.reads I hs its rv
  exact ⟨_,.tuple ho hc hd (by simpa using ha)⟩
theorem L8.reads (I:Inv X pins σ H s):∀{xs:List V} {ds:List PyData},L8 X.K H xs ds->∀us,t9 xs us->∃as,ReadsAll s.heap us ds as
 | _,_,.nil,us,r=>by cases r;exact ⟨_,.nil⟩
 | _,_,.cons h hs,us,r=>by
  cases r with
  | cons r1 r2 =>
   obtain ⟨as,ha⟩:=RdD.reads I h _ r1
   obtain ⟨bs,hb⟩:=L8.reads I hs _ r2
   exact ⟨_,.cons ha hb⟩
end
end
section
variable {X:Cx}
theorem yz9 (hu:X.A.units+64<cLine):OpR X (compareOp .Eq) (λx y H Q=>∃d e,RdD X.K H x d/\RdD X.K H y e/\PySem.SeqAt.shaped d=true/\PySem.SeqAt.shaped e=true/\Q (.bl (PyData.eqv d e)) H):=by
 intro pins s σ H x y v u Q I rx ry h
 obtain ⟨d,e,hd,he,s1,s2,q⟩:=h
 obtain ⟨as,ra⟩:=hd.reads I v rx
 obtain ⟨bs,rb⟩:=he.reads I u ry
 exact eq_dataH ra rb s1 s2 hu ⟨.bl _,H,I,rfl,q⟩
theorem B2:∀{bs:List Bool} {us:List Value},t9 (bs.map V.bl) us->BoolsAre us bs
 | [],_,r=>by cases r;exact .nil
 | b::bs,_,r=>by
  cases r with
  | cons a c =>
   cases (show _=Value.bool b from a)
   exact .cons b (B2 c)
theorem E7 (hc:X.calm=true):k9 X (.builtin "all") (λxs H Q=>∃(p:Addr) (bs:List Bool),xs=[.ref p]/\SqL X.K H p (bs.map V.bl)/\Q (.bl (bs.all id)) H):=by
 intro pins s σ H xs us Q I r h
 obtain ⟨p,bs,rfl,hq,q⟩:=h
 obtain ⟨u,rfl,rx⟩:=X8 r
 cases rx
 obtain ⟨its,r1,p1,hz⟩:=I.list hq
 obtain ⟨m,F⟩:=I.fr
 have hb:=B2 r1
 have hl:=p1.isList
 have hlt:p<s.heap.objs.size:=by obtain ⟨_,e,_⟩:=hl;exact ai e
 refine call_all_walk (wpAny_pyIter_list hl ?_)
 refine ⟨s.heap.objs.size,[s.heap.objs.size,p],[s.heap.objs.size],its.toArray.size,_,_,λi=>(bs[i]?).getD true,rfl,Walks.list (A:=X.A.in1) (I.ok.hd hc) _ p (av hlt) its.toArray,
  ⟨⟨_,aq _ rfl,rfl,rfl⟩,hl.push _⟩,λi v s' Q' E' hP hQ=>?_,λh' tk hk=>?_⟩
 ·obtain ⟨b,e,rfl⟩:=hb.get i v (by simpa using hP)
  simp only [e,cn] at hQ
  exact wpAny_truthy_bool hQ
 ·have e:((List.range its.toArray.size).all λi=>(bs[i]?).getD true)=bs.all id:=by
   rw [ao,hb.length];exact range_all bs
  rw [e]
  exact ⟨.bl _,H,I.kept (kept_iter hk),rfl,q⟩
end
end L2
namespace L2
open PySem PySem.Spec PyProof.Rows
section
variable {X:Cx}
def Y9 (ns:List Int):List Int:=firstMet (λi=>ns.getD i 0) ns.length
theorem ye6 (hc:X.calm=true):k9 X (.type "set") (λxs H Q=>∃(p:Addr) (ns:List Int),xs=[.ref p]/\SqL X.K H p (ns.map V.int)/\ns.length<=1000/\∀l,H l=none->Q (.ref l) (upd H l (.set (λk=>(Y9 ns).any (· == k)) (Y9 ns).length))):=by
 intro pins s σ H xs us Q I r h
 obtain ⟨p,ns,rfl,hq,hle,q⟩:=h
 obtain ⟨u,rfl,rx⟩:=X8 r
 cases rx
 obtain ⟨its,r1,p1,hz⟩:=I.list hq
 have l1:its.length=ns.length:=by rw [←r1.length,aa]
 have hsz:its.toArray.size=ns.length:=by rw [ao,l1]
 refine call_set_list (I.ok.hd hc) p1.isList (by simpa using W7 r1) (by rw [hsz];exact bA (show ns.length+1<=1001 by lia) (by decide)) λh' tk hS kp=>?_
 rw [hsz] at hS
 exact ⟨.ref s.heap.objs.size,_,I.laid (t':=tk) (λb o e=>kp b o (ai e) e) (af _) (show p4 X.prog X.w _ h' _ (.set _ _) from hS),rfl,q _ (I.hok.fresh (af _))⟩
theorem M4:k9 X (.builtin "len") (λxs H Q=>∃(p:Addr) (S:Int->Bool) (n:Nat),xs=[.ref p]/\H p=some (.set S n)/\n<=1000000/\Q (.int n) H):=by
 intro pins s σ H xs us Q I r h
 obtain ⟨p,S,n,rfl,hp,hn,q⟩:=h
 obtain ⟨u,rfl,rx⟩:=X8 r
 cases rx
 obtain ⟨o,es,ep,t,ho,hex,hd,_,_,_,hf,hsz⟩:=I.hok p _ hp
 subst hsz
 exact call_len_set ho hex hd hf (by lia) ⟨.int es.size,H,(I.tok _).tok _,⟨_,rfl⟩,q⟩
end
theorem N1:∀(l σ:List Int),((l.foldl step_dedup σ).length=σ.length+l.length↔l.Nodup/\∀x∈l,x∉σ)/\(l.foldl step_dedup σ).length<=σ.length+l.length
 | [],σ=>⟨⟨λ_=>⟨cQ,λx h=>(by cases h)⟩,λ_=>rfl⟩,af _⟩
 | a::r,σ=>by
  rw [cO]
  by_cases hm:a∈σ
  ·have e:step_dedup σ a=σ:=by
    unfold step_dedup
    rw [if_pos (by simpa using hm)]
   rw [e]
   have ih:=N1 r σ
   refine ⟨⟨λh=>?_,λh=>absurd hm (h.2 a ap)⟩,by rw [ag];lia⟩
   have:=ih.2
   rw [ag] at h
   lia
  ·have e:step_dedup σ a=σ++[a]:=by
    unfold step_dedup
    rw [if_neg (by simpa using hm)]
   rw [e]
   have ih:=N1 r (σ++[a])
   rw [al,ag,aO] at ih
   refine ⟨?_,by rw [ag];lia⟩
   rw [ag,show σ.length+(r.length+1)=σ.length+(0+1)+r.length by lia,ih.1,bD]
   constructor
   ·rintro ⟨h1,h2⟩
    refine ⟨⟨λz=>h2 a z (by simp),h1⟩,λx hx=>?_⟩
    rcases aw.mp hx with z|z
    ·rw [z];exact hm
    ·exact λw=>h2 x z (bW _ w)
   ·rintro ⟨⟨h1,h2⟩,h3⟩
    refine ⟨h2,λx hx w=>?_⟩
    rcases bf.mp w with z|z
    ·exact h3 x (aj _ hx) z
    ·have:x=a:=by simpa using z
     exact h1 (this ▸ hx)
theorem zb9 {ns:List Int}:(Y9 ns).length=ns.length↔ns.Nodup:=by
 have e:(List.range ns.length).map (λi=>ns.getD i 0)=ns:=by
  apply cm
  intro i
  rw [au]
  by_cases hi:i<ns.length
  ·rw [bE hi]
   simp [ah hi]
  ·rw [bB (by rw [aS];lia),bB (by lia)]
   rfl
 unfold Y9 firstMet
 rw [e]
 have:=(N1 ns []).1
 rw [aO,br] at this
 rw [this]
 exact ⟨λh=>h.1,λh=>⟨h,λx _ z=>(by cases z)⟩⟩
section
variable {X:Cx}{tg:Expr}
end
section
variable {X:Cx}
end
def CX1 (P:Program)(w:World):CXT:=λouter H s E e s'=>∃(ea C:Addr) (a0:Value) (B:Heap) (H':Hp),e=.ref ea/\s'.os=s.os/\AllBare s'.gens/\HOk P w H' B/\Heap.FlyingW B outer ea (.ref C) a0 s'.heap /\
 (∀b o,s.heap.get? b=some o->H b=none->b∉frs outer->B.get? b=some o) /\
 (∀b o,s.heap.get? b=some o->H b=none->b∈frs outer->∃sl,s'.heap.get? b=some { o with slots:=sl }) /\
 (∀b o,s.heap.get? b=some o->H b=none->H' b=none) /\
 (∀b o,s.heap.get? b=some o->b∈frs outer∨∃o',B.get? b=some o') /\
 (∀b xs,H b=some (.tup xs)->H' b=some (.tup xs))/\(∀b o u,H b=some (.frz o u)->H' b=some (.frz o u)) /\
 (∀b ps,H b=some (.tbl ps)->∃more,H' b=some (.tbl (ps++more)))/\E (.ref C) none H'
theorem zr2 {P:Program}{w:World}{H:Hp}{h:Heap}{fs:List Addr}(x:HOk P w H h)(hf:∀b∈fs,H b=none):HOk P w H (W.hideAll h fs):=λa o e =>
 (x a o e).stay (λb u hb q=>W.hideAll_get _ q λhm=>by
  have hn:=hf b hm
  rcases hb with rfl|hb
  ·rw [e] at hn;cases hn
  ·rw [hb] at hn;cases hn) (λ_ q=>q) λ_ _ q=>q
section
variable {P:Program}{w:World}{K:W.Frag}{mg:Str->Option Value}{base:Heap}{N:List Str}{qual:Str}{scope:Scope}{f:Addr}{cd:Value}{A:Around}{outer:List Env}{s s1:Shared}{H H1:Hp}{E:XK}{pins:List (Addr×Obj)}{σ:St}
theorem zy0 {C e:Addr}{h':Heap}{args:List Value}(I:Inv (X3 (CX1 P w) P w K mg base N qual scope f cd A outer s H E) pins σ H1 s1)(hx:Heap.MadeExcOf s1.heap h' e (.ref C) args)(hE:E (.ref C) none H1) :
  (X3 (CX1 P w) P w K mg base N qual scope f cd A outer s H E).xe (.ref e) { s1 with heap:=h' }:=by
 have hst:=I.stack
 have hfree:=I.stkFree
 refine wpAny_leaves_madeW (base:=W.hideAll s1.heap (frs (envOfC qual scope s.heap.objs.size f cd::outer))) (h:=s1.heap) I.ok.frames rfl (λb o q=>W.of_hideAll _ q) (W.funFrames_hide hst λenv he a ha=>aC.mpr ⟨env,he,ha⟩) hx λh'' t x1 x2 x3 x4=>?_
 have notL:∀b o,s.heap.get? b=some o->b∉frs outer->b∉frs (envOfC qual scope s.heap.objs.size f cd::outer):=λb o hb hn hm=>by
  obtain ⟨env,he,ha⟩:=aC.mp hm
  rcases aw.mp he with rfl|he
  ·have e1:s.heap.objs.size=b:=Option.some.inj ha
   exact absurd (ai hb) (by rw [e1];exact aF _)
  ·exact hn (aC.mpr ⟨env,he,ha⟩)
 refine ⟨e,C,.ref t,_,H1,rfl,I.os,I.bare,zr2 I.hok hfree,x1,λb o hb hn hf=>?_,λb o hb hn hf=>?_,λb o hb hn=>?_,λb o hb=>?_,I.base.tups,I.base.frzs,I.base.tbls,hE⟩
 ·exact W.hideAll_get _ (I.base.keep b o hb hn hf (by intro z;cases z)) (notL b o hb hf)
 ·obtain ⟨sl,q⟩:=I.base.slot b o hb hn hf (by intro z;cases z)
  obtain ⟨_,o2,ho2,hd⟩:=I.funs.mem hf
  have e2:o2={ o with slots:=sl }:=Option.some.inj (ho2.symm.trans q)
  subst e2
  obtain ⟨sl',q'⟩:=x4 b _ (hx.keeps _ _ q) hd
  exact ⟨sl',q'⟩
 ·exact I.base.free b o hb hn (by intro z;cases z)
 ·by_cases hf:b∈frs outer
  ·exact .inl hf
  ·obtain ⟨o',q⟩:=I.base.there b o hb (by intro z;cases z)
   exact .inr ⟨o',W.hideAll_get _ q (notL b o hb hf)⟩
theorem yl5 {e:Value}{s2:Shared}{E1:XK}(I:Inv (X3 (CX1 P w) P w K mg base N qual scope f cd A outer s H E) pins σ H1 s1)(hx:CX1 P w (X3 (CX1 P w) P w K mg base N qual scope f cd A outer s H E).stack H1 s1 E1 e s2)(hE:∀C a H',E1 C a H'->E C a H') :
  (X3 (CX1 P w) P w K mg base N qual scope f cd A outer s H E).xe e s2:=by
 obtain ⟨ea,C,a0,B,H',rfl,hos,hbare,hok,hfl,k1,k2,k3,k4,k5,k6,k7,hE1⟩:=hx
 refine wpAny_leaves_onW I.ok.frames rfl hfl λh'' x1 x2=>?_
 have inB:∀b o,s.heap.get? b=some o->H b=none->b∉frs outer->B.get? b=some o:=λb o hb hn hf=>by
  have q:=I.base.keep b o hb hn hf (by intro z;cases z)
  refine k1 b o q (I.base.free b o hb hn (by intro z;cases z)) λhm=>?_
  obtain ⟨env,he,ha⟩:=aC.mp hm
  rcases aw.mp he with rfl|he
  ·have e1:s.heap.objs.size=b:=Option.some.inj ha
   exact absurd (ai hb) (by rw [e1];exact aF _)
  ·exact hf (aC.mpr ⟨env,he,ha⟩)
 have sub:∀b,b∈frs outer->b∈frs (envOfC qual scope s.heap.objs.size f cd::outer):=λb hb=>by
  obtain ⟨env,he,ha⟩:=aC.mp hb
  exact aC.mpr ⟨env,aj _ he,ha⟩
 refine ⟨ea,C,a0,B,H',rfl,hos.trans I.os,hbare,hok,x1,inB,λb o hb hn hf=>?_,λb o hb hn=>?_,λb o hb=>?_,λb xs q=>k5 b xs (I.base.tups b xs q),λb o u q=>k6 b o u (I.base.frzs b o u q),λb ps q=>?_,hE _ _ _ hE1⟩
 ·obtain ⟨sl,q⟩:=I.base.slot b o hb hn hf (by intro z;cases z)
  have hn1:=I.base.free b o hb hn (by intro z;cases z)
  obtain ⟨sl2,q2⟩:=k2 b _ q hn1 (sub b hf)
  obtain ⟨_,o2,ho2,hd⟩:=I.funs.mem hf
  have e2:o2={ o with slots:=sl }:=Option.some.inj (ho2.symm.trans q)
  subst e2
  obtain ⟨sl',q'⟩:=x2 b _ q2 hd
  exact ⟨sl',q'⟩
 ·obtain ⟨o',q⟩:=I.base.there b o hb (by intro z;cases z)
  exact k3 b o' q (I.base.free b o hb hn (by intro z;cases z))
 ·by_cases hf:b∈frs outer
  ·exact .inl hf
  ·obtain ⟨o',q⟩:=I.base.there b o hb (by intro z;cases z)
   rcases k4 b o' q with hm|hm
   ·obtain ⟨env,he,ha⟩:=aC.mp hm
    rcases aw.mp he with rfl|he
    ·have e1:s.heap.objs.size=b:=Option.some.inj ha
     exact absurd (ai hb) (by rw [e1];exact aF _)
    ·exact absurd (aC.mpr ⟨env,he,ha⟩) hf
   ·exact .inr hm
 ·obtain ⟨m1,q1⟩:=I.base.tbls b ps q
  obtain ⟨m2,q2⟩:=k7 b _ q1
  exact ⟨m1++m2,by rw [q2,cE]⟩
end
section
variable {prog:Program}{w:World}{A:Around}{s:Shared}
end
section
variable {X:Cx}{own:Nat}{fr:List Nat}{N':List Str}{tg iter elt ce:Expr}{scope:Scope}{pos:Pos}{wi:TI}{g:CT TG}{te:CT TE}{tt:CT TT}
end
section
variable {X:Cx}
end
abbrev bmV:List Value:=[.type "ValueError",.type "Exception",.type "BaseException",.type "object"]
structure L9 (K:W.Frag) (C:Addr) (tl:List Value) (newId:String):Prop where
 obj:∃nm qn N bs hdct sn sub ab col dd k0 k1 k2 k3 k5 oN,K.lookup C=some (excClassObj nm qn C N bs tl hdct sn sub ab col dd k0 k1 k2 k3 k5 newId)/\K.lookup N=some oN/\W.nsOkIn K N=true/\W.nsIn K N "__init__"=some none
 tail:W.tailIn K bmV tl=true
theorem L9.mk' {K:W.Frag}{C:Addr}{tl:List Value}{newId:String}{nm qn:Str}{N:Addr}{bs:List Value}{hdct:Bool}{sn:List Str}{sub:List Value}{ab:Bool}{col:Option Bool}{dd:Option Addr}{k0 k1 k2 k3 k5:Option Value}{oN:Obj}
  (l:K.lookup C=some (excClassObj nm qn C N bs tl hdct sn sub ab col dd k0 k1 k2 k3 k5 newId)) (n:K.lookup N=some oN) (o:W.nsOkIn K N=true) (i:W.nsIn K N "__init__"=some none) (t:W.tailIn K bmV tl=true):L9 K C tl newId :=
 ⟨⟨nm,qn,N,bs,hdct,sn,sub,ab,col,dd,k0,k1,k2,k3,k5,oN,l,n,o,i⟩,t⟩
theorem xg8 {K:W.Frag}{C:Addr}{tl:List Value}{newId:String}(x:L9 K C tl newId):∃nm qn N bs hdct sn sub ab col dd k0 k1 k2 k3 k5 oN,
  K.lookup C=some (excClassObj nm qn C N bs tl hdct sn sub ab col dd k0 k1 k2 k3 k5 newId)/\K.lookup N=some oN/\∀h,K.In h->(∃mN,h.Ns N mN/\mN "__init__"=none)/\OwnTail h bmV tl:=by
 obtain ⟨⟨nm,qn,N,bs,hdct,sn,sub,ab,col,dd,k0,k1,k2,k3,k5,oN,l,n,o,i⟩,t⟩:=x
 exact ⟨nm,qn,N,bs,hdct,sn,sub,ab,col,dd,k0,k1,k2,k3,k5,oN,l,n,λh X=>⟨⟨_,.of_isNs (W.isNs_of_in X o),W.nsMap_none_of_in X o i⟩,W.tail_of_in X t⟩⟩
theorem yt1 {h h':Heap}{N:Addr}{o:Obj}{m:Str->Option Value}(e:h.get? N=some o)(e':h'.get? N=some o)(n:h.Ns N m):h'.Ns N m:=by
 obtain ⟨o1,es,ep,ho,r⟩:=n
 rw [e] at ho
 cases ho
 exact ⟨o,es,ep,e',r⟩
theorem OwnTail.base_in {h:Heap}{tl:List Value}(T:OwnTail h bmV tl):tl.contains (.type "BaseException")=true:=T.hasType (by decide)
def E5 (ea C:Addr):HO:=.ext λh=>∃o,h.get? ea=some o/\o.cls=.ref C
section
variable {P:Program}{w:World}{K:W.Frag}{mg:Str->Option Value}{base:Heap}{N:List Str}{qual:Str}{scope:Scope}{f:Addr}{cd:Value}{A:Around}{outer:List Env}{s0:Shared}{H0:Hp}{E:XK}
theorem V0 {x:Str}{C:Addr}{tl:List Value}{Bn newId inN:String}{bmN:List Value}{e:Expr}{es:List Expr}{t:TA}{np cpos pos:Pos}(hm:mg x=some (.ref C))(hx:L9 K C tl newId)(Fn:ExcBaseFacts Bn newId inN bmN)(hBn:bmV.contains (.type Bn)=true)
  (hg:Gl (X3 (CX1 P w) P w K mg base N qual scope f cd A outer s0 H0 E) x) (ha:PA (X3 (CX1 P w) P w K mg base N qual scope f cd A outer s0 H0 E) (e::es) t)
  (hd:(x==("__debug__":Str))=false:=by decide) (he:starEach (e::es) (envOfC qual scope s0.heap.objs.size f cd)=(false,eval e (envOfC qual scope s0.heap.objs.size f cd))::starEach es (envOfC qual scope s0.heap.objs.size f cd):=by rfl)
  (hpl:(backTo cpos (starEach es (envOfC qual scope s0.heap.objs.size f cd))).any (·.1)=false:=by rfl) :
  PS (X3 (CX1 P w) P w K mg base N qual scope f cd A outer s0 H0 E) (.Raise (some (.Call (.Name x np) (e::es) [] cpos)) none pos) (λD σ H1=>t σ H1 λvs H2=>vs.length<=1000/\E (.ref C) none H2):=by
 intro pins s σ H D I h
 obtain ⟨nm,qn,Na,bs,hdct,sn,sub,ab,col,dd,k0,k1,k2,k3,k5,oN,lC,lN,all⟩:=xg8 hx
 obtain ⟨⟨mN,hN,hni⟩,T⟩:=all _ I.kIn
 refine wpAny_Raise_call_subU (C:=C) (nm:=nm) (q:=qn) (N:=Na) (bs:=bs) (bm:=tl) (hdct:=hdct) (sn:=sn) (sub:=sub) (ab:=ab) (col:=col) (dd:=dd) (k0:=k0) (k1:=k1) (k2:=k2) (k3:=k3) (k5:=k5)
  Fn hBn PySem.F.excBase_ValueError (mN:=mN) (OwnTail.base_in T) (I.ok.hd rfl) ?_ hni (N4 I hg hm ⟨rfl,?_⟩ hd)
 ·show (backTo cpos (starEach (e::es) (envOfC qual scope s0.heap.objs.size f cd))).any (·.1)=false
  rw [he]
  show (false || (backTo cpos (starEach es (envOfC qual scope s0.heap.objs.size f cd))).any (·.1))=false
  rw [hpl]
  rfl
 have hA:=ha cpos pins s σ H _ I h
 show wpAny _ _ (evalArgs (.ref C) true (backTo cpos (starEach (e::es) (envOfC qual scope s0.heap.objs.size f cd))) []) _ _ s
 have hA':wpAny (model P w) (X3 (CX1 P w) P w K mg base N qual scope f cd A outer s0 H0 E).A (spliced (backTo cpos (starEach (e::es) (envOfC qual scope s0.heap.objs.size f cd)))) _ _ s:=hA
 rw [he] at hA' ⊢
 refine Calls.evalArgs_plain (thn hA' λus s2 ⟨vs,H2,I2,r,q1,q2⟩=>?_)
 refine ⟨rfl,?_,I2.kIn _ _ lC,yt1 (I.kIn _ _ lN) (I2.kIn _ _ lN) hN,(all _ I2.kIn).2,λh' ex hx=>zy0 I2 hx q2⟩
 rw [←r.length]
 exact aB q1 (by decide)
theorem Fun.okX {x qual:Str}{st:Stmt}{f:Addr}{fd:FuncData}{N ps:List Str}{k:Nat}{sp:Sp}(F:Fun K x qual st f fd)(S:v9 N ps (y0 st))(len:∀vs H Q E,sp vs H Q E->vs.length=ps.length)
  (hbody:∀(cdv:Value) (A:Around) (outer:List Env) (s:Shared) (H:Hp) (vs:List V) (Q:VK) (E:XK),Z2 k (A.deeper (envOfC qual (y0 st) s.heap.objs.size f cdv))->sp vs H Q E ->
   ∃t,PSs (X3 (CX1 P w) P w K mg base N qual (y0 st) f cdv A outer s H E) (Z4 st) t/\t { nx:=λ_ H'=>Q .non H',rt:=Q } (start N vs) H):r8 P w K mg base (CX1 P w) (k+1) f fd ps sp:=by
 obtain ⟨oc,od,kV,doc,pm,an,cdv,ct,osl,rfl,lk,hcd⟩:=F.ex
 refine yw0 lk hcd S len λA outer s H vs Q E hr hsp=>?_
 obtain ⟨t,h,q⟩:=hbody cdv A outer s H vs Q E hr hsp
 exact ⟨t,h,q⟩
end
theorem p4.there {P:Program}{w:World}{H:Hp}{h:Heap}{a:Addr}{o:HO}(x:p4 P w H h a o):∃ob,h.get? a=some ob:=by
 cases o with
 | lst xs=>obtain ⟨_,_,_,_,e⟩:=x;exact ⟨_,e⟩
 | tup xs=>obtain ⟨_,_,_,o,e,_⟩:=x;exact ⟨_,e⟩
 | dK kvs=>obtain ⟨_,_,_,_,o,_,_,e,_⟩:=x;exact ⟨_,e⟩
 | dT kvs=>obtain ⟨_,_,_,_,o,_,_,e,_⟩:=x;exact ⟨_,e⟩
 | set S n=>obtain ⟨o,_,_,_,e,_⟩:=x;exact ⟨_,e⟩
 | ins C dx fs=>obtain ⟨_,_,_,e,_⟩:=x;exact ⟨_,e⟩
 | own y=>obtain ⟨_,e⟩:=x;exact ⟨_,e⟩
 | xd fs=>obtain ⟨_,⟨_,_,_,e,_⟩,_⟩:=x;exact ⟨_,e⟩
 | rng lo hi=>obtain ⟨_,_,_,e⟩:=x;exact ⟨_,e⟩
 | frz ob u=>obtain ⟨e,_⟩:=x;exact ⟨_,e⟩
 | tbl ps=>exact ⟨_,(show h.get? a=some _ from x)⟩
 | met f y=>exact ⟨_,(show h.get? a=some _ from x)⟩
 | ext φ=>obtain ⟨_,⟨_,e⟩,_⟩:=x;exact ⟨_,e⟩
theorem HOk.track {P:Program}{w:World}{H:Hp}{h:Heap}{a:Addr}{o:HO}(x:HOk P w H h)(hn:H a=none)(new:p4 P w (upd H a o) h a o):HOk P w (upd H a o) h:=λb u e=>by
 by_cases hb:b=a
 ·subst hb;rw [z5] at e;cases e;exact new
 ·rw [u9 hb] at e
  exact (x b u e).stay (λc v _ q=>q) (λc q=>by rw [u9 (u8 q hn)];exact q) λc xs q=>by rw [u9 (u8 q hn)];exact q
def Cgt (X:Cx)(pins:List (Addr×Obj))(σ:St)(H:Hp)(ea C:Addr)(s:Shared):Prop :=
 ∃(B:Heap) (a0:Value),Heap.FlyingW B X.stack ea (.ref C) a0 s.heap/\H ea=some (E5 ea C)/\∀(h:Heap) (tk:Nat),Heap.FlyingW B X.stack ea (.ref C) a0 h->s.heap.UpToSlots h->Inv X pins σ H { s with heap:=h,toks:=tk }
theorem Cgt.inv {X:Cx}{pins:List (Addr×Obj)}{σ:St}{H:Hp}{ea C:Addr}{s:Shared}(x:Cgt X pins σ H ea C s):Inv X pins σ H s:=by
 obtain ⟨B,a0,f,e,all⟩:=x
 exact all s.heap s.toks f (Heap.UpToSlots.refl _)
theorem yi5 {X:Cx}{pins:List (Addr×Obj)}{σ:St}{H:Hp}{s s':Shared}{E:XK}{e:Value}{Q:Flow->Shared->Prop}{E':Value->Shared->Prop}{hs:List ExceptHandler}(I:Inv X pins σ H s)(hst:X.stack=X.env::X.outer)(hfr:X.env.frame=some X.env.locals)
  (hx:CX1 X.prog X.w X.stack H s E e s')
  (h:∀ea C H' s2,e=.ref ea->Cgt X pins σ (upd H' ea (E5 ea C)) ea C s2->H' ea=none->E (.ref C) none H'->wpAny (model X.prog X.w) X.A (handleBy (.ref ea) X.env hs) Q E' s2) :
  wpAny (model X.prog X.w) X.A (noteFrame e X.env) (λ_ s2=>wpAny (model X.prog X.w) X.A (setFlight e none) (λ_ s3=>wpAny (model X.prog X.w) X.A (handleBy e X.env hs) Q E' s3) E' s2) E' s':=by
 obtain ⟨ea,C,a0,B,H',rfl,hos,hbare,hok,hfl,k1,k2,k3,k4,k5,k6,k7,hE⟩:=hx
 have hen:H' ea=none:=by
  cases q:H' ea with
  | none=>rfl
  | some o =>
   obtain ⟨ob,z⟩:=p4.there (hok ea o q)
   rw [hfl.2.1] at z
   cases z
 have hfl0:=hfl
 rw [hst] at hfl
 refine wpAny_looks_onW (hst ▸ I.ok.frames) hfr hfl λh1 held u1=>?_
 refine wpAny_landsW held λh2 fl2 u2=>?_
 have u12:s'.heap.UpToSlots h2:=u1.trans u2
 rw [←hst] at fl2
 refine h ea C H' _ rfl ⟨B,a0,fl2,z5,λhh tk flh uh=>?_⟩ hen hE
 have u3:s'.heap.UpToSlots hh:=u12.trans uh
 have nea:∀b o,s.heap.get? b=some o->b≠ea:=λb o hb z=>by
  subst z
  rcases k4 b o hb with hm|⟨o',q⟩
  ·obtain ⟨_,o2,ho2,hd⟩:=hfl0.2.2.1.mem hm
   obtain ⟨oe,vs,he,_,hde,_⟩:=hfl0.first
   rw [he] at ho2
   cases ho2
   exact hd vs hde
  ·rw [hfl0.2.1] at q
   cases q
 obtain ⟨oe,vs,he,hc,hde,_⟩:=flh.first
 have k2':∀b o,s.heap.get? b=some o->H b=none->b∈frs X.stack->∃sl,hh.get? b=some { o with slots:=sl }:=λb o q n hf=>by
  obtain ⟨sl,q1⟩:=k2 b o q n hf
  obtain ⟨_,o2,ho2,hd⟩:=hfl0.2.2.1.mem hf
  have e2:o2={ o with slots:=sl }:=Option.some.inj (ho2.symm.trans q1)
  subst e2
  obtain ⟨sl',q'⟩:=u3 b _ q1 hd
  exact ⟨sl',q'⟩
 have Hok:HOk X.prog X.w (upd H' ea (E5 ea C)) hh:=HOk.track (hok.kept λb u q=>flh.1 _ _ q) hen ⟨⟨oe,he,hc⟩,⟨oe,he⟩,λh1 h2 ⟨o,ho,r⟩ k=>⟨o,k o ho,r⟩⟩
 refine I.call' (s':={ s' with heap:=hh,toks:=tk }) (ch:=[]) hos ⟨λb o q n hf _=>flh.1 _ _ (k1 b o q n hf),λb o q n hf _=>k2' b o q n hf,λb o q n _=>by rw [u9 (nea b o q)];exact k3 b o q n,λb o q _=>?_,λb xs q=>by rw [u9 (u8 (k5 b xs q) hen)];exact k5 b xs q,λb o u q=>by rw [u9 (u8 (k6 b o u q) hen)];exact k6 b o u q,λb ps q=>by
   obtain ⟨more,z⟩:=k7 b ps q
   exact ⟨more,by rw [u9 (u8 z hen)];exact z⟩⟩ Hok hbare (λb z=>absurd z (by simp))
 rcases k4 b o q with hm|⟨o',q'⟩
 ·obtain ⟨_,o2,ho2,_⟩:=I.stack.mem hm
  obtain ⟨sl,q2⟩:=k2' b o2 ho2 (I.stkFree b hm) hm
  exact ⟨_,q2⟩
 ·exact ⟨o',flh.1 _ _ q'⟩
section
variable {M:Model}{A:Around}{E:Value->Shared->Prop}{s:Shared}
theorem zx3 {α β:Type}{cs:List α}{b:β}{f:α->β->Sem (ForInStep β)}{Q:β->Shared->Prop}(hf:∀c∈cs,∀Q':ForInStep β->Shared->Prop,Q' (.yield b) s->wpAny M A (f c b) Q' E s)(h:Q b s):wpAny M A (forIn cs b f) Q E s:=by
 induction cs with
 | nil=>exact wpAny_pure h
 | cons c r ih =>
  rw [cN]
  exact wpAny_bind (hf c ap _ (ih λd hd=>hf d (aj _ hd)))
def XAt (h:Heap)(D:Addr)(tl:List Value):Prop:=∃nm qn N bs hdct sn sub ab col dd k0 k1 k2 k3 k5 newId,h.get? D=some (excClassObj nm qn D N bs tl hdct sn sub ab col dd k0 k1 k2 k3 k5 newId)
theorem L9.at {K:W.Frag}{C:Addr}{tl:List Value}{newId:String}(x:L9 K C tl newId){h:Heap}(X:K.In h):XAt h C tl/\tl.contains (.type "BaseException")=true:=by
 obtain ⟨nm,qn,N,bs,hdct,sn,sub,ab,col,dd,k0,k1,k2,k3,k5,oN,l,n,all⟩:=xg8 x
 exact ⟨⟨nm,qn,N,bs,hdct,sn,sub,ab,col,dd,k0,k1,k2,k3,k5,newId,X _ _ l⟩,OwnTail.base_in (all _ X).2⟩
theorem ya2 {D:Addr}{tl:List Value}{v:Value}{Q:Bool->Shared->Prop}(x:XAt s.heap D tl)(q:Q ((Value.ref D::tl).contains v) s):wpAny M A (isSubtype (.ref D) v) Q E s:=by
 obtain ⟨nm,qn,N,bs,hdct,sn,sub,ab,col,dd,k0,k1,k2,k3,k5,newId,l⟩:=x
 obtain ⟨h,g,d,t,os⟩:=s
 exact wpAny_isSubtype_exc l q
theorem yk6 {D:Addr}{tl:List Value}{Q:Bool->Shared->Prop}(x:XAt s.heap D tl)(b:tl.contains (.type "BaseException")=true) (q:Q true s):wpAny M A (isExcClass (.ref D)) Q E s:=by
 obtain ⟨nm,qn,N,bs,hdct,sn,sub,ab,col,dd,k0,k1,k2,k3,k5,newId,l⟩:=id x
 unfold isExcClass isType loadHead
 refine wpAny_bind (wpAny_bind (wpAny_loadPart l (wpAny_pure ?_)))
 dsimp only
 rw [if_pos rfl]
 refine ya2 x ?_
 rw [de,b,cY]
 exact q
theorem B1 {e:Addr}{oe:Obj}{C:Addr}{Q:Value->Shared->Prop}(he:s.heap.get? e=some oe)(hc:oe.cls=.ref C)(q:Q (.ref C) s):wpAny M A (typeOf (.ref e)) Q E s:=by
 obtain ⟨h,g,d,t,os⟩:=s
 unfold typeOf
 refine wpAny_bind (wpAny_loadPart he (wpAny_pure ?_))
 rw [hc]
 exact q
theorem B7 {e D C:Addr}{oe:Obj}{tl tlD:List Value}{Q:Bool->Shared->Prop}(he:s.heap.get? e=some oe)(hc:oe.cls=.ref C)(hC:XAt s.heap C tl)(hD:XAt s.heap D tlD)(hb:tlD.contains (.type "BaseException")=true)
  (hm:(Value.ref C::tl).contains (.ref D)=true) (q:Q true s):wpAny M A (excMatches (.ref e) (.ref D)) Q E s:=by
 obtain ⟨nm,qn,N,bs,hdct,sn,sub,ab,col,dd,k0,k1,k2,k3,k5,newId,l⟩:=id hD
 unfold excMatches
 refine wpAny_bind (wpAny_isInstance (T:="type") (b:=false) (show s.TypeIs (.ref D) "type" from ⟨_,l,rfl⟩) (by rw [isSubtype_type];kernel_rfl) ?_)
 dsimp only
 rw [if_neg am]
 try (refine wpAny_bind (wpAny_pure ?_))
 refine wpAny_bind (zx3 (λc hcm Q' hq=>?_) ?_)
 ·obtain rfl:=az.mp hcm
  refine wpAny_bind (yk6 hD hb ?_)
  rw [if_neg (by decide)]
  exact wpAny_pure hq
 refine wpAny_bind (B1 he hc ?_)
 rw [cN]
 refine wpAny_bind (wpAny_bind (wpAny_bind (ya2 hC ?_)))
 rw [hm,if_pos rfl]
 exact wpAny_pure (wpAny_pure (wpAny_pure q))
end
abbrev yh1 (X:Cx) (ea:Addr):Cx:={ X with A:=X.A.mark (some (.ref ea)),calm:=false,xe:=λ_ _=>False }
theorem Inv.sx {X:Cx}{pins:List (Addr×Obj)}{σ:St}{H:Hp}{s:Shared}(I:Inv X pins σ H s)(ea:Addr):Inv (yh1 X ea) pins σ H s :=
 ⟨⟨I.ok.mod,I.ok.kind,I.ok.glob,I.ok.blt,I.ok.above,I.ok.inj,I.ok.has,I.ok.cab,(λz=>by cases z),I.ok.frames,I.ok.stk,I.ok.exf,I.ok.bs,I.ok.bsz,I.ok.noex,I.ok.exfs,I.ok.funs,I.ok.frf⟩,I.os,I.bare,I.base,I.loc,I.cell,I.free,I.freeC,I.pin,I.hok,I.len⟩
theorem Inv.unsx {X:Cx}{pins:List (Addr×Obj)}{σ:St}{H:Hp}{s:Shared}{ea:Addr}(ok:X.Ok)(I:Inv (yh1 X ea) pins σ H s):Inv X pins σ H s :=
 ⟨ok,I.os,I.bare,I.base,I.loc,I.cell,I.free,I.freeC,I.pin,I.hok,I.len⟩
def PH (X:Cx)(hs:List ExceptHandler)(t:Addr->Addr->TS):Prop:=∀(pins:List (Addr×Obj)) (σ:St) (H:Hp) (ea C:Addr) (s:Shared) (D:L6),Cgt X pins σ H ea C s->t ea C D σ H ->
 wpAny (model X.prog X.w) X.A (handleBy (.ref ea) X.env hs) (SP X pins D) X.xe s
section
variable {X:Cx}
end
theorem yh7 {X:Cx}{pins:List (Addr×Obj)}{σ:St}{H:Hp}{s:Shared}{M:Model}{A:Around}{E:Value->Shared->Prop}{i:Nat}{x:Str}{pos:Pos}{Q:Unit->Shared->Prop}(I:Inv X pins σ H s)(hN:X.N.Nodup)(hi:X.N[i]?=some x)(hk:X.env.scope.names.lookup x=some .local)
  (h:∀s',Inv X pins (σ.set i none) H s'->Q () s'):wpAny M A (do bindName X.env x .none;unbindBehindTheSuite X.env x pos) Q E s:=by
 obtain ⟨m,hn,hl⟩:=id I.loc
 have hcls:(X.env.scope.kind == .class || (X.env.scope.kind == .module&&X.env.locals != X.env.globals))=false:=by rw [I.ok.kind];rfl
 obtain ⟨oL,_,_,hoL,_⟩:=id hn
 have hiσ:i<σ.length:=by rw [I.len];exact (ar.mp hi).1
 refine wpAny_nameGoes_keeps hk hn hcls λh' v hn' sb=>h _ ?_
 have old:∀b o,X.s₀.heap.get? b=some o->h'.get? b=s.heap.get? b:=λb o e=>sb.2 b (av (aA (ai e) I.ok.above))
 refine ⟨I.ok,I.os,I.bare,⟨λb o e n hb hx=>(old b o e).trans (I.base.keep b o e n hb hx),λb o e n hb hx=>?_,I.base.free,λb o e hx=>?_,I.base.tups,I.base.frzs,I.base.tbls⟩,⟨_,hn',λj y v' e1 e2 e3=>?_⟩,λy c e=>?_,I.free,I.freeC,λp hp=>?_,λb ob e=>?_,by rw [cA];exact I.len⟩
 ·obtain ⟨sl,q⟩:=I.base.slot b o e n hb hx
  exact ⟨sl,(old b o e).trans q⟩
 ·obtain ⟨o',q⟩:=I.base.there b o e hx
  exact ⟨o',(old b o e).trans q⟩
 ·have hj:j≠i:=λz=>by
   subst z
   rw [cx hiσ] at e2
   cases e2
  rw [cD (Ne.symm hj)] at e2
  obtain ⟨u',r',q⟩:=hl j y v' e1 e2 e3
  refine ⟨u',r',?_⟩
  rcases q with ⟨k,e⟩|⟨k,c,e,z⟩
  ·have ne:y≠x:=λe=>hj (zd2 hN e1 (e ▸ hi))
   exact .inl ⟨k,by show (if y=x then v else m y)=some u';rw [if_neg ne];exact e⟩
  ·exact .inr ⟨k,c,e,z.sameBut sb (I.cne y c e)⟩
 ·obtain ⟨w',z⟩:=I.cell y c e
  exact ⟨w',z.sameBut sb (I.cne y c e)⟩
 ·obtain ⟨e,n,ne,nf,d⟩:=I.pin p hp
  exact ⟨(sb.2 p.1 ne).trans e,n,ne,nf,d⟩
 ·refine (I.hok b ob e).stay (λc w' hc q=>(sb.2 c ?_).trans q) (λ_ q=>q) λ_ _ q=>q
  rintro rfl
  have fr:=I.free
  rcases hc with rfl|hc
  ·rw [fr] at e;cases e
  ·rw [fr] at hc;cases hc
section
variable {X:Cx}
abbrev zq9 (i:Nat) (D:L6):L6:={ nx:=λσ H=>D.nx (σ.set i none) H,rt:=D.rt,bk:=λσ H=>D.bk (σ.set i none) H,ct:=λσ H=>D.ct (σ.set i none) H }
theorem xf2 {y n:Str}{i:Nat}{np pos:Pos}{b0:Stmt}{suite:List Stmt}{g9:List ExceptHandler}{ts:Addr->TS}{C0 D0:Addr}{tl0 tlD:List Value}{n0 nD:String}(h0:L9 X.K C0 tl0 n0)(hD:L9 X.K D0 tlD nD)(hc:(Value.ref C0::tl0).contains (.ref D0)=true)
  (hg:Gl X y) (hm:X.mg y=some (.ref D0)) (hN:X.N.Nodup) (hi:X.N[i]?=some n) (hk:X.env.scope.names.lookup n=some .local) (hs:∀ea,PSs (yh1 X ea) (b0::suite) (ts ea)) (hdb:(y==("__debug__":Str))=false:=by decide) :
  PH X (.ExceptHandler (some (.Name y np)) (some n) (b0::suite) pos::g9) (λea C D σ H=>C=C0/\ts ea (zq9 i D) (σ.set i (some (.ref ea))) H):=by
 rintro pins σ H ea C s D G ⟨rfl,h⟩
 have I:=G.inv
 have Is:=I.sx ea
 obtain ⟨B,a0,fl,hH,all⟩:=id G
 obtain ⟨oe,vs,he,hcl,_,_⟩:=fl.first
 refine wpAny_handleBy_cons (codeAny_handlers_test (N4 Is hg hm ?_ hdb)) (by intro q;cases q)
 refine B7 he hcl (h0.at I.kIn).1 (hD.at I.kIn).1 (hD.at I.kIn).2 hc ?_
 refine codeAny_handlers_suite_as ?_
 refine lands_againW fl λh2 fl2 u2=>?_
 have I2:Inv X pins σ H { s with heap:=h2,toks:=s.toks }:=all h2 s.toks fl2 u2
 refine N7 (X:=yh1 X ea) (v:=.ref ea) (I2.sx ea) hN hi (.inl hk) rfl (λs3 I3 _=>?_) (.inr hk)
 refine wpAny_mono (hs ea pins s3 _ H (zq9 i D) I3 h) (λf s4 h4=>?_) λ_ _ z=>z.elim
 have fin:∀{σ':St} {H':Hp} {R:St->Hp->Prop} {Q:Unit->Shared->Prop} {E:Value->Shared->Prop},Inv (yh1 X ea) pins σ' H' s4->R (σ'.set i none) H'->(∀s5,(∃σ5 H5,Inv X pins σ5 H5 s5/\R σ5 H5)->Q () s5)->wpAny (model X.prog X.w) X.A (do bindName X.env n .none;unbindBehindTheSuite X.env n pos) Q E s4 :=
  λI4 r q=>yh7 (I4.unsx I.ok) hN hi hk λs5 I5=>q s5 ⟨_,_,I5,r⟩
 cases f with
 | next =>
  obtain ⟨σ',H',I4,q4⟩:=h4
  exact fin (R:=D.nx) I4 q4 λs5 z=>z
 | brk =>
  obtain ⟨σ',H',I4,q4⟩:=h4
  exact fin (R:=D.bk) I4 q4 λs5 z=>z
 | cont =>
  obtain ⟨σ',H',I4,q4⟩:=h4
  exact fin (R:=D.ct) I4 q4 λs5 z=>z
 | ret u =>
  obtain ⟨v,σ',H',I4,r4,q4⟩:=h4
  refine fin (R:=λ_ H=>D.rt v H) I4 q4 λs5 ⟨σ5,H5,I5,q5⟩=>⟨v,σ5,H5,I5,r4,q5⟩
def i4 (P:Program)(w:World)(K:W.Frag)(mg:Str->Option Value)(base:Heap)(k:Nat)(x:Str)(ps:List Str)(sp:Sp):Prop :=
 ∃f fd,r8 P w K mg base (CX1 P w) k f fd ps sp/\W.keepIn K (.ref f)=true/\mg x=some (.ref f)/\V5 K fd ps []
theorem zk8:k9 X (.builtin "isinstance") (λxs H Q=>∃ea C D,xs=[.ref ea,.ref D]/\H ea=some (E5 ea C)/\W.isIn X.K (.ref C) D=true/\Q (.bl true) H):=by
 intro pins s σ H xs us Q I r h
 obtain ⟨ea,C,D,rfl,hH,hi,q⟩:=h
 obtain ⟨u1,u2,rfl,r1,r2⟩:=A4 r
 cases r1
 cases r2
 obtain ⟨⟨o,ho,hc⟩,_⟩:=I.hok ea _ hH
 refine W.isi_call I.kIn (λM=>?_) hi (λz=>nomatch z) ⟨.bl true,H,I,rfl,q⟩
 exact hc ▸ (W.Looks.ld ho).andThen .now
theorem yk7 {M:Model}{A:Around}{E:Value->Shared->Prop}{s:Shared}{ea C:Addr}{oe:Obj}{tl:List Value}{T:String}{dep:Int}{tk:Tok}{Q:Fin->Shared->Prop}(he:s.heap.get? ea=some oe)(hc:oe.cls=.ref C)(hC:XAt s.heap C tl)(hT:typeOf (.type T)=pure (.type "type")) (hb:tl.contains (.type T)=true)
  (q:Q (.done (.ret (.bool true))) s):wpAny M A (Builtin.«isinstance.nested» ⟨[.ref ea,.type T,.int dep tk],[]⟩) Q E s:=by
 unfold Builtin.«isinstance.nested»
 refine wpAny_bind (B1 he hc ?_)
 rw [if_neg (λz=>by cases z)]
 refine wpAny_bind (wpAny_of_eq hT ?_)
 rw [if_pos (by decide)]
 k_delta "plainIsInstance"
 refine wpAny_bind (wpAny_bind (wpAny_of_eq (a:=true) rfl ?_))
 rw [if_neg (by decide)]
 unfold isInstance
 refine wpAny_bind (wpAny_bind (B1 he hc (ya2 hC ?_)))
 rw [de,hb,cY,if_pos rfl]
 exact wpAny_pure (wpAny_pure q)
theorem zk7 {T:String}(hT:typeOf (.type T)=pure (.type "type")):k9 X (.builtin "isinstance") (λxs H Q=>∃ea C tl n,xs=[.ref ea,.ty T]/\H ea=some (E5 ea C)/\L9 X.K C tl n/\tl.contains (.type T)=true/\Q (.bl true) H):=by
 intro pins s σ H xs us Q I r h
 obtain ⟨ea,C,tl,n,rfl,hH,hx,hi,q⟩:=h
 obtain ⟨u1,u2,rfl,r1,r2⟩:=A4 r
 cases r1
 cases r2
 obtain ⟨⟨o,ho,hc⟩,_⟩:=I.hok ea _ hH
 exact call_isinstance (S:=λ_ R s'=>(s'.heap.get? ea=some o/\XAt s'.heap C tl)/\R (.ok (.ret (.bool true))) s') (λ_ _ _ _ _ hs=>isinstance_outer (yk7 hs.1.1 hc hs.1.2 hT hi hs.2) (λz=>nomatch z)) ⟨⟨ho,(hx.at I.kIn).1⟩,⟨.bl true,H,I,rfl,q⟩⟩
end
structure yh9 (K:W.Frag) (mg:Str->Option Value) (TE:Addr):Prop where
 m:mg "TurnError"=some (.ref TE)
 c:L9 K TE bmV "ValueError.__new__"
 v:mg "ValueError"=none
structure V6 (K:W.Frag) (mg:Str->Option Value) (TE:Addr) (x:Str) (C:Addr):Prop where
 m:mg x=some (.ref C)
 c:L9 K C (.ref TE::bmV) "ValueError.__new__"
 i:W.isIn K (.ref C) TE=true
theorem zf8:bootBuiltins "ValueError"=some (.type "ValueError"):=by decide +kernel
theorem zh6:typeOf (.type "ValueError")=pure (.type "type"):=by kernel_rfl
def kvD (x:Key×V):PyData×PyData:=(match x.1 with | .inl i=>.int i | .inr t=>.str t,match x.2 with | .int i=>.int i|_=>.none)
mutual
inductive Dt (H:Hp):V->PyData->Prop
 | non:Dt H .non .none
 | bl (b:Bool):Dt H (.bl b) (.bool b)
 | int (i:Int):Dt H (.int i) (.int i)
 | str (x:Str):Dt H (.str x) (.str x)
 | lst {a:Addr} {xs:List V} {ds:List PyData}:H a=some (.lst xs)->Dts H xs ds->Dt H (.ref a) (.list ds)
 | tup {a:Addr} {xs:List V} {ds:List PyData}:H a=some (.tup xs)->Dts H xs ds->Dt H (.ref a) (.tuple ds)
 | dct {a:Addr} {kvs:List (Key×V)}:H a=some (.dK kvs)->Dt H (.ref a) (.dict (kvs.map kvD))
inductive Dts (H:Hp):List V->List PyData->Prop
 | nil:Dts H [] []
 | cons {x:V} {d:PyData} {xs:List V} {ds:List PyData}:Dt H x d->Dts H xs ds->Dts H (x::xs) (d::ds)
end
mutual
theorem Dt.same {H H':Hp}(s:z9 H H'):∀{x:V} {d:PyData},Dt H x d->Dt H' x d
 | _,_,.non=>.non
 | _,_,.bl b=>.bl b
 | _,_,.int i=>.int i
 | _,_,.str x=>.str x
 | _,_,.lst h r=>.lst (s _ _ h) (Dts.same s r)
 | _,_,.tup h r=>.tup (s _ _ h) (Dts.same s r)
 | _,_,.dct h=>.dct (s _ _ h)
theorem Dts.same {H H':Hp}(s:z9 H H'):∀{xs:List V} {ds:List PyData},Dts H xs ds->Dts H' xs ds
 | _,_,.nil=>.nil
 | _,_,.cons h r=>.cons (Dt.same s h) (Dts.same s r)
end
theorem Dts.length {H:Hp}:∀{xs:List V} {ds:List PyData},Dts H xs ds->xs.length=ds.length
 | _,_,.nil=>rfl
 | _,_,.cons _ r=>by rw [ag,ag,Dts.length r]
theorem Dts.append {H:Hp}:∀{xs ys:List V} {ds es:List PyData},Dts H xs ds->Dts H ys es->Dts H (xs++ys) (ds++es)
 | _,_,_,_,.nil,q=>q
 | _,_,_,_,.cons h r,q=>.cons h (Dts.append r q)
theorem Dts.get {H:Hp}:∀{xs:List V} {ds:List PyData} {i:Nat} {x:V},Dts H xs ds->xs[i]?=some x->∃d,ds[i]?=some d/\Dt H x d
 | _,_,_,_,.nil,e=>by simp at e
 | _,_,0,_,.cons h _,e=>by simp at e;subst e;exact ⟨_,rfl,h⟩
 | _,_,i+1,x,.cons _ r,e=>by
  obtain ⟨d,h1,h2⟩:=Dts.get (i:=i) (x:=x) r (by simpa using e)
  exact ⟨d,by simpa using h1,h2⟩
theorem Dt.dict {H:Hp}{x:V}{es:List (PyData×PyData)}(h:Dt H x (.dict es)):∃a kvs,x=.ref a/\H a=some (.dK kvs)/\es=kvs.map kvD:=by
 cases h with
 | dct h=>exact ⟨_,_,rfl,h,rfl⟩
def tyD:PyData->String
 | .none=>"NoneType"
 | .bool _=>"bool"
 | .int _=>"int"
 | .str _=>"str"
 | .list _=>"list"
 | .tuple _=>"tuple"
 | .dict _=>"dict"
theorem Dt.ty {K:W.Frag}{H:Hp}{x:V}{d:PyData}(h:Dt H x d):P0 K H x (.type (tyD d)):=by
 cases h with
 | non=>exact .non
 | bl b=>exact .bl b
 | int i=>exact .int i
 | str x=>exact .str x
 | lst h _=>exact .lst h
 | tup h _=>exact .tup h
 | dct h=>exact .dK h
section
variable {X:Cx}{e:Expr}{es:List Expr}{pos:Pos}{C:St->Hp->Prop}{d:PyData}{ds:List PyData}
def tDt (C:St->Hp->Prop)(d:PyData):TE:=λσ H Q=>C σ H/\∀v H',z9 H H'->Dt H' v d->Q v H'
def yq0 (C:St->Hp->Prop)(ds:List PyData):TA:=λσ H Q=>C σ H/\∀vs H',z9 H H'->Dts H' vs ds->Q vs H'
def yb1 (C:St->Hp->Prop):Prop:=∀σ H H',z9 H H'->C σ H->C σ H'
theorem PE.weak {t t':TE}(h:PE X e t)(k:∀σ H Q,t' σ H Q->t σ H Q):PE X e t':=λpins s σ H Q I q=>h pins s σ H Q I (k σ H Q q)
theorem PA.weak {t t':TA}(h:PA X es t)(k:∀σ H Q,t' σ H Q->t σ H Q):PA X es t':=λpos pins s σ H Q I q=>h pos pins s σ H Q I (k σ H Q q)
structure DE (X:Cx) (e:Expr) (t:TE):Prop where
 h:PE X e t
structure DA (X:Cx) (es:List Expr) (t:TA):Prop where
 h:PA X es t
structure DS (X:Cx) (st:Stmt) (t:TS):Prop where
 h:PS X st t
structure DSs (X:Cx) (st:List Stmt) (t:TS):Prop where
 h:PSs X st t
theorem y4 {st:Stmt}{g9:List Stmt}{t u:TS}(h1:DS X st t)(h2:DSs X g9 u):DSs X (st::g9) (yv3 t u):=⟨@v8 _ _ _ _ _ h1.h h2.h⟩
theorem yj3 {i:Nat}{x:Str}{te:TE}{pos':Pos}(hN:X.N.Nodup)(hi:X.N[i]?=some x)(hx:Loc X.env.scope x)(he:DE X e te)(hs:swapsWith e (some (.Name x pos')) pos.line X.env=pure false:=by rfl)(hf:X.fn x=true∨X.env.scope.names.lookup x=some .local:=by first|exact .inl rfl|exact .inr rfl|assumption) :
  DS X (.Assign [.Name x pos'] e pos) (ya3 te (Y1 i)):=⟨n3 hN hi hx he.h hs hf⟩
theorem xd0 {a b:Expr}{ta tb:TE}{op:Operator}{r:R2}(ho:OpR X (binaryOp op) r)(ha:PE X a ta)(hb:DE X b tb):DE X (.BinOp a op b pos) (tOp r ta tb):=⟨u0 ho ha hb.h⟩
theorem yn6 {j pos}:DE X (.Constant .none j pos) (tDt C .none):=⟨zz1.weak λ_ H _ q=>q.2 _ H (z9.refl _) .non⟩
theorem yn4 {b j pos}:DE X (.Constant (.bool b) j pos) (tDt C (.bool b)):=⟨Y3.weak λ_ H _ q=>q.2 _ H (z9.refl _) (.bl b)⟩
theorem zn4 {i j pos}:DE X (.Constant (.int i) j pos) (tDt C (.int i)):=⟨z8.weak λ_ H _ q=>q.2 _ H (z9.refl _) (.int i)⟩
theorem zn5 {x j pos}:DE X (.Constant (.str x) j pos) (tDt C (.str x)):=⟨o8.weak λ_ H _ q=>q.2 _ H (z9.refl _) (.str x)⟩
theorem Z6 {H:Hp}{p:Addr}(hp:H p=none)(u:HO):z9 H (upd H p u):=λb o h=>by
 have hne:b≠p:=λz=>by rw [z,hp] at h;cases h
 show (if b=p then _ else _)=_
 rw [if_neg hne];exact h
theorem zm6 {H:Hp}{p:Addr}(u:HO):upd H p u p=some u:=by show (if p=p then _ else _)=_;rw [if_pos rfl]
theorem xb0:DE X (.Dict [] [] pos) (tDt C (.dict [])):=⟨yn7.weak λ_ H _ q p hp=>q.2 _ _ (Z6 hp _) (.dct (kvs:=[]) (zm6 _))⟩
theorem f9:DA X [] (yq0 C []):=⟨z4.weak λ_ H _ q=>q.2 [] H (z9.refl _) .nil⟩
theorem u6 (hC:yb1 C)(he:DE X e (tDt C d))(hr:DA X es (yq0 C ds))(hs:starEach (e::es) X.env=(false,eval e X.env)::starEach es X.env:=by rfl):DA X (e::es) (yq0 C (d::ds)) :=
 ⟨(z0 he.h hr.h hs).weak λσ H Q q=>⟨q.1,λv H1 s1 hv=>⟨hC σ H H1 s1 q.1,λvs H2 s2 hvs=>q.2 (v::vs) H2 (s1.trans s2) (.cons (hv.same s2) hvs)⟩⟩⟩
theorem zd8 {x1}(h:DA X es (yq0 C ds))(hz:ds.length<=sizeLine):DE X (.Tuple es x1 pos) (tDt C (.tuple ds)) :=
 ⟨(S9 h.h).weak λ_ _ _ q=>⟨q.1,λvs H1 s1 hvs=>⟨by rw [hvs.length];exact hz,λp hp=>q.2 _ _ (s1.trans (Z6 hp _)) (.tup (zm6 _) (hvs.same (Z6 hp _)))⟩⟩⟩
theorem S8 (h:DA X es (yq0 C ds))(hz:ds.length<=sizeLine):DE X (.List es pos) (tDt C (.list ds)) :=
 ⟨(p3 h.h).weak λ_ _ _ q=>⟨q.1,λvs H1 s1 hvs=>⟨by rw [hvs.length];exact hz,λp hp=>q.2 _ _ (s1.trans (Z6 hp _)) (.lst (zm6 _) (hvs.same (Z6 hp _)))⟩⟩⟩
theorem yw4 {t:TE}(h:PE X e t)(k:∀σ H Q,C σ H->(∀v H',z9 H H'->Dt H' v d->Q v H')->t σ H Q):DE X e (tDt C d):=⟨h.weak λσ H Q q=>k σ H Q q.1 q.2⟩
end
section
variable {prog:Program}{w:World}{A:Around}{E:Value->Shared->Prop}{s:Shared}
def gat (h:Heap)(vs:List Value):Heap:=(h.push (seqObj "list" #[] 0)).update h.objs.size (Obj.mapSeq (·++vs.toArray))
theorem zq3 {a:Addr}{vs:List Value}{R:List Value->Shared->Prop}(ht:IsTup s.heap a vs.toArray)(hz:vs.length<=sizeLine)(q:R vs { s with heap:=gat s.heap vs }):wpAny (model prog w) A (collect (.ref a)) R E s:=by
 obtain ⟨o,ho,hc,n,hd⟩:=ht
 have ho1:(s.heap.push (seqObj "list" #[] 0)).get? a=some o:=ae _ ho
 have hn1:(s.heap.push (seqObj "list" #[] 0)).get? s.heap.objs.size=some (seqObj "list" #[] 0):=aq _ rfl
 unfold collect
 refine wpAny_bind (wpAny_runValue (codeAny_builtin entry_proto_collect' (wpAny_bind (m:=newList []) (wpAny_newList (wpAny_pure ⟨Code.quiet_builtin _ (by decide +kernel),codeAny_builtin entry_list_iadd' ?_⟩)))))
 show wpAny _ _ (Builtin.List.listExtendWith (.ref s.heap.objs.size) (.ref a) (.ref s.heap.objs.size)) _ _ { s with heap:=s.heap.push (seqObj "list" #[] 0) }
 (unfold Builtin.List.listExtendWith;refine wpAny_bind (wpAny_typeOf (T:="tuple") ⟨o,ho1,hc⟩ ?_))
 have hty:(Value.type "tuple" == Value.type "tuple")=true:=rfl
 rw [if_pos (show _=true by rw [hty,cY])]
 refine wpAny_bind (listItems_at ho1 hd (wpAny_bind (listItems_at (xs:=#[]) (n:=0) hn1 rfl ?_)))
 rw [if_neg (show ¬_=true by simp)]
 refine wpAny_bind (listUpdate_at (xs:=#[]) (n:=0) hn1 rfl (wpAny_pure ?_) (ax _) (by simp only [Array.size_append,ao,aO];show 0+vs.length<=_;lia))
 show wpAny (model prog w) A (load s.heap.objs.size >>= _) R E { s with heap:=gat s.heap vs }
 refine wpAny_bind (wpAny_load (get?_update_seq hn1 _) ?_)
 have e:((#[]:Array Value)++vs.toArray).toList=vs:=by simp
 exact wpAny_pure (e.symm ▸ q)
theorem zc6 (h:Heap)(vs:List Value):(gat h vs).objs.size=h.objs.size+1:=by unfold gat;rw [Heap.size_update,size_push']
theorem za7 {h:Heap}{vs:List Value}{b:Addr}{o:Obj}(e:h.get? b=some o):(gat h vs).get? b=some o:=by
 have hlt:=ai e
 unfold gat
 rw [Heap.get?_update_ne _ _ _ _ (av hlt),Heap.get?_push_ne _ _ _ (av hlt)]
 exact e
theorem ya1 {a:Addr}{vs:List Value}{ns:List Int}{R:Value->Shared->Prop}(ht:IsTup s.heap a vs.toArray)(hI:IntsAre vs ns)(h64:vs.length<64)
  (q:∀(out:Array Value) (ms:List Int),IntsAre out.toList ms->ms.Perm ns->ms.Pairwise (·<=·)->R (.ref (gat s.heap vs).objs.size) { s with heap:=sortedHeap ((gat s.heap vs).push (seqObj "list" vs.toArray 0)) (gat s.heap vs).objs.size vs out }) :
  wpAny (model prog w) A (call (.builtin "sorted") [.ref a]) R E s:=by
 have hn:((gat s.heap vs).push (seqObj "list" vs.toArray 0)).get? (gat s.heap vs).objs.size=some (seqObj "list" vs.toArray 0):=aq _ rfl
 refine Calls.call_function_entry kind_sorted plain_sorted entry_sorted (args_sorted1 (.ref a)) ?_
 unfold Builtin.«sorted»
 refine wpAny_bind (m:=checkCount "sorted" 1 1 _) (wpAny_pure (wpAny_bind (zq3 ht (by rw [sizeLine_eq];lia) (wpAny_bind (wpAny_newList ?_)))))
 show wpAny _ _ _ _ _ { s with heap:=(gat s.heap vs).push (seqObj "list" vs.toArray 0) }
 refine wpAny_bind (wpAny_holding (wpAny_call_entry slot_list_sort ⟨_,hn,rfl⟩ entry_list_sort (list_sort_tree hn hI h64 λout ms a1 a2 a3=>⟨_,rfl,wpAny_pure ⟨_,rfl,q out ms a1 a2 a3⟩⟩) (args_list_sort _)))
end
section
variable {X:Cx}
theorem S4:k9 X (.builtin "sorted") (λxs H Q=>∃(p:Addr) (ns:List Int),xs=[.ref p]/\SqT X.K H p (ns.map V.int)/\ns.length<64/\∀(l:Addr) (ms:List Int),H l=none->ms.Perm ns->ms.Pairwise (·<=·)->Q (.ref l) (upd H l (.lst (ms.map V.int)))):=by
 intro pins s σ H xs us Q I r h
 obtain ⟨p,ns,rfl,hq,h64,q⟩:=h
 obtain ⟨u,rfl,rx⟩:=X8 r
 cases rx
 obtain ⟨its,r1,p1,hz⟩:=I.tuple hq
 have l1:=r1.length
 rw [aa] at l1 hz
 refine ya1 p1 (W7 r1) (by lia) λout ms a1 a2 a3=>?_
 have hl:=a2.length_eq
 have hsz:=zc6 s.heap its
 obtain ⟨e,he⟩:=sortedHeap_at (vs:=its) (out:=out) (n:=0) (show ((gat s.heap its).push (seqObj "list" its.toArray 0)).get? (gat s.heap its).objs.size=some (seqObj "list" its.toArray 0) from aq _ rfl)
 have hold:∀b o,s.heap.get? b=some o->(sortedHeap ((gat s.heap its).push (seqObj "list" its.toArray 0)) (gat s.heap its).objs.size its out).get? b=some o:=λb o z=>by
  have hlt:=ai z
  have h1:b<(gat s.heap its).objs.size:=hsz.symm ▸ aT hlt
  rw [sortedHeap_old (av h1) (by rw [size_push'];exact aT h1),Heap.get?_push_ne _ _ _ (av h1)]
  exact za7 z
 refine ⟨.ref (gat s.heap its).objs.size,_,I.laid (t':=s.toks) hold (by lia) (show p4 X.prog X.w _ _ _ (.lst (ms.map V.int)) from ⟨by rw [aa];lia,out.toList,e,N8 a1,by simpa using he⟩),rfl,q _ ms (I.hok.fresh (by lia)) a2 a3⟩
end
section
variable {X:Cx}{pins:List (Addr×Obj)}{σ:St}{H:Hp}{s:Shared}
theorem yl1 {K:W.Frag}{t:Value}:∀{cs:List String} {us:List Value},t9 (cs.map V.ty) us->us=cs.map Value.type
 | [],_,r=>by cases r;rfl
 | c::cs,_,r=>by
  cases r with
  | cons a b =>
   cases (show _=Value.type c from a)
   rw [yl1 (K:=K) (t:=t) b];rfl
theorem zx6 {A:Around}{E:Value->Shared->Prop}{Q:Value->Shared->Prop}{b:Bool}{x:V}{u:Value}{tp:Addr}{its:List Value}(I:Inv X pins σ H s)(rx:o6 x u){d:PyData}(ty:Dt H x d)(ht:IsTup s.heap tp its.toArray)(e:W.kitAny X.K (.type (tyD d)) its=some b)(h:∀tk,Q (.bool b) { s with toks:=tk }) :
  wpAny (model X.prog X.w) A (call (.builtin "isinstance") [u,.ref tp]) Q E s:=by
 obtain ⟨o,ho,hc,n,hd⟩:=ht
 have ho':s.heap.get? tp=some ⟨.type "tuple",o.dict,.seq its.toArray n,o.slots⟩:=by rw [ho];cases o;cases hc;cases hd;rfl
 cases ty with
 | non=>cases (show u=Value.none from rx);exact W.kia_tup W.kitx_none I.kIn True.intro ho' e (λz=>nomatch z) h
 | bl y=>cases (show u=Value.bool y from rx);exact W.kia_tup W.kitx_bool I.kIn True.intro ho' e (λz=>nomatch z) h
 | int i=>obtain ⟨t,q⟩:=(show ∃t,u=Value.int i t from rx);cases q;exact W.kia_tup W.kitx_int I.kIn True.intro ho' e (λz=>nomatch z) h
 | str y=>obtain ⟨t,q⟩:=(show ∃t,u=Value.str y t from rx);cases q;exact W.kia_tup W.kitx_str I.kIn True.intro ho' e (λz=>nomatch z) h
 | @lst a xs ds ea _ =>
  cases (show u=Value.ref a from rx)
  obtain ⟨_,_,n,_,h1⟩:=(show p4 X.prog X.w H s.heap a (.lst xs) from I.hok a _ ea)
  exact W.kia_tup W.kitx_list I.kIn ⟨_,h1,rfl⟩ ho' e (λz=>nomatch z) h
 | @tup a xs ds ea _ =>
  cases (show u=Value.ref a from rx)
  obtain ⟨_,_,_,p⟩:=(show p4 X.prog X.w H s.heap a (.tup xs) from I.hok a _ ea)
  obtain ⟨o,h1,h2,_⟩:=p
  exact W.kia_tup W.kitx_tuple I.kIn ⟨o,h1,h2⟩ ho' e (λz=>nomatch z) h
 | @dct a kvs ea =>
  cases (show u=Value.ref a from rx)
  obtain ⟨_,_,vs,_,p⟩:=(show p4 X.prog X.w H s.heap a (.dK kvs) from I.hok a _ ea)
  obtain ⟨o,es,ep,h1,h2,_⟩:=p
  exact W.kia_tup W.kitx_dict I.kIn ⟨o,h1,h2.1⟩ ho' e (λz=>nomatch z) h
theorem S3:k9 X (.builtin "isinstance") (λxs H Q=>∃(x:V) (d:PyData) (tp:Addr) (cs:List String) (b:Bool),xs=[x,.ref tp]/\Dt H x d/\SqT X.K H tp (cs.map V.ty)/\W.kitAny X.K (.type (tyD d)) (cs.map Value.type)=some b/\Q (.bl b) H):=by
 intro pins s σ H xs us Q I r h
 obtain ⟨x,d,tp,cs,b,rfl,ty,hq,e,q⟩:=h
 obtain ⟨u,w',rfl,rx,rc⟩:=A4 r
 cases rc
 obtain ⟨its,r1,p1,hz⟩:=I.tuple hq
 rw [←yl1 (K:=X.K) (t:=.none) r1] at e
 exact zx6 I rx ty p1 e λtk=>⟨.bl b,H,I.tok tk,rfl,q⟩
def xd9 (K:W.Frag)(tl:TE):TI:=λσ H R=>tl σ H λx H1=>∃a,x=.ref a/\(((∃xs,SqL K H1 a xs)/\R (Itl K a) H1)∨((∃xs,SqT K H1 a xs)/\R (Itt K a) H1))
theorem zn9 {tg l:Expr}{tl:TE}(hl:PE X l tl):PI X tg l (xd9 X.K tl):=by
 intro pins s σ H R I h
 refine thn (hl pins s σ H _ I h) λv s1 ⟨x,H1,I1,r1,q1⟩=>?_
 obtain ⟨a,e,q1⟩:=q1
 subst e
 cases r1
 rcases q1 with ⟨⟨xs,hq⟩,q⟩|⟨⟨xs,hq⟩,q⟩
 ·obtain ⟨its,rv,p,hz⟩:=I1.list hq
  refine wpAny_pyIter_list p.isList ?_
  refine ⟨s1.heap.objs.size,[s1.heap.objs.size],_,_,H1,rfl,I1.kept (t':=s1.toks) λb o e=>ae _ e,zk2 a _,⟨_,aq _ rfl,rfl,rfl⟩,λb hb=>?_,q⟩
  have e:b=s1.heap.objs.size:=by simpa using hb
  subst e
  exact I1.fpOk (af _) (I1.hok.fresh (af _))
 ·obtain ⟨its,rv,p,hz⟩:=I1.tuple hq
  refine wpAny_pyIter_tuple (show s1.heap.IsTuple a its.toArray from p) ?_
  refine ⟨s1.heap.objs.size,[s1.heap.objs.size],_,_,H1,rfl,I1.kept (t':=s1.toks) λb o e=>ae _ e,zf5 a _,⟨_,aq _ rfl,rfl,rfl⟩,λb hb=>?_,q⟩
  have e:b=s1.heap.objs.size:=by simpa using hb
  subst e
  exact I1.fpOk (af _) (I1.hok.fresh (af _))
mutual
theorem Dt.reads (I:Inv X pins σ H s):∀{x:V} {d:PyData},Dt H x d->d.canLay0=true->∀u,o6 x u->∃as,Reads s.heap u d as
 | _,_,.non,_,u,r=>by cases (show u=Value.none from r);exact ⟨_,.none⟩
 | _,_,.bl b,_,u,r=>by cases (show u=Value.bool b from r);exact ⟨_,.bool b⟩
 | _,_,.int i,_,u,r=>by obtain ⟨t,rfl⟩:=(show ∃t,u=Value.int i t from r);exact ⟨_,.int i t⟩
 | _,_,.str x,_,u,r=>by obtain ⟨t,rfl⟩:=(show ∃t,u=Value.str x t from r);exact ⟨_,.str x t⟩
 | _,_,.lst h hs,c,u,r=>by
  cases (show u=Value.ref _ from r)
  obtain ⟨its,rv,p,_⟩:=I.list (SqL.of h)
  obtain ⟨o,ho,hc,n,hd⟩:=p.isList
  rw [PyData.canLay0] at c
  obtain ⟨as,ha⟩:=Dts.reads I hs c its rv
  exact ⟨_,.list ho hc hd (by simpa using ha)⟩
 | _,_,.tup h hs,c,u,r=>by
  cases (show u=Value.ref _ from r)
  obtain ⟨its,rv,p,_⟩:=I.tuple (SqT.of h)
  obtain ⟨o,ho,hc,n,hd⟩:=p
  rw [PyData.canLay0] at c
  obtain ⟨as,ha⟩:=Dts.reads I hs c its rv
  exact ⟨_,.tuple ho hc hd (by simpa using ha)⟩
 | _,_,.dct h,c,u,r=>by
  rw [PyData.canLay0] at c
  cases c
theorem Dts.reads (I:Inv X pins σ H s):∀{xs:List V} {ds:List PyData},Dts H xs ds->PyData.canLayAll0 ds=true->∀us,t9 xs us->∃as,ReadsAll s.heap us ds as
 | _,_,.nil,_,us,r=>by cases r;exact ⟨_,.nil⟩
 | _,_,.cons h hs,c,us,r=>by
  cases r with
  | cons r1 r2 =>
   rw [PyData.canLayAll0,aG] at c
   obtain ⟨as,ha⟩:=Dt.reads I h c.1 _ r1
   obtain ⟨bs,hb⟩:=Dts.reads I hs c.2 _ r2
   exact ⟨_,.cons ha hb⟩
end
def nw (H H':Hp):Hp:=λb=>match H b with
 | none=>H' b
 | some _=>none
theorem ym5 {H H':Hp}{b:Addr}(h:H b=none):nw H H' b=H' b:=by unfold nw;rw [h]
theorem zy9 {H H':Hp}{b:Addr}{o:HO}(h:nw H H' b=some o):H b=none/\H' b=some o:=by
 unfold nw at h
 cases e:H b with
 | none=>rw [e] at h;exact ⟨rfl,h⟩
 | some u=>rw [e] at h;cases h
theorem yc5 {H H':Hp}:z9 (nw H H') H':=λb o h=>(zy9 h).2
theorem zm7 {H H1 H2:Hp}(s:z9 H1 H2):z9 (nw H H1) (nw H H2):=λb o h=>by
 obtain ⟨h1,h2⟩:=zy9 h
 rw [ym5 h1]
 exact s _ _ h2
theorem xe7 {H0 H H':Hp}(s:z9 H0 H):z9 (nw H H') (nw H0 H'):=λb o h=>by
 obtain ⟨h1,h2⟩:=zy9 h
 have h0:H0 b=none:=by
  cases e:H0 b with
  | none=>rfl
  | some u=>rw [s _ _ e] at h1;cases h1
 rw [ym5 h0]
 exact h2
theorem Dts.set {G:Hp}{v:V}{d:PyData}(hv:Dt G v d):∀{xs:List V} {ds:List PyData} (i:Nat),Dts G xs ds->Dts G (xs.set i v) (ds.set i d)
 | _,_,_,.nil=>.nil
 | _,_,0,.cons _ r=>.cons hv r
 | _,_,i+1,.cons h r=>.cons h (Dts.set hv i r)
section
variable {e:Expr}{es:List Expr}{pos:Pos}{C:St->Hp->Prop}{d:PyData}{ds:List PyData}
def tNw (C:St->Hp->Prop)(d:PyData):TE:=λσ H Q=>C σ H/\∀v H',z9 H H'->Dt (nw H H') v d->Q v H'
def yq3 (C:St->Hp->Prop)(ds:List PyData):TA:=λσ H Q=>C σ H/\∀vs H',z9 H H'->Dts (nw H H') vs ds->Q vs H'
theorem xf3 {b j pos}:DE X (.Constant (.bool b) j pos) (tNw C (.bool b)):=⟨Y3.weak λ_ H _ q=>q.2 _ H (z9.refl _) (.bl b)⟩
theorem J0 {i j pos}:DE X (.Constant (.int i) j pos) (tNw C (.int i)):=⟨z8.weak λ_ H _ q=>q.2 _ H (z9.refl _) (.int i)⟩
theorem xb6 {x j pos}:DE X (.Constant (.str x) j pos) (tNw C (.str x)):=⟨o8.weak λ_ H _ q=>q.2 _ H (z9.refl _) (.str x)⟩
theorem ym6 {H H1:Hp}{p:Addr}(s:z9 H H1)(hp:H1 p=none)(u:HO):nw H (upd H1 p u) p=some u:=by
 have h0:H p=none:=by
  cases e:H p with
  | none=>rfl
  | some o=>rw [s _ _ e] at hp;cases hp
 rw [ym5 h0];exact zm6 u
theorem F8:DA X [] (yq3 C []):=⟨z4.weak λ_ H _ q=>q.2 [] H (z9.refl _) .nil⟩
theorem l9 (hC:yb1 C)(he:DE X e (tNw C d))(hr:DA X es (yq3 C ds))(hs:starEach (e::es) X.env=(false,eval e X.env)::starEach es X.env:=by rfl):DA X (e::es) (yq3 C (d::ds)) :=
 ⟨(z0 he.h hr.h hs).weak λσ H Q q=>⟨q.1,λv H1 s1 hv=>⟨hC σ H H1 s1 q.1,λvs H2 s2 hvs=>q.2 (v::vs) H2 (s1.trans s2) (.cons (hv.same (zm7 s2)) (hvs.same (xe7 s1)))⟩⟩⟩
theorem zz4 {x1}(h:DA X es (yq3 C ds))(hz:ds.length<=sizeLine):DE X (.Tuple es x1 pos) (tNw C (.tuple ds)) :=
 ⟨(S9 h.h).weak λ_ _ _ q=>⟨q.1,λvs H1 s1 hvs=>⟨by rw [hvs.length];exact hz,λp hp=>q.2 _ _ (s1.trans (Z6 hp _)) (.tup (ym6 s1 hp _) (hvs.same (zm7 (Z6 hp _))))⟩⟩⟩
theorem yo5 (h:DA X es (yq3 C ds))(hz:ds.length<=sizeLine):DE X (.List es pos) (tNw C (.list ds)) :=
 ⟨(p3 h.h).weak λ_ _ _ q=>⟨q.1,λvs H1 s1 hvs=>⟨by rw [hvs.length];exact hz,λp hp=>q.2 _ _ (s1.trans (Z6 hp _)) (.lst (ym6 s1 hp _) (hvs.same (zm7 (Z6 hp _))))⟩⟩⟩
theorem xf4 {t:TE}(h:PE X e t)(k:∀σ H Q,C σ H->(∀v H',z9 H H'->Dt (nw H H') v d->Q v H')->t σ H Q):DE X e (tNw C d):=⟨h.weak λσ H Q q=>k σ H Q q.1 q.2⟩
end
end
section
end
def CXH (P:Program)(w:World)(L:Addr)(cs:List Addr):CXT:=λouter H s E e s'=>∃(ea C:Addr) (a0:Value) (B:Heap) (H':Hp),e=.ref ea/\s'.os=s.os/\AllBare s'.gens/\HOk P w H' B/\Heap.HeldW B outer ea (.ref C) a0 L s'.heap /\
 (∀b o,s.heap.get? b=some o->H b=none->b∉frs outer->b∉cs->B.get? b=some o) /\
 (∀b o,s.heap.get? b=some o->H b=none->b∈frs outer->∃sl,s'.heap.get? b=some { o with slots:=sl }) /\
 (∀b o,s.heap.get? b=some o->H b=none->H' b=none) /\
 (∀b o,s.heap.get? b=some o->b∈frs outer∨b∈cs∨∃o',B.get? b=some o') /\
 (∀b xs,H b=some (.tup xs)->H' b=some (.tup xs))/\(∀b o u,H b=some (.frz o u)->H' b=some (.frz o u)) /\
 (∀b ps,H b=some (.tbl ps)->∃more,H' b=some (.tbl (ps++more)))/\E (.ref C) none H'
section
variable {P:Program}{w:World}{K:W.Frag}{mg:Str->Option Value}{base:Heap}{N:List Str}{qual:Str}{scope:Scope}{f:Addr}{cd:Value}{A:Around}{outer:List Env}{s s1:Shared}{H H1:Hp}{E:XK}{pins:List (Addr×Obj)}{σ:St}
theorem xf0:L7 (CX1 P w) (X3 (CX1 P w) P w K mg base N qual scope f cd A outer s H E) E:=λ_ _ _ _ _ _ I hx=>yl5 I hx λ_ _ _ z=>z
theorem zx9 {e:Value}{s2:Shared}{E1:XK}{cs:List Addr}(I:Inv (X3 (CX1 P w) P w K mg base N qual scope f cd A outer s H E) pins σ H1 s1)(hcs:∀b∈cs,s.heap.get? b=none)(hx:CXH P w s.heap.objs.size cs (X3 (CX1 P w) P w K mg base N qual scope f cd A outer s H E).stack H1 s1 E1 e s2)(hE:∀C a H',E1 C a H'->E C a H') :
  (X3 (CX1 P w) P w K mg base N qual scope f cd A outer s H E).xe e s2:=by
 obtain ⟨ea,C,a0,B,H',rfl,hos,hbare,hok,hh,k1,k2,k3,k4,k5,k6,k7,hE1⟩:=hx
 show wpAny _ _ (leaving (envOfC qual scope s.heap.objs.size f cd) (.ref ea)) _ _ _
 unfold leaving
 refine wpAny_bind (wpAny_noteFrame_againW rfl hh.2.2.2 (wpAny_landsW hh λh'' x0 x2=>?_))
 obtain ⟨f1,f2,⟨_,_,f3⟩,f4⟩:=x0
 have x1:Heap.FlyingW B outer ea (.ref C) a0 h'':=⟨f1,f2,f3,f4⟩
 have ncs:∀b o,s.heap.get? b=some o->b∉cs:=λb o hb hm=>by rw [hcs b hm] at hb;cases hb
 have inB:∀b o,s.heap.get? b=some o->H b=none->b∉frs outer->B.get? b=some o:=λb o hb hn hf=>by
  have q:=I.base.keep b o hb hn hf (by intro z;cases z)
  refine k1 b o q (I.base.free b o hb hn (by intro z;cases z)) (λhm=>?_) (ncs b o hb)
  obtain ⟨env,he,ha⟩:=aC.mp hm
  rcases aw.mp he with rfl|he
  ·have e1:s.heap.objs.size=b:=Option.some.inj ha
   exact absurd (ai hb) (by rw [e1];exact aF _)
  ·exact hf (aC.mpr ⟨env,he,ha⟩)
 have sub:∀b,b∈frs outer->b∈frs (envOfC qual scope s.heap.objs.size f cd::outer):=λb hb=>by
  obtain ⟨env,he,ha⟩:=aC.mp hb
  exact aC.mpr ⟨env,aj _ he,ha⟩
 refine ⟨ea,C,a0,B,H',rfl,hos.trans I.os,hbare,hok,x1,inB,λb o hb hn hf=>?_,λb o hb hn=>?_,λb o hb=>?_,λb xs q=>k5 b xs (I.base.tups b xs q),λb o u q=>k6 b o u (I.base.frzs b o u q),λb ps q=>?_,hE _ _ _ hE1⟩
 ·obtain ⟨sl,q⟩:=I.base.slot b o hb hn hf (by intro z;cases z)
  have hn1:=I.base.free b o hb hn (by intro z;cases z)
  obtain ⟨sl2,q2⟩:=k2 b _ q hn1 (sub b hf)
  obtain ⟨_,o2,ho2,hd⟩:=I.funs.mem hf
  have e2:o2={ o with slots:=sl }:=Option.some.inj (ho2.symm.trans q)
  subst e2
  obtain ⟨sl',q'⟩:=x2 b _ q2 hd
  exact ⟨sl',q'⟩
 ·obtain ⟨o',q⟩:=I.base.there b o hb (by intro z;cases z)
  exact k3 b o' q (I.base.free b o hb hn (by intro z;cases z))
 ·by_cases hf:b∈frs outer
  ·exact .inl hf
  ·obtain ⟨o',q⟩:=I.base.there b o hb (by intro z;cases z)
   rcases k4 b o' q with hm|hm|hm
   ·obtain ⟨env,he,ha⟩:=aC.mp hm
    rcases aw.mp he with rfl|he
    ·have e1:s.heap.objs.size=b:=Option.some.inj ha
     exact absurd (ai hb) (by rw [e1];exact aF _)
    ·exact absurd (aC.mpr ⟨env,he,ha⟩) hf
   ·exact absurd hm (ncs b o hb)
   ·exact .inr hm
 ·obtain ⟨m1,q1⟩:=I.base.tbls b ps q
  obtain ⟨m2,q2⟩:=k7 b _ q1
  exact ⟨m1++m2,by rw [q2,cE]⟩
end
section
variable {P:Program}{w:World}{K:W.Frag}{mg:Str->Option Value}{base:Heap}{N:List Str}{qual:Str}{scope:Scope}{f:Addr}{cd:Value}{A:Around}{outer:List Env}{s:Shared}{H:Hp}{E:XK}
theorem U9 {x:Str}{p pos:Pos}{e:Expr}{es:List Expr}{t:TA}{ps:List Str}{sp:Sp}{k j:Nat}(kn:i4 P w K mg base k x ps sp)(hr:Z2 j (A.deeper (envOfC qual scope s.heap.objs.size f cd)))(hg:Gl (X3 (CX1 P w) P w K mg base N qual scope f cd A outer s H E) x)
  (ha:PA (X3 (CX1 P w) P w K mg base N qual scope f cd A outer s H E) (e::es) t) (hj:k<=j:=by decide) (hdb:(x==("__debug__":Str))=false:=by decide)
  (he:starEach (e::es) (envOfC qual scope s.heap.objs.size f cd)=(false,eval e (envOfC qual scope s.heap.objs.size f cd))::starEach es (envOfC qual scope s.heap.objs.size f cd):=by rfl) (hpl:(backTo pos (starEach es (envOfC qual scope s.heap.objs.size f cd))).any (·.1)=false:=by rfl) :
  PE (X3 (CX1 P w) P w K mg base N qual scope f cd A outer s H E) (.Call (.Name x p) (e::es) [] pos) (yd8 sp [] E t):=by
 obtain ⟨g,gd,G,hk,hm,hb⟩:=kn
 exact zn6 (X:=X3 (CX1 P w) P w K mg base N qual scope f cd A outer s H E) G (hr.mono hj) hg hm hk hb .nil xf0 ha hdb he hpl
end
def yo1 (M:Model)(A:Around)(E:Value->Shared->Prop)(env:Env)(use:Option (Value->Sem Unit))(Q:Value->Shared->Prop)(acc:Value)(C:Addr)(r:Result)(s':Shared):Prop :=
 match r with
 | .ok fl=>compPost M A E use Q acc C (.ok fl) s'
 | .error x=>∃m,s'.heap.Ns C m/\∀h',Heap.SameBut C s'.heap h'->wpAny M A (PySem.passOn "comprehension.variables-let-go" x env:Sem Value) (λ_ _=>False) E { s' with heap:=h' }
theorem zn3 {α:Type}{what:String}{x:Value}{a b:Env}(h:a.frame=b.frame):(PySem.passOn what x a:Sem α)=PySem.passOn what x b:=by
 unfold PySem.passOn
 rw [h]
theorem A6 {x:Value}{a b:Env}(h:a.frame=b.frame):noteFrame x a=noteFrame x b:=by
 unfold noteFrame PySem.frameOf
 rw [h]
section
variable {M:Model}{A:Around}{E:Value->Shared->Prop}{s:Shared}{env:Env}
theorem zw5 {ex:Expr}{sco:Scope}{pos:Pos}{newAcc first:Sem Value}{cg:Comprehension}{cgs:List Comprehension}{cls:List (Str×Addr)}{use:Option (Value->Sem Unit)}{Q:Value->Shared->Prop}
  (hcl:clausesOf ex=cg::cgs) (hs:∀x,foldedSetIterable cg.iter env x=pure x) (hclos:closureFor sco env=pure cls) (hkd:sco.kind=.function) (hnm:∀x∈sco.names,x.2=.local->sco.names.lookup x.1=some .local)
  (h:wpAny M A first (λx t1=>wpAny M A (pyIter x) (λit t2=>wpAny M A newAcc (λacc t3=>wpAny M A (newFunctionEnv sco env.globals cls [] env.qual none .none (some env)) (λce t4=>ce.frame=env.frame /\
    codeAny M A (.compStart ex 0 it acc { ce with scope:=relabel sco env }) (yo1 M A E env use Q acc ce.locals) t4) E t3) E t2) E t1) E s):wpAny M A (comprehension ex sco env pos newAcc false first use) Q E s:=by
 unfold comprehension
 rw [hclos,hcl]
 refine wpAny_bind (thn h λx t1 h1=>wpAny_bind (wpAny_standAt (wpAny_bind (wpAny_of_eq (hs x) (wpAny_bind (wpAny_holding (thn h1 λit t2 h2=>wpAny_standIf (wpAny_bind (thn h2 λacc t3 h3=>wpAny_bind (wpAny_pure (wpAny_bind (thn h3 λce t4 h4=>?_))))))))))))
 dsimp only
 obtain ⟨hfr,h4⟩:=h4
 have v1:∀x∈(sco.names.filter λx=>(x.2 == .local || x.2 == .cell)&&x.1 != (".0":Str)).reverse,x.2=.local->Env.kindOf { ce with scope:=relabel sco env } x.1=some .local:=λx hx hl=>lookup_relabel_local (hnm x (cz.mp (cK.mp hx)).1 hl)
 have v2:∀x∈(sco.names.filter λx=>(x.2 == .local || x.2 == .cell)&&x.1 != (".0":Str)).reverse.drop 1++(sco.names.filter λx=>(x.2 == .local || x.2 == .cell)&&x.1 != (".0":Str)).reverse.take 1,x.2=.local->Env.kindOf { ce with scope:=relabel sco env } x.1=some .local:=λx hx hl =>
  (bf.mp hx).elim (λz=>v1 x (bV z) hl) λz=>v1 x (cC z) hl
 refine wpAny_holding (wpAny_bind (wpAny_attempt (wpAny_holding (wpAny_run (codeAny_mono h4 λrs t5 hr=>?_)))))
 cases rs with
 | ok fl =>
  cases use with
  | none =>
   obtain ⟨m,hn,hr⟩:=(show compPost M A E none Q acc ce.locals (.ok fl) t5 from hr)
   exact wpAny_bind (wpAny_holding (wpAny_comp_letGo (cenv:={ ce with scope:=relabel sco env }) hkd _ t5 m v1 hn λh' m' _ hs'=>wpAny_pure (hr h' hs')))
  | some u =>
   have hr0:compPost M A E (some u) Q acc ce.locals (.ok fl) t5:=hr
   refine wpAny_bind (wpAny_rule (wpAny_bind (wpAny_holding (thn hr0 λ_ t6 hr'=>?_))))
   obtain ⟨m,hn,hr'⟩:=hr'
   exact wpAny_bind (wpAny_comp_letGo (cenv:={ ce with scope:=relabel sco env }) hkd _ t6 m v2 hn λh' m' _ hs'=>wpAny_pure (hr' h' hs'))
 | error x =>
  obtain ⟨m,hn,hr⟩:=hr
  refine wpAny_bind (wpAny_holding (wpAny_comp_letGo (cenv:={ ce with scope:=relabel sco env }) hkd _ t5 m v1 hn λh' m' _ hs'=>?_))
  show wpAny M A (PySem.passOn "comprehension.variables-let-go" x { ce with scope:=relabel sco env }) _ _ _
  rw [zn3 (a:={ ce with scope:=relabel sco env }) (b:=env) hfr]
  exact wpAny_mono (hr h' hs') (λ_ _ (z:False)=>z.elim) λ_ _ z=>z
theorem ze7 {B:Heap}{l:List Env}{ea L:Addr}{cl a0:Value}{Q:Unit->Shared->Prop}(hh:Heap.HeldW B l ea cl a0 L s.heap)(h:∀h',Heap.HeldW B l ea cl a0 L h'->s.heap.UpToSlots h'->Q () { s with heap:=h' }):wpAny M A (setFlight (.ref ea) (some L)) Q E s:=by
 obtain ⟨g1,g2,g3,ox,vx,tb,ot,tx,x1,x2,x3,x4,x5,x6,x7,x8,x9⟩:=hh
 have z3:3<tx.size:=(bh.mp x9).1
 have oth:∀b,b≠tb->(s.heap.update tb (Obj.mapFields (·.setIfInBounds 3 ((some L).elim Value.none λf=>rawInt f)))).get? b=s.heap.get? b:=λb hb=>Heap.get?_update_other _ _ (Ne.symm hb)
 have nrec:∀b o,s.heap.get? b=some o->(∀vs,o.data≠.fields vs)->b≠tb:=λb o hb hn z=>by
  subst z
  rw [x7] at hb
  cases hb
  exact hn tx x8
 unfold setFlight
 refine wpAny_bind (wpAny_field x1 x3 x4 ?_)
 rw [if_pos (show (Value.ref tb != Value.none)=true by simp)]
 refine wpAny_setField x7 x8 z3 (h _ ⟨λb o q=>(oth b λz=>by subst z;rw [x5] at q;cases q).trans (g1 b o q),g2,g3.of_keeps λb o q n=>⟨o,(oth b (nrec b o q n)).trans q,rfl⟩,?_⟩ λb o q n=>⟨o.slots,(oth b (nrec b o q n)).trans q⟩)
 exact ⟨ox,vx,tb,_,_,(oth ea (Ne.symm x6)).trans x1,x2,x3,x4,x5,x6,Heap.get?_update_self _ x7 (Obj.isFreed_of_fields (Obj.data_mapFields x8 _)),Obj.data_mapFields x8 _,by simp [z3]⟩
theorem zt3 {α:Type}{what:String}{B:Heap}{l:List Env}{ea L:Addr}{cl a0:Value}{Q:α->Shared->Prop}(hf:env.frame=some L)(hh:Heap.HeldW B l ea cl a0 L s.heap)(h:∀h',Heap.HeldW B l ea cl a0 L h'->s.heap.UpToSlots h'->E (.ref ea) { s with heap:=h' }):wpAny M A (PySem.passOn what (.ref ea) env:Sem α) Q E s:=by
 have hh0:=hh
 obtain ⟨g1,g2,g3,ox,vx,tb,ot,tx,x1,x2,x3,x4,x5,x6,x7,x8,x9⟩:=hh
 unfold PySem.passOn
 refine wpAny_bind (wpAny_field x1 x3 x4 ?_)
 rw [if_neg (show ¬(Value.ref tb==Value.none)=true by simp),hf]
 exact wpAny_bind (ze7 hh0 λh' a b=>wpAny_throw (h h' a b))
end
theorem zc4 {B h1 h2:Heap}{C:Addr}{oC:Obj}(hC:B.get? C=some oC)(sb:Heap.SameBut C h1 h2):∀{l:List Env},h1.FunFrames B l->h2.FunFrames B l
 | [],_=>trivial
 | _::_,⟨hk,⟨L,o,hf,hn,ho,hd⟩,hr⟩=>⟨hk,⟨L,o,hf,hn,(sb.2 L λz=>by rw [z,hC] at hn;cases hn).trans ho,hd⟩,zc4 hC sb hr⟩
theorem yk4 {B h1 h2:Heap}{l:List Env}{ea L C:Addr}{cl a0:Value}{oC:Obj}(hC:B.get? C=some oC)(sb:Heap.SameBut C h1 h2)(hh:Heap.HeldW B l ea cl a0 L h1):Heap.HeldW (W.hideAll B [C]) l ea cl a0 L h2:=by
 obtain ⟨g1,g2,g3,ox,vx,tb,ot,tx,x1,x2,x3,x4,x5,x6,x7,x8,x9⟩:=hh
 have st:(W.hideAll B [C]).StaysIn B:=λb o q=>W.of_hideAll _ q
 have none_of:∀b,B.get? b=none->(W.hideAll B [C]).get? b=none:=λb e=>by
  cases q:(W.hideAll B [C]).get? b with
  | none=>rfl
  | some o=>rw [st b o q] at e;cases e
 refine ⟨λb o q=>?_,none_of _ g2,W.funFrames_base st (zc4 hC sb g3),ox,vx,tb,ot,tx,(sb.2 ea λz=>by rw [z,hC] at g2;cases g2).trans x1,x2,x3,x4,none_of _ x5,x6,(sb.2 tb λz=>by rw [z,hC] at x5;cases x5).trans x7,x8,x9⟩
 have ne:b≠C:=λz=>by
  subst z
  have q':(B.hide b).get? b=some o:=q
  rw [Heap.hide_self] at q'
  cases q'
 exact (sb.2 b ne).trans (g1 b o (st b o q))
abbrev b9 (X:Cx) (E:XK) (N':List Str) (scope:Scope) (C:Addr) (s₃:Shared) (H₃:Hp) (fp:List Addr):Cx :=
 (p9 X N' scope C s₃ H₃ fp).wish λe s'=>∃(pins:List (Addr×Obj)) (σ:St) (H:Hp) (s:Shared),Inv (p9 X N' scope C s₃ H₃ fp) pins σ H s/\CX1 X.prog X.w X.stack H s E e s'
theorem xe9 {X:Cx}{E:XK}{N':List Str}{scope:Scope}{C:Addr}{s₃:Shared}{H₃:Hp}{fp:List Addr}:L7 (CX1 X.prog X.w) (b9 X E N' scope C s₃ H₃ fp) E:=λpins σ H s _ _ I hx=>⟨pins,σ,H,s,I.unwish,hx⟩
def yi1 (X:Cx)(E:XK):Prop:=∀(pins:List (Addr×Obj)) (σ:St) (H1:Hp) (s1 s2:Shared) (cs:List Addr) (e:Value),Inv X pins σ H1 s1->(∀b∈cs,X.s₀.heap.get? b=none)->CXH X.prog X.w X.env.locals cs X.stack H1 s1 E e s2->X.xe e s2
theorem xf1 {P:Program}{w:World}{K:W.Frag}{mg:Str->Option Value}{base:Heap}{N:List Str}{qual:Str}{scope:Scope}{f:Addr}{cd:Value}{A:Around}{outer:List Env}{s:Shared}{H:Hp}{E:XK}:yi1 (X3 (CX1 P w) P w K mg base N qual scope f cd A outer s H E) E :=
 λ_ _ _ _ _ _ _ I hcs hx=>zx9 I hcs hx λ_ _ _ z=>z
section
variable {X:Cx}{E:XK}{own:Nat}{fr:List Nat}{N':List Str}{tg iter elt:Expr}{scope:Scope}{pos:Pos}{wi:TI}{g:CT TG}{te:CT TE}
theorem ye9 {pins:List (Addr×Obj)}{s:Shared}{σ:St}{H:Hp}{Q:Addr->Hp->Prop}{use:Option (Value->Sem Unit)}{Q':Value->Shared->Prop}{pos':Pos}(hp:yi1 X E)(hst:X.stack=X.env::X.outer)(hfr0:X.env.frame=some X.env.locals)(hc:X.calm=true)(hi:PI X tg iter wi)(hg:∀C s₃ H₃ fp,PG (p9 X N' scope C s₃ H₃ fp) tg (g C s₃ H₃ fp))(he:∀C s₃ H₃ fp,PE (b9 X E N' scope C s₃ H₃ fp) elt (te C s₃ H₃ fp))
  (hok:zk4 scope X.env.scope (N'.drop own)) (hfr:fr.map (λj=>X.N[j]?)=(N'.drop own).map some) (hown:own<=N'.length) (hs:∀x,foldedSetIterable iter X.env x=pure x)
  (I:Inv X pins σ H s) (h:ya4 own fr wi g te σ H Q)
  (fin:∀D C m H' s',Inv X pins σ H' s'->s'.heap.Ns C m->yv7 X pins H' C->Q D H'->compPost (model X.prog X.w) X.A X.xe use Q' (.ref D) C (.ok .next) s') :
  wpAny (model X.prog X.w) X.A (comprehension (.ListComp elt [⟨tg,iter,[],0⟩] scope pos) scope X.env pos' (newList []) false (eval iter X.env) use) Q' X.xe s:=by
 refine zw5 rfl hs (P3 λy hy hk=>I.ok.has y.1 (hok.free y hy hk)) hok.kind hok.loc (thn (hi pins s σ H _ I h) λxv s1 h1=>thn h1 λitv s2 h2=>?_)
 obtain ⟨it,fp,tn,J,H2,e,I2,T,st2,f2,body⟩:=h2
 subst e
 refine wpAny_newList (items:=[]) ?_
 have hD:H2 s2.heap.objs.size=none:=I2.hok.fresh (af _)
 have I3:Inv X pins σ (upd H2 s2.heap.objs.size (.lst [])) { s2 with heap:=s2.heap.push { cls:=.type "list",data:=.seq ([]:List Value).toArray } }:=I2.lnew (its:=[]) (t':=s2.toks) .nil (by decide)
 obtain ⟨W,⟨m0,w0⟩,turn⟩:=body _ hD
 generalize hDD:s2.heap.objs.size=D at hD I3 w0 turn ⊢
 have up3:∀b o,s2.heap.get? b=some o->(s2.heap.push { cls:=.type "list",data:=.seq ([]:List Value).toArray }).get? b=some o:=λb o e=>ae _ e
 have st3:tn 0 (s2.heap.push { cls:=.type "list",data:=.seq ([]:List Value).toArray }):=T.keep _ _ _ st2 λb _ o e=>up3 b o e
 have fpne:∀b∈fp,b≠D:=λb hb e=>by
  obtain ⟨o,ho,_⟩:=T.obj _ _ st2 b hb
  rw [e,←hDD] at ho
  exact absurd (ai ho) (aF _)
 have f3:∀b∈fp,zb3 X pins (upd H2 D (.lst [])) b:=λb hb=>⟨by rw [u9 (fpne b hb)];exact (f2 b hb).1,(f2 b hb).2⟩
 generalize hs3:({ s2 with heap:=s2.heap.push { cls:=.type "list",data:=.seq ([]:List Value).toArray } }:Shared)=s3 at I3 ⊢
 have st3':tn 0 s3.heap:=by rw [←hs3];exact st3
 generalize upd H2 D (.lst [])=H3 at I3 f3 w0
 have hob:∀b∈fp,∃o,s3.heap.get? b=some o:=λb hb=>let ⟨o,ho,_⟩:=T.obj _ _ st3' b hb;⟨o,ho⟩
 refine wpAny_newFunctionEnv hok.cell (by intro y hy;simp at hy) (λh₁ hns₁ hsb₁=>⟨rfl,?_⟩) hok.kind
 have up4:∀b o,s3.heap.get? b=some o->h₁.get? b=some o:=λb o e=>(hsb₁.2 b (av (ai e))).trans (ae _ e)
 have I4:=zr3 (N':=N') (own:=own) (fr:=fr) (scope:=scope) (t:=s3.toks+([]:List (Str×Value)).length) I3 f3 hob hok hfr hown hns₁ hsb₁
 have st4:tn 0 h₁:=T.keep _ _ _ st3' λb _ o e=>up4 b o e
 have stat:∀{H':Hp} ,(∀b∈fp,H' b=none)->∀b∈fp,zb3 (p9 X N' scope s3.heap.objs.size s3 H3 fp) [] H' b:=λhn b hb=>by
  refine ⟨hn b hb,(I4.ok.exf b hb).1,I4.ok.exfs b hb,.inl hb,(I4.ok.exf b hb).2,λp hp=>by cases hp⟩
 have back:∀{pins':List (Addr×Obj)} {σ':St} {H':Hp} {s':Shared},Inv (p9 X N' scope s3.heap.objs.size s3 H3 fp) pins' σ' H' s'->Inv X pins σ H' s':=λI6 =>
  I3.call' (ch:=fp) (by have:=I6.os;exact this) I6.base I6.hok I6.bare λb hb=>⟨(f3 b hb).2.2.2.1,(f3 b hb).2.1,(f3 b hb).2.2.2.2.1,(f3 b hb).2.2.2.2.2⟩
 have hC0:X.s₀.heap.get? s3.heap.objs.size=none:=by
  cases q:X.s₀.heap.get? s3.heap.objs.size with
  | none=>rfl
  | some o=>exact absurd (ai q) (dC.mpr I3.sz)
 have hCf:s3.heap.objs.size∉frs X.stack:=λhm=>by
  rcases aw.mp (I3.stkSub _ hm) with e|e
  ·exact absurd I3.lt (by rw [←e];exact aF _)
  ·exact I3.nofs (af _) e
 have exc:∀(ex:Value) (s9:Shared),(b9 X E N' scope s3.heap.objs.size s3 H3 fp).xe ex s9->notedBy (model X.prog X.w) X.A (p9 X N' scope s3.heap.objs.size s3 H3 fp).env (λe s'=>yo1 (model X.prog X.w) X.A X.xe X.env use Q' (.ref D) s3.heap.objs.size (.error e) s') ex s9:=by
  rintro ex s9 ⟨pins8,σ8,H8,s8,I8,hx⟩
  obtain ⟨ea,C0,a0,B,H',rfl,hos,hbare,hok',hfl,k1,k2,k3,k4,k5,k6,k7,hE⟩:=hx
  have I8o:=back I8
  obtain ⟨m8,hn8,_⟩:=I8.loc
  obtain ⟨oC,esC,epC,hoC,hdC,rC⟩:=hn8
  have hBC:B.get? s3.heap.objs.size=some oC:=k1 _ oC hoC I8.free hCf
  have hfl':=hfl
  rw [hst] at hfl'
  unfold notedBy
  rw [A6 (a:=(p9 X N' scope s3.heap.objs.size s3 H3 fp).env) (b:=X.env) rfl]
  refine wpAny_looks_onW (hst ▸ I8o.ok.frames) hfr0 hfl' λh1 held u1=>?_
  rw [←hst] at held
  refine ⟨m8,⟨oC,esC,epC,held.1 _ _ hBC,hdC,rC⟩,λh2 sb=>?_⟩
  refine zt3 hfr0 (yk4 hBC sb held) λh3 held3 u3=>?_
  refine hp pins σ H8 s8 _ [s3.heap.objs.size] _ I8o (λb hb=>by rw [az.mp hb];exact hC0) ⟨ea,C0,a0,_,H',rfl,hos,hbare,?_,held3,λb o q n hf hcs=>?_,λb o q n hf=>?_,k3,λb o q=>?_,k5,k6,k7,hE⟩
  ·refine zr2 hok' λb hb=>?_
   rw [az.mp hb]
   exact k3 _ oC hoC I8.free
  ·exact PySem.W.hideAll_get _ (k1 b o q n hf) hcs
  ·obtain ⟨sl,q1⟩:=k2 b o q n hf
   obtain ⟨_,o2,ho2,hd⟩:=hfl.2.2.1.mem hf
   have e2:o2={ o with slots:=sl }:=Option.some.inj (ho2.symm.trans q1)
   subst e2
   obtain ⟨sl2,q2⟩:=u1 b _ q1 hd
   have q3:h2.get? b=some { o with slots:=sl2 }:=(sb.2 b λz=>hCf (z ▸ hf)).trans q2
   obtain ⟨sl3,q4⟩:=u3 b _ q3 (λvs=>hd vs)
   exact ⟨sl3,q4⟩
  ·rcases k4 b o q with hm|⟨o',q'⟩
   ·exact .inl hm
   ·by_cases hb:b=s3.heap.objs.size
    ·exact .inr (.inl (by rw [hb];exact az.mpr rfl))
    ·exact .inr (.inr ⟨o',PySem.W.hideAll_get _ q' λz=>hb (az.mp z)⟩)
 have loop:codeAny (model X.prog X.w) X.A (.compLoop (.ListComp elt [⟨tg,iter,[],0⟩] scope pos) 0 (.ref it) (.ref D) (p9 X N' scope s3.heap.objs.size s3 H3 fp).env)
   (yo1 (model X.prog X.w) X.A X.xe X.env use Q' (.ref D) s3.heap.objs.size) { s3 with heap:=h₁,toks:=s3.toks+([]:List (Str×Value)).length }:=by
  refine Y8 (λn s'=>∃i σ' H',Inv (p9 X N' scope s3.heap.objs.size s3 H3 fp) [] σ' H' s'/\tn i s'.heap/\(∀b∈fp,H' b=none)/\W i n σ' H') ?_ m0 ⟨0,_,H3,I4,st4,λb hb=>(f3 b hb).1,w0⟩
  rintro n s5 ⟨i,σ5,H5,I5,st5,fr5,w5⟩
  rcases turn i n σ5 H5 w5 with ⟨stop,q⟩|⟨go,step⟩
  ·refine wpAny_mono (T.done (p9 X N' scope s3.heap.objs.size s3 H3 fp) rfl rfl rfl hc i [] s5 σ5 H5 (λ_ _=>False) I5 (stat fr5) st5 stop) (λr s6 ⟨hr,I6⟩=>?_) λ_ _ z=>z.elim
   subst hr
   obtain ⟨m6,hn6,_⟩:=I6.loc
   refine fin D s3.heap.objs.size m6 H5 s6 (back I6) hn6 ⟨I6.free,ci I3.lt,I3.sz,λx c e z=>?_,λp hp z=>?_⟩ q
   ·obtain ⟨v,z1⟩:=I3.cell x c e
    exact absurd z1.lt (by rw [z];exact aF _)
   ·exact absurd (ai (I3.pin p hp).1) (by rw [z];exact aF _)
  ·refine wpAny_mono (T.item (p9 X N' scope s3.heap.objs.size s3 H3 fp) rfl rfl rfl hc i [] s5 σ5 H5 (λ_ _=>False) I5 (stat fr5) st5 go) (λr s6 ⟨u,hr,h6⟩=>?_) λ_ _ z=>z.elim
   subst hr
   refine wpAny_mono h6 (λ_ s7 ⟨x,H7,I7,r7,y7,st7,fr7⟩=>?_) λ_ _ z=>z.elim
   have I7':=I7.pinned (stat fr7) (T.obj _ _ st7)
   refine wpAny_mono (hg _ _ _ _ _ s7 σ5 H7 x u _ I7' r7 (step x H7 y7 _ _ _ _)) (λ_ s8 ⟨σ8,H8,I8,N,q8,hN⟩=>?_) λ_ _ z=>z.elim
   refine wpAny_mono (he _ _ _ _ _ s8 σ8 H8 N (I8.wish _) q8) (λyv s9 ⟨y,H9,I9',r9,n9⟩=>?_) exc
   have I9:=I9'.unwish
   obtain ⟨ys,m',hD9,hlt,hm,w9⟩:=hN y H9 n9
   refine wpAny_mono (Z0 (X:=p9 X N' scope s3.heap.objs.size s3 H3 fp) _ s9 σ8 H9 (.ref D) [y] (.ref D) [yv] (λ_ H'=>H'=upd H9 D (.lst (ys++[y]))) I9 rfl (.cons r9 .nil) ⟨D,ys,y,rfl,rfl,hD9,hlt,rfl⟩) (λ_ s10 ⟨_,H10,I10,_,q10⟩=>?_) λ_ _ z=>z.elim
   subst q10
   have pin:=λb hb o e=>I10.pin (b,o) (aM _ (aM _ (S7 (h:=s7.heap) (fp:=fp) hb e)))
   refine ⟨m',hm,i+1,σ8,_,I10.unpinned,T.keep _ _ _ st7 λb hb o e=>(pin b hb o e).1,λb hb=>?_,w9⟩
   obtain ⟨o,e,d⟩:=T.obj _ _ st7 b hb
   exact (pin b hb o e).2.1
 exact codeAny_compStart_list loop (T.self X.A 0 _ _ _ st4 loop)
theorem zt9 {i:Nat}{x y:Str}{px py spos:Pos}(hp:yi1 X E)(hst:X.stack=X.env::X.outer)(hfr0:X.env.frame=some X.env.locals)(fr:List Nat)(N':List Str)(hNd:X.N.Nodup)(hy:X.N[i]?=some y)(hl:X.env.scope.names.lookup y=some .local)(hc:X.calm=true)(hi:PI X (.Name x px) iter wi)(he:∀C s₃ H₃ fp,PE (b9 X E N' scope C s₃ H₃ fp) elt (te C s₃ H₃ fp))
  (hsw:swapsWith (.ListComp elt [⟨.Name x px,iter,[],0⟩] scope pos) (some (.Name y py)) spos.line X.env=pure true:=by rfl) (hN:N'.Nodup:=by decide +kernel) (h0:N'[0]?=some x:=by rfl) (hx:scope.names.lookup x=some .local:=by rfl)
  (hok:K0 scope X.env.scope (N'.drop 1)=true:=by rfl) (hfr:fr.map (λj=>X.N[j]?)=(N'.drop 1).map some:=by rfl) (hown:1<=N'.length:=by decide) (hs:∀x,foldedSetIterable iter X.env x=pure x:=by intro _;rfl) :
  PS X (.Assign [.Name y py] (.ListComp elt [⟨.Name x px,iter,[],0⟩] scope pos) spos) (ya3 (zv6 1 fr wi (λ_ _ _ _=>Y1 0) te) (Y1 i)):=by
 intro pins s σ H D I h
 rw [exec_Assign_Name_used _ _ _ _ hsw]
 refine wpAny_bind (wpAny_standAt (wpAny_bind ?_))
 show wpAny _ X.A (do let _ ←comprehension (.ListComp elt [⟨.Name x px,iter,[],0⟩] scope pos) scope X.env _ (newList []) false (eval iter X.env) (some (assign (.Name y py) X.env))) _ _ s
 refine wpAny_bind (wpAny_mono (ye9 (use:=some (assign (.Name y py) X.env)) (Q':=λ_ s'=>SP X pins D .next s') hp hst hfr0 hc hi (λ_ _ _ _=>k8 hN h0 (.inl (lookup_relabel_local hx)) (.inr (lookup_relabel_local hx))) he (E9 hok) hfr hown hs I h λDl C m H' s' I' hn sp q=>?_) (λ_ s' hq=>wpAny_pure (wpAny_pure hq)) λ_ _ e=>e)
 show wpAny _ X.A (assign (.Name y py) X.env (.ref Dl)) _ _ _
 refine wpAny_assign_Name (N7 (v:=.ref Dl) I' hNd hy (.inl hl) rfl (λs2 I2 ⟨a,sb,ha⟩=>?_) (.inr hl))
 have hCa:C≠a:=by
  rcases ha with e|e
  ·rw [e];exact sp.2.1
  ·exact λz=>sp.2.2.2.1 y a e z.symm
 refine ⟨m,hn.sameBut sb hCa,λh' sb'=>⟨_,H',?_,q⟩⟩
 exact I2.turned (t':=s2.toks) (λb o hb e=>(sb'.2 b hb).trans e) sp.1 sp.2.1 (.inr sp.2.2.1) sp.2.2.2.1 sp.2.2.2.2
theorem xb1 {C:Addr}{s₃:Shared}{H₃:Hp}{fp:List Addr}{x:Str}{p cpos:Pos}{e:Expr}{es:List Expr}{t:TA}{ps:List Str}{sp:Sp}{k j:Nat}(kn:i4 X.prog X.w X.K X.mg X.base k x ps sp)(hr:Z2 j X.A)(hg:Gl (b9 X E N' scope C s₃ H₃ fp) x)
  (ha:PA (b9 X E N' scope C s₃ H₃ fp) (e::es) t) (hj:k<=j:=by decide) (hdb:(x==("__debug__":Str))=false:=by decide)
  (he:starEach (e::es) (b9 X E N' scope C s₃ H₃ fp).env=(false,eval e (b9 X E N' scope C s₃ H₃ fp).env)::starEach es (b9 X E N' scope C s₃ H₃ fp).env:=by rfl) (hpl:(backTo cpos (starEach es (b9 X E N' scope C s₃ H₃ fp).env)).any (·.1)=false:=by rfl) :
  PE (b9 X E N' scope C s₃ H₃ fp) (.Call (.Name x p) (e::es) [] cpos) (yd8 sp [] E t):=by
 obtain ⟨f,fd,G,hk,hm,hb⟩:=kn
 exact zn6 (X:=b9 X E N' scope C s₃ H₃ fp) G (hr.mono hj) hg hm hk hb .nil xe9 ha hdb he hpl
end
def XEp (X:Cx)(pins:List (Addr×Obj))(EX:St->XK):Value->Shared->Prop:=λe s'=>∃(σ:St) (H:Hp) (s:Shared),Inv X pins σ H s/\CX1 X.prog X.w X.stack H s (EX σ) e s'
def QS (X:Cx)(st:Stmt)(t:(St->XK)->TS):Prop:=∀(pins:List (Addr×Obj)) (s:Shared) (σ:St) (H:Hp) (D:L6) (EX:St->XK),Inv X pins σ H s->t EX D σ H->wpAny (model X.prog X.w) X.A (exec st X.env) (SP X pins D) (XEp X pins EX) s
def QSs (X:Cx)(st:List Stmt)(t:(St->XK)->TS):Prop:=∀(pins:List (Addr×Obj)) (s:Shared) (σ:St) (H:Hp) (D:L6) (EX:St->XK),Inv X pins σ H s->t EX D σ H->wpAny (model X.prog X.w) X.A (execs st X.env) (SP X pins D) (XEp X pins EX) s
section
variable {X:Cx}
theorem yd0:QSs X [] (λ_ D σ H=>D.nx σ H):=λ_ _ σ H _ _ I h=>wpAny_execs_nil ⟨σ,H,I,h⟩
theorem zu3 {st:Stmt}{g9:List Stmt}{t u:(St->XK)->TS}(h1:QS X st t)(h2:QSs X g9 u):QSs X (st::g9) (λEX=>yv3 (t EX) (u EX)):=by
 intro pins s σ H D EX I h
 refine wpAny_execs_cons (thn (h1 pins s σ H { D with nx:=u EX D } EX I h) λfl s1 q=>?_)
 cases fl with
 | next =>
  obtain ⟨σ',H',I',q⟩:=q
  exact h2 pins s1 σ' H' D EX I' q
 | ret v=>exact q
 | brk=>exact q
 | cont=>exact q
theorem yc8 {body:List Stmt}{tb:(St->XK)->TS}{h0:ExceptHandler}{hs:List ExceptHandler}{th:Addr->Addr->TS}{pos:Pos}(hb:QSs X body tb)(hh:PH X (h0::hs) th)(hst:X.stack=X.env::X.outer)(hfr:X.env.frame=some X.env.locals) :
  PS X (.Try body (h0::hs) [] [] pos) (λD σ H=>∃EX:St->XK,tb EX D σ H/\∀(σ':St) (ea C:Addr) (H':Hp),EX σ' (.ref C) none H'->H' ea=none->th ea C D σ' (upd H' ea (E5 ea C))):=by
 rintro pins s σ H D I ⟨EX,h1,h2⟩
 refine wpAny_Try_except (wpAny_mono (hb pins s σ H D EX I h1) (λfl s1 q=>?_) λex s' ⟨σ',H',s2,I',hx⟩=>?_)
 ·cases fl with
  | next=>exact wpAny_execs_nil q
  | ret u=>exact q
  | brk=>exact q
  | cont=>exact q
 ·exact yi5 I' hst hfr hx λea C H2 s3 _ cg hn hE=>hh pins σ' _ ea C s3 D cg (h2 σ' ea C H2 hE hn)
end
section
end
section
variable {X:Cx}
theorem zn0 (hu:X.A.units+64<cLine):OpR X (compareOp .Eq) (λx y H Q=>∃d e,Dt H x d/\Dt H y e/\PySem.SeqAt.shaped d=true/\PySem.SeqAt.shaped e=true/\Q (.bl (PyData.eqv d e)) H):=by
 intro pins s σ H x y v u Q I rx ry h
 obtain ⟨d,e,hd,he,s1,s2,q⟩:=h
 obtain ⟨as,ra⟩:=hd.reads I (PySem.SeqAt.canLay_of_shaped s1) v rx
 obtain ⟨bs,rb⟩:=he.reads I (PySem.SeqAt.canLay_of_shaped s2) u ry
 exact eq_dataH ra rb s1 s2 hu ⟨.bl _,H,I,rfl,q⟩
theorem zn1 (hu:X.A.units+64<cLine):OpR X (compareOp .NotEq) (λx y H Q=>∃d e,Dt H x d/\Dt H y e/\PySem.SeqAt.shaped d=true/\PySem.SeqAt.shaped e=true/\Q (.bl (!PyData.eqv d e)) H):=by
 intro pins s σ H x y v u Q I rx ry h
 obtain ⟨d,e,hd,he,s1,s2,q⟩:=h
 obtain ⟨as,ra⟩:=hd.reads I (PySem.SeqAt.canLay_of_shaped s1) v rx
 obtain ⟨bs,rb⟩:=he.reads I (PySem.SeqAt.canLay_of_shaped s2) u ry
 exact ne_dataH ra rb s1 s2 hu ⟨.bl _,H,I,rfl,q⟩
end
section
variable {X:Cx}{tg:Expr}
end
open PySem.W PySem.Builtin PySem.Builtin.ObjectAttr PySem.Builtin.Getset_descriptor
section
variable {X:Cx}
theorem xc9 {a b:Expr}{ta tb:TE}{r:R2}{pos:Pos}(hr:IxR X r)(ha:DE X a ta)(hb:PE X b tb)(hs:ya9 b):DE X (.Subscript a b pos) (tOp r ta tb):=⟨V7 hr ha.h hb hs⟩
theorem xd2 {c:Expr}{a b:List Stmt}{tc:TT}{t u:TS}{pos:Pos}(hc:PT X c tc)(ha:DSs X a t)(hb:DSs X b u):DS X (.If c a b pos) (xg4 tc t u):=⟨t8 hc ha.h hb.h⟩
theorem ys0 {st:Stmt}{t:TS}(h:DS X st t):DSs X [st] t:=⟨z7 h.h⟩
theorem yr9:DSs X [] yw9:=⟨y9⟩
end
structure zk5 (K:W.Frag) (C:Addr):Prop where
 ga:W.findIn K (.ref C) "__getattribute__"=some (some (.builtin "BaseException.__getattribute__"))
 no:W.findIn K (.ref C) "__getattr__"=some none
 cl:W.findIn K (.ref C) "__class__"=some (some (.builtin "object.__class__"))
 be:W.mroIn K C (.type "BaseException")=some true
 ob:W.mroIn K C (.type "object")=some true
 gt:W.specialIn K (.builtin "object.__class__") "__get__"=some (some (.builtin "getset_descriptor.__get__"))
 tk:W.takesIn K (.builtin "object.__class__")=some true
section
variable {prog:Program}{w:World}{A:Around}{E:Value->Shared->Prop}{s:Shared}{K:W.Frag}{x C:Addr}{o:Obj}
theorem E4 {M:Model}{h:Heap}(hx:h.get? x=some o)(hc:o.cls=.ref C):W.Looks M h (typeOf (.ref x)) (.ref C):=hc ▸ (W.Looks.ld hx).andThen .now
theorem yv5 {M:Model}{h:Heap}(X:K.In h)(a:zk5 K C):W.Looks M h (Builtin.ObjectAttr.find (.ref x) (.ref C) "__class__") (.bind (.builtin "getset_descriptor.__get__") (.builtin "object.__class__")):=by
 have L3:=looks_takesIn (M:=M) X a.tk
 have g:W.Looks M h (Builtin.ObjectAttr.getOf (some (.builtin "object.__class__"))) (some (.builtin "getset_descriptor.__get__")):=looks_specialIn X a.gt
 refine (looks_findIn (M:=M) X a.cl).andThen (g.andThen ?_)
 exact (show W.Looks M h (Builtin.ObjectAttr.dataDescriptor? (some (.builtin "object.__class__")) (some (.builtin "getset_descriptor.__get__"))) (some (.builtin "getset_descriptor.__get__",.builtin "object.__class__")) from L3.andThen .now).andThen (Looks.tag .now)
theorem xc5 {R:Result->Shared->Prop}{tp:Value}(X:K.In s.heap)(a:zk5 K C)(hx:s.heap.get? x=some o)(hc:o.cls=.ref C)(h:R (.ok (.ret (.ref C))) s) :
  codeAny (model prog w) A (.call (.builtin "getset_descriptor.__get__") ⟨[.builtin "object.__class__",.ref x,tp],[]⟩) R s:=by
 obtain ⟨hh,g,dr,t,os⟩:=s
 have La:=E4 (M:=model prog w) hx hc
 have Lb:=looks_mroIn (M:=model prog w) X a.ob
 refine codeAny_call_builtin KF.slot_gs.plain KF.entry_gs (KF.slot_gs.check _ _ _ _ _ _ _ _ KF.type_class (KF.args_gs _ _ _) (by
  unfold Builtin.«getset_descriptor.__get__» descrGet;rw [dga_obj]
  refine wpAny_bind (wpAny_pure ?_);unfold descrGetter descrCheckInstance descrNameAndClass isInstance;simp only [KF.owner_class]
  repeat lk
  refine ⟨Code.quiet_builtin _ (by decide +kernel),codeAny_builtin KF.entry_class (by unfold Builtin.«object.__class__» shownTypeOf;(repeat lk);exact h)⟩))
theorem yq9 {tk:Tok}{Q:Fin->Shared->Prop}(X:K.In s.heap)(a:zk5 K C)(hx:s.heap.get? x=some o)(hc:o.cls=.ref C)(h:Q (.done (.ret (.ref C))) s) :
  wpAny (model prog w) A (Builtin.«object.__getattribute__» ⟨[.ref x,.str "__class__" tk],[]⟩) Q E s:=by
 have La:=E4 (M:=model prog w) hx hc
 have Lb:=yv5 (M:=model prog w) (x:=x) X a
 unfold Builtin.«object.__getattribute__»
 refine wpAny_bind (wpAny_pure ?_)
 dsimp only
 refine wpAny_bind (wpAny_pure ?_)
 obtain ⟨hh,g,dr,t,os⟩:=s
 refine wpAny_bind (La.at (wpAny_bind (Lb.at ?_)))
 dsimp only
 unfold Builtin.ObjectAttr.bindTo
 dsimp only
 refine wpAny_bind (wpAny_holding (wpAny_call (xc5 X a hx hc ?_)))
 exact wpAny_pure h
theorem yq8 {nameV:Value}{Q:Unit->Shared->Prop}(X:K.In s.heap)(a:zk5 K C)(hx:s.heap.get? x=some o)(hc:o.cls=.ref C)(h:Q () s):wpAny (model prog w) A (checkBuiltinCall "BaseException.__getattribute__" ⟨[.ref x,nameV],[]⟩) Q E s:=by
 have hk:builtinKind "BaseException.__getattribute__"=some .slot:=by decide +kernel
 have hs:splitId "BaseException.__getattribute__"=some ("BaseException","__getattribute__"):=by decide +kernel
 have La:=E4 (M:=model prog w) hx hc
 have Lb:=looks_mroIn (M:=model prog w) X a.be
 have ha:=F.args_bexc_ga (.ref x) nameV
 obtain ⟨hh,g,dr,t,os⟩:=s
 simp only [checkBuiltinCall,hk,hs]
 unfold isInstance
 refine wpAny_bind (wpAny_bind (La.at (Lb.at ?_)))
 rw [if_neg (by decide)]
 unfold argsOk at ha
 exact wpAny_of_eq ha h
theorem yv4 {Q:Option Value->Shared->Prop}(X:K.In s.heap)(a:zk5 K C)(hx:s.heap.get? x=some o)(hc:o.cls=.ref C)(h:Q (some (.ref C)) { s with toks:=s.toks+1 }):wpAny (model prog w) A (getAttr? (.ref x) "__class__") Q E s:=by
 have La:=E4 (M:=model prog w) hx hc
 have L1:=looks_findIn (M:=model prog w) X a.ga
 have L2:=looks_findIn (M:=model prog w) X a.no
 obtain ⟨hh,g,dr,t,os⟩:=s
 unfold getAttr? getAttrBy? getAttrBy
 refine wpAny_bind (wpAny_mkText (wpAny_bind (wpAny_attempt (wpAny_holding (wpAny_bind (La.at (wpAny_bind (L1.at ?_))))))))
 dsimp only
 rw [show (onTheHeap (Value.ref C)&&Value.builtin "BaseException.__getattribute__" == Value.builtin "object.__getattribute__")=false by rw [show (Value.builtin "BaseException.__getattribute__" == Value.builtin "object.__getattribute__")=false by decide +kernel];rfl,if_neg am]
 unfold getAttrByItsOwn hookBefore
 rw [show onTheHeap (Value.ref C)=true from rfl,if_pos rfl]
 refine wpAny_bind (L2.at ?_)
 refine wpAny_bind (wpAny_attempt (wpAny_holding ?_))
 unfold callGetattribute boundAndCalled
 rw [if_neg (by decide)]
 rw [F.excAttr_ValueError.ga.bind (.ref x)]
 refine wpAny_bind (wpAny_pure ?_)
 refine wpAny_call (codeAny_call_builtin F.excAttr_ValueError.ga.plain F.entry_bexc_ga (yq8 X a hx hc (yq9 X a hx hc ?_)))
 exact handed_on rfl (wpAny_pure h)
theorem yl2 (a:zk5 K C):KitX K (.ref x) (.ref C) (λh=>∃o,h.get? x=some o/\o.cls=.ref C) where
 ty:=λ_ _ _ ⟨_,h1,h2⟩=>E4 h1 h2
 it:=λ_ _ X _=>by
  obtain ⟨cd,hcd,_⟩:=Option.bind_eq_some_iff.mp a.ob
  unfold clsIn at hcd
  split at hcd
  ·rename_i ho
   intro A' Q' E' s' k q
   unfold isType loadHead;exact wpAny_bind (wpAny_loadPart (k _ _ (X _ _ ho)) (wpAny_pure q))
  ·cases hcd
 ne:=λh tp dd its n sl X htp=>by
  obtain ⟨cd,hcd,_⟩:=Option.bind_eq_some_iff.mp a.ob
  refine dg.mpr λq=>?_
  have e:C=tp:=Value.ref.inj (beq_iff_eq.mp q)
  subst e
  unfold clsIn at hcd
  split at hcd
  ·rename_i ho
   cases (X _ _ ho).symm.trans htp
  ·cases hcd
 ca:=λX ⟨_,h1,h2⟩ k=>yv4 X a h1 h2 k
end
section
variable {X:Cx}
end
end L2
namespace Tb.ST
open PySem PySem.SetTable
def adv (mask:Nat)(p:Probe):Probe:=if p.more > 0 then { p with j:=p.j+1,more:=p.more-1 } else
 {p with j:=(leap mask p.i p.perturb).1,more:=runEnd mask (leap mask p.i p.perturb).1-(leap mask p.i p.perturb).1,i:=(leap mask p.i p.perturb).1,perturb:=(leap mask p.i p.perturb).2 }
def start (mask:Nat)(h:Int):Probe:={ j:=bits h % (mask+1),more:=runEnd mask (bits h % (mask+1))-bits h % (mask+1),i:=bits h % (mask+1),perturb:=bits h,dummy:=none }
def go (mask:Nat):Nat->Probe->Probe
 | 0,p=>p
 | q+1,p=>go mask q (adv mask p)
theorem zl2 (mask:Nat):∀(a b:Nat) (p:Probe),go mask (a+b) p=go mask b (go mask a p)
 | 0,b,p=>by rw [br];rfl
 | a+1,b,p=>by rw [show a+1+b=(a+b)+1 by lia];exact zl2 mask a b _
def pj (mask:Nat)(h:Int)(q:Nat):Nat:=(go mask q (start mask h)).j
structure Wf (mask:Nat) (p:Probe):Prop where
 j:p.j+p.more<=mask
 m:p.more<=9
 i:p.i<=mask
 b:p.perturb<2 ^ 64
 d:p.dummy=none
theorem zz6 (mask i:Nat)(h:i<=mask):i+(runEnd mask i-i)<=mask/\runEnd mask i-i<=9/\i<=runEnd mask i:=by
 unfold runEnd
 split <;> lia
theorem Wf.adv {mask:Nat}{p:Probe}(h:Wf mask p):Wf mask (adv mask p):=by
 unfold ST.adv
 split
 ·exact ⟨by have:=h.j;show p.j+1+(p.more-1)<=mask;lia,by have:=h.m;show p.more-1<=9;lia,h.i,h.b,h.d⟩
 ·have hl:(leap mask p.i p.perturb).1<=mask:=bJ (dD _ (bN _))
  have:=zz6 mask _ hl
  exact ⟨this.1,this.2.1,hl,bA (Nat.div_le_self _ _) h.b,h.d⟩
theorem Wf.start (mask:Nat)(h:Int):Wf mask (start mask h):=by
 have hl:bits h % (mask+1)<=mask:=bJ (dD _ (bN _))
 have:=zz6 mask _ hl
 refine ⟨this.1,this.2.1,hl,?_,rfl⟩
 show (h % (2 ^ 64:Int)).toNat<2 ^ 64
 have h1:=bg h (show (2 ^ 64:Int)≠0 by decide)
 have h2:=bC h (show (0:Int)<2 ^ 64 by decide)
 have h3:((2 ^ 64:Nat):Int)=2 ^ 64:=by decide
 lia
theorem Wf.go {mask:Nat}:∀(q:Nat) {p:Probe},Wf mask p->Wf mask (go mask q p)
 | 0,_,h=>h
 | q+1,_,h=>Wf.go q h.adv
theorem yo0 (mask:Nat)(h:Int)(q:Nat):pj mask h q<=mask:=by
 have:=(Wf.go q (Wf.start mask h)).j
 unfold pj
 lia
def lp (mask:Nat)(p:Probe):Probe:={ p with j:=(leap mask p.i p.perturb).1,more:=runEnd mask (leap mask p.i p.perturb).1-(leap mask p.i p.perturb).1,i:=(leap mask p.i p.perturb).1,perturb:=(leap mask p.i p.perturb).2 }
theorem yc1 {mask:Nat}:∀(n:Nat) (p:Probe),p.more=n->go mask (n+1) p=lp mask p
 | 0,p,h=>by
  show adv mask p=lp mask p
  unfold adv
  rw [if_neg (by lia)]
  rfl
 | n+1,p,h=>by
  show go mask (n+1) (adv mask p)=lp mask p
  have e:adv mask p={ p with j:=p.j+1,more:=p.more-1 }:=by unfold adv;rw [if_pos (by lia)]
  rw [yc1 n (adv mask p) (by rw [e];show p.more-1=n;lia),e]
  rfl
def lps (mask:Nat):Nat->Probe->Probe
 | 0,p=>p
 | k+1,p=>lps mask k (lp mask p)
theorem Wf.lp {mask:Nat}{p:Probe}(h:Wf mask p):Wf mask (lp mask p):=by
 rw [←yc1 p.more p rfl]
 exact Wf.go _ h
theorem zx5 {mask:Nat}:∀(k:Nat) {p:Probe},Wf mask p->∃q,q<=10*k/\go mask q p=lps mask k p
 | 0,p,_=>⟨0,af _,rfl⟩
 | k+1,p,h=>by
  obtain ⟨q,hq,e⟩:=zx5 k h.lp
  have hm:=h.m
  refine ⟨p.more+1+q,by lia,?_⟩
  rw [zl2,yc1 p.more p rfl,e]
  rfl
theorem zm4 (mask:Nat):∀(a b:Nat) (p:Probe),lps mask (a+b) p=lps mask b (lps mask a p)
 | 0,b,p=>by rw [br];rfl
 | a+1,b,p=>by rw [show a+1+b=(a+b)+1 by lia];exact zm4 mask a b _
theorem P5 (mask:Nat):∀(k:Nat) (p:Probe),(lps mask k p).perturb=p.perturb / 32 ^ k
 | 0,p=>by show p.perturb=_;rw [Nat.pow_zero,Nat.div_one]
 | k+1,p=>by
  show (lps mask k (lp mask p)).perturb=_
  rw [P5 mask k]
  show p.perturb / 32 / 32 ^ k=_
  rw [Nat.div_div_eq_div_mul,Nat.pow_succ,Nat.mul_comm]
def lc (M x:Nat):Nat:=(x*5+1) % M
def lcs (M:Nat):Nat->Nat->Nat
 | 0,x=>x
 | k+1,x=>lcs M k (lc M x)
theorem za9 (M:Nat):∀(a b x:Nat),lcs M (a+b) x=lcs M b (lcs M a x)
 | 0,b,x=>by rw [br];rfl
 | a+1,b,x=>by rw [show a+1+b=(a+b)+1 by lia];exact za9 M a b _
theorem zm5 (mask:Nat):∀(k:Nat) (p:Probe),p.perturb=0->1<=k->(lps mask k p).j=lcs (mask+1) k p.i
 | 1,p,h,_=>by
  show (p.i*5+1+p.perturb / 32) % (mask+1)=_
  rw [h]
  rfl
 | k+2,p,h,_=>by
  have e:(lp mask p).perturb=0:=by show p.perturb / 32=0;rw [h]
  have:=zm5 mask (k+1) (lp mask p) e (by lia)
  show (lps mask (k+1) (lp mask p)).j=lcs (mask+1) (k+1) (lc (mask+1) p.i)
  rw [this]
  show lcs (mask+1) (k+1) ((p.i*5+1+p.perturb / 32) % (mask+1))=_
  rw [h]
  rfl
def yn2 (M:Nat):Nat->Nat->List Nat
 | 0,_=>[]
 | k+1,x=>lc M x::yn2 M k (lc M x)
theorem zj0 {M:Nat}:∀{k x e:Nat},e∈yn2 M k x->∃r,1<=r/\r<=k/\lcs M r x=e
 | 0,_,_,h=>by cases h
 | k+1,x,e,h=>by
  rcases aw.mp h with z|z
  ·exact ⟨1,af _,by lia,z.symm⟩
  ·obtain ⟨r,h1,h2,h3⟩:=zj0 z
   exact ⟨r+1,by lia,by lia,h3⟩
def full (M:Nat):Bool:=((List.range M).all λe=>(yn2 M M 0).contains e)&&lcs M M 0==0
theorem yy4:full 8=true:=by decide +kernel
theorem ys3:full 32=true:=by decide +kernel
theorem yk0:full 128=true:=by decide +kernel
theorem yk1:full 512=true:=by decide +kernel
theorem zc5 {M:Nat}(hM:full M=true){i e:Nat}(hi:i<M)(he:e<M):∃r,1<=r/\r<=M/\lcs M r i=e:=by
 unfold full at hM
 rw [aG,beq_iff_eq,aX] at hM
 have mem:∀x,x<M->∃r,1<=r/\r<=M/\lcs M r 0=x:=λx hx=>zj0 (by
  have:=hM.1 x (aR.mpr hx)
  rw [List.contains_iff_mem] at this
  exact this)
 obtain ⟨a,a1,a2,a3⟩:=mem i hi
 obtain ⟨b,b1,b2,b3⟩:=mem e he
 by_cases h:a<b
 ·refine ⟨b-a,by lia,by lia,?_⟩
  rw [←a3,←za9,show a+(b-a)=b by lia]
  exact b3
 ·refine ⟨(M-a)+b,by lia,by lia,?_⟩
  have e2:lcs M (M-a) i=0:=by rw [←a3,←za9,show a+(M-a)=M by lia,hM.2]
  rw [za9,e2]
  exact b3
def Size (mask:Nat):Prop:=mask=7∨mask=31∨mask=127∨mask=511
theorem Size.full {mask:Nat}(h:Size mask):full (mask+1)=true:=by
 rcases h with rfl|rfl|rfl|rfl
 ·exact yy4
 ·exact ys3
 ·exact yk0
 ·exact yk1
theorem yv9 {mask:Nat}(hM:Size mask){p:Probe}(hp:Wf mask p){e:Nat}(he:e<=mask):∃q,q<10*turns mask/\(go mask q p).j=e:=by
 have h13:(lps mask 13 p).perturb=0:=by
  rw [P5]
  exact Nat.div_eq_of_lt (aA hp.b (by decide))
 have hw:Wf mask (lps mask 13 p):=by
  obtain ⟨q,_,e⟩:=zx5 13 hp
  rw [←e]
  exact Wf.go q hp
 obtain ⟨r,r1,r2,r3⟩:=zc5 hM.full (i:=(lps mask 13 p).i) (e:=e) (cp hw.i) (cp he)
 obtain ⟨q,hq,e2⟩:=zx5 (13+r) hp
 refine ⟨q,by unfold turns;lia,?_⟩
 rw [e2,zm4,zm5 mask r _ h13 r1,r3]
theorem zb4 (xs:Array Nat)(j:Nat)(hr:∀(a b x y:Nat),xs[a]?=some x->xs[b]?=some y->a<b->x<y):∀(fuel lo hi:Nat),hi-lo<=fuel->lo<=hi->hi<=xs.size->(∀i x,i<lo->xs[i]?=some x->x<j)->(∀i x,hi<=i->xs[i]?=some x->j<=x) ->
  below.go xs j fuel lo hi<=xs.size/\(∀i x,i<below.go xs j fuel lo hi->xs[i]?=some x->x<j)/\∀i x,below.go xs j fuel lo hi<=i->xs[i]?=some x->j<=x
 | 0,lo,hi,h1,h2,h3,h4,h5=>by
  have:lo=hi:=by lia
  subst this
  exact ⟨h3,h4,h5⟩
 | fuel+1,lo,hi,h1,h2,h3,h4,h5=>by
  unfold below.go
  by_cases hlt:lo<hi
  ·rw [if_pos hlt]
   dsimp only
   have hmid:(lo+hi) / 2<hi:=by lia
   have hmid2:lo<=(lo+hi) / 2:=by lia
   have hx:xs[(lo+hi) / 2]?=some (xs.getD ((lo+hi) / 2) j):=by
    have:(lo+hi) / 2<xs.size:=by lia
    rw [aZ this]
    simp [Array.getD,this]
   by_cases hc:xs.getD ((lo+hi) / 2) j<j
   ·rw [if_pos hc]
    refine zb4 xs j hr fuel _ hi (by lia) (by lia) h3 (λi x hi' hxi=>?_) h5
    by_cases hi2:i=(lo+hi) / 2
    ·subst hi2
     rw [hx] at hxi
     rw [←Option.some.inj hxi]
     exact hc
    ·exact dA (hr i _ _ _ hxi hx (by lia)) hc
   ·rw [if_neg hc]
    refine zb4 xs j hr fuel lo _ (by lia) hmid2 (by lia) h4 (λi x hi' hxi=>?_)
    by_cases hi2:i=(lo+hi) / 2
    ·subst hi2
     rw [hx] at hxi
     rw [←Option.some.inj hxi]
     lia
    ·have:=hr _ i _ _ hx hxi (by lia)
     lia
  ·rw [if_neg hlt]
   have:lo=hi:=by lia
   subst this
   exact ⟨h3,h4,h5⟩
theorem zb5 (xs:Array Nat)(j:Nat)(hr:∀(a b x y:Nat),xs[a]?=some x->xs[b]?=some y->a<b->x<y):below xs j<=xs.size/\(∀i x,i<below xs j->xs[i]?=some x->x<j)/\∀i x,below xs j<=i->xs[i]?=some x->j<=x:=by
 refine zb4 xs j hr xs.size 0 xs.size (by lia) (ax _) (af _) (λi x h=>absurd h (bZ _)) (λi x h e=>?_)
 have:=(bh.mp e).1
 lia
theorem below_at {xs:Array Nat}{i j:Nat}(hr:∀(a b x y:Nat),xs[a]?=some x->xs[b]?=some y->a<b->x<y)(h:xs[i]?=some j):below xs j=i:=by
 obtain ⟨h1,h2,h3⟩:=zb5 xs j hr
 have a:¬i<below xs j:=λz=>aF _ (h2 i j z h)
 have b:¬below xs j<i:=λz=>by
  have hi:=(bh.mp h).1
  have e:=aZ (xs:=xs) (i:=below xs j) (by lia)
  have:=h3 _ _ (af _) e
  have:=hr _ _ _ _ e h z
  lia
 lia
theorem insertAt_toList {α:Type}(xs:Array α)(p:Nat)(x:α)(h:p<=xs.size):(insertAt xs p x).toList=xs.toList.take p++x::xs.toList.drop p:=by
 unfold insertAt
 rw [Array.toList_append,Array.toList_push,Array.toList_extract,Array.toList_extract]
 simp [aV]
end Tb.ST
namespace Tb.ST
open PySem PySem.SetTable
structure Tab (t:SetTable) (hs:List Int):Prop where
 m:Size t.mask
 nod:t.dummies=#[]
 ris:∀(a b x y:Nat),t.place[a]?=some x->t.place[b]?=some y->a<b->x<y
 le:∀(i j:Nat),t.place[i]?=some j->j<=t.mask
 len:t.place.size=hs.length
 room:t.place.size*5<t.mask*3
 path:∀(i j:Nat) (h:Int),t.place[i]?=some j->hs[i]?=some h->∃q,pj t.mask h q=j/\∀r,r<q->∃i:Nat,t.place[i]?=some (pj t.mask h r)
theorem Tab.fits {t:SetTable}{hs:List Int}(T:Tab t hs):t.place.size=hs.length/\t.fill<=t.mask/\t.gaveWay=false:=by
 have h1:=T.room
 refine ⟨T.len,?_,?_⟩
 ·unfold fill
  rw [T.nod]
  show t.place.size+0<=t.mask
  lia
 ·unfold gaveWay
  rcases T.m with h|h|h|h <;> rw [h] <;> rfl
theorem Tab.live {t:SetTable}{hs:List Int}(T:Tab t hs){i j:Nat}(h:t.place[i]?=some j):t.slot j=.live i:=by
 unfold slot
 rw [below_at T.ris h]
 dsimp only
 rw [h,if_pos (by simp)]
theorem Tab.empty {t:SetTable}{hs:List Int}(T:Tab t hs){j:Nat}(h:∀i:Nat,t.place[i]?≠some j):t.slot j=.empty:=by
 unfold slot
 dsimp only
 rw [if_neg (by rw [beq_iff_eq];exact h _),T.nod]
 rfl
theorem zy8:∀{l m:List Nat},l.Nodup->(∀x∈l,x∈m)->l.length<=m.length
 | [],_,_,_=>ax _
 | x::l,m,hn,hs=>by
  obtain ⟨h1,h2⟩:=bD.mp hn
  have hx:=hs x ap
  have:=zy8 (l:=l) (m:=m.erase x) h2 λy hy=>(List.mem_erase_of_ne (λ(z:y=x)=>h1 (by rw [←z];exact hy))).mpr (hs y (aj _ hy))
  rw [cV hx] at this
  have hp:=List.length_pos_of_mem hx
  rw [ag]
  lia
theorem Tab.free {t:SetTable}{hs:List Int}(T:Tab t hs):∃e,e<=t.mask/\∀i:Nat,t.place[i]?≠some e:=by
 have h:=T.room
 by_cases hx:∃e,e<=t.mask/\∀i:Nat,t.place[i]?≠some e
 ·exact hx
 ·have:=zy8 (l:=List.range (t.mask+1)) (m:=t.place.toList) cr λx hx'=>by
   by_cases hm:∃i:Nat,t.place[i]?=some x
   ·obtain ⟨i,hi⟩:=hm
    rw [←aD] at hi
    exact ay hi
   ·exact absurd ⟨x,bJ (aR.mp hx'),λi hi=>hm ⟨i,hi⟩⟩ hx
  rw [aS,ak] at this
  lia
theorem Tab.first {t:SetTable}{hs:List Int}(T:Tab t hs)(h:Int):∃Q,Q<10*turns t.mask/\(∀i:Nat,t.place[i]?≠some (pj t.mask h Q))/\∀r,r<Q->∃i:Nat,t.place[i]?=some (pj t.mask h r):=by
 obtain ⟨e,he,hno⟩:=T.free
 obtain ⟨q,hq,hj⟩:=yv9 T.m (Wf.start t.mask h) he
 have:∀n,n<=q->(∃Q,Q<n/\(∀i:Nat,t.place[i]?≠some (pj t.mask h Q))/\∀r,r<Q->∃i:Nat,t.place[i]?=some (pj t.mask h r))∨∀r,r<n->∃i:Nat,t.place[i]?=some (pj t.mask h r):=by
  intro n
  induction n with
  | zero=>exact λ_=>.inr λr hr=>absurd hr (bZ _)
  | succ n ih =>
   intro hn
   rcases ih (by lia) with ⟨Q,a,b,c⟩|all
   ·exact .inl ⟨Q,by lia,b,c⟩
   ·by_cases hm:∃i:Nat,t.place[i]?=some (pj t.mask h n)
    ·refine .inr λr hr=>?_
     by_cases e:r=n
     ·rw [e];exact hm
     ·exact all r (by lia)
    ·exact .inl ⟨n,by lia,λi hi=>hm ⟨i,hi⟩,all⟩
 rcases this q (af _) with ⟨Q,a,b,c⟩|all
 ·exact ⟨Q,by lia,b,c⟩
 ·exact ⟨q,hq,by rw [show pj t.mask h q=e from hj];exact hno,all⟩
theorem K8 {t:SetTable}{hashAt:Nat->Int}{h:Int}{m:Met}:∀(r fuel:Nat) (p:Probe),r<fuel->(∀r',r'<r->∃i,t.slot (go t.mask r' p).j=.live i/\(hashAt i==h)=false) ->
  (t.slot (go t.mask r p).j=.empty/\m=.empty (go t.mask r p).j (go t.mask r p).dummy∨∃i,t.slot (go t.mask r p).j=.live i/\(hashAt i==h)=true/\m=.candidate (go t.mask r p).j i (go t.mask (r+1) p))->probe.go t hashAt h fuel p=some m
 | 0,fuel+1,p,_,_,hm=>by
  unfold probe.go
  rcases hm with ⟨e,rfl⟩|⟨i,e,e2,rfl⟩
  ·rw [show t.slot p.j=.empty from e];rfl
  ·rw [show t.slot p.j=.live i from e]
   dsimp only
   rw [if_pos e2]
   rfl
 | r+1,fuel+1,p,hf,hb,hm=>by
  unfold probe.go
  obtain ⟨i,e,e2⟩:=hb 0 (bN _)
  rw [show t.slot p.j=.live i from e]
  dsimp only
  rw [if_neg (by rw [e2];exact am)]
  refine K8 r fuel (t.advance p) (by lia) (λr' hr'=>hb (r'+1) (by lia)) hm
def HashAt (hs:List Int)(f:Nat->Int):Prop:=∀(i:Nat) (x:Int),hs[i]?=some x->f i=x
theorem Tab.next {t:SetTable}{hs:List Int}(T:Tab t hs){h:Int}{q Q:Nat}(hq:q<=Q)(hQ:Q-q<10*turns t.mask)(hlive:∀r,r<Q->∃i:Nat,t.place[i]?=some (pj t.mask h r))
  (hstop:(∀i:Nat,t.place[i]?≠some (pj t.mask h Q))∨∃i:Nat,t.place[i]?=some (pj t.mask h Q)/\hs[i]?=some h) :
  ((∀i:Nat,t.place[i]?≠some (pj t.mask h Q))/\∀f,HashAt hs f->t.probe f h (go t.mask q (start t.mask h))=some (.empty (pj t.mask h Q) none)) ∨
  ∃(r i:Nat),q<=r/\r<=Q/\t.place[i]?=some (pj t.mask h r)/\hs[i]?=some h/\∀f,HashAt hs f->t.probe f h (go t.mask q (start t.mask h))=some (.candidate (pj t.mask h r) i (go t.mask (r+1) (start t.mask h))):=by
 have hsh:∀{i j:Nat},t.place[i]?=some j->∃x,hs[i]?=some x:=λ{i j} hi=>by
  have:=(bh.mp hi).1
  rw [T.len] at this
  exact ⟨_,ah this⟩
 have key:∀n,∀q,Q-q=n->q<=Q->(∃r i:Nat,q<=r/\r<=Q/\t.place[i]?=some (pj t.mask h r)/\hs[i]?=some h/\∀r',q<=r'->r'<r->∃(i:Nat) (x:Int),t.slot (pj t.mask h r')=.live i/\hs[i]?=some x/\x≠h)∨((∀i:Nat,t.place[i]?≠some (pj t.mask h Q))/\∀r',q<=r'->r'<Q->∃(i:Nat) (x:Int),t.slot (pj t.mask h r')=.live i/\hs[i]?=some x/\x≠h):=by
  intro n
  induction n with
  | zero =>
   intro q e hle
   have:q=Q:=by lia
   subst this
   rcases hstop with z|⟨i,h1,h2⟩
   ·exact .inr ⟨z,λr' a b=>absurd b (by lia)⟩
   ·exact .inl ⟨q,i,af _,af _,h1,h2,λr' a b=>absurd b (by lia)⟩
  | succ n ih =>
   intro q e hle
   obtain ⟨i,hi⟩:=hlive q (by lia)
   obtain ⟨x,hx⟩:=hsh hi
   by_cases hxh:x=h
   ·exact .inl ⟨q,i,af _,hle,hi,by rw [hx,hxh],λr' a b=>absurd b (by lia)⟩
   ·rcases ih (q+1) (by lia) (by lia) with ⟨r,i',a,b,c,d,f⟩|⟨a,f⟩
    ·refine .inl ⟨r,i',by lia,b,c,d,λr' u v=>?_⟩
     by_cases z:r'=q
     ·rw [z];exact ⟨i,x,T.live hi,hx,hxh⟩
     ·exact f r' (by lia) v
    ·refine .inr ⟨a,λr' u v=>?_⟩
     by_cases z:r'=q
     ·rw [z];exact ⟨i,x,T.live hi,hx,hxh⟩
     ·exact f r' (by lia) v
 have hgo:∀r',go t.mask r' (go t.mask q (start t.mask h))=go t.mask (q+r') (start t.mask h):=λr'=>(zl2 _ _ _ _).symm
 have no:∀{f:Nat->Int} (hf:HashAt hs f) {i:Nat} {x:Int},hs[i]?=some x->x≠h->(f i==h)=false:=λ{f} hf {i x} hx hxh=>by rw [hf i x hx];simpa using hxh
 rcases key _ q rfl hq with ⟨r,i,a,b,c,d,g⟩|⟨a,g⟩
 ·refine .inr ⟨r,i,a,b,c,d,λf hf=>?_⟩
  unfold probe
  refine K8 (r-q) _ _ (by lia) (λr' hr'=>?_) (.inr ⟨i,?_,?_,?_⟩)
  ·rw [hgo]
   obtain ⟨i',x,u,v,z⟩:=g (q+r') (by lia) (by lia)
   exact ⟨i',u,no hf v z⟩
  ·rw [hgo,show q+(r-q)=r by lia]
   exact T.live c
  ·rw [hf i h d];simp
  ·rw [hgo,hgo,show q+(r-q)=r by lia,show q+(r-q+1)=r+1 by lia]
   rfl
 ·refine .inl ⟨a,λf hf=>?_⟩
  unfold probe
  refine K8 (Q-q) _ _ hQ (λr' hr'=>?_) (.inl ⟨?_,?_⟩)
  ·rw [hgo]
   obtain ⟨i',x,u,v,z⟩:=g (q+r') (by lia) (by lia)
   exact ⟨i',u,no hf v z⟩
  ·rw [hgo,show q+(Q-q)=Q by lia]
   exact T.empty a
  ·rw [hgo,show q+(Q-q)=Q by lia,(Wf.go Q (Wf.start t.mask h)).d]
   rfl
theorem Tab.near {t:SetTable}{hs:List Int}(T:Tab t hs){i j:Nat}{h:Int}(hi:t.place[i]?=some j)(hh:hs[i]?=some h):∃q,q<10*turns t.mask/\pj t.mask h q=j/\∀r,r<q->∃i:Nat,t.place[i]?=some (pj t.mask h r):=by
 obtain ⟨q0,e0,all⟩:=T.path i j h hi hh
 obtain ⟨q1,h1,e1⟩:=yv9 T.m (Wf.start t.mask h) (T.le i j hi)
 by_cases hle:q1<=q0
 ·exact ⟨q1,h1,e1,λr hr=>all r (by lia)⟩
 ·exact ⟨q0,by lia,e0,all⟩
theorem Size.turns {mask:Nat}(h:Size mask):10*SetTable.turns mask<90000:=by
 unfold SetTable.turns
 rcases h with rfl|rfl|rfl|rfl <;> decide
theorem S6 {α:Type}{l:List α}{p i:Nat}{x:α}(hp:p<=l.length):(l.take p++x::l.drop p)[i]?=if i<p then l[i]? else if i=p then some x else l[i-1]?:=by
 have ht:(l.take p).length=p:=by rw [aP];lia
 by_cases h1:i<p
 ·rw [if_pos h1,aQ (by lia),cq h1]
 ·rw [if_neg h1,aU (by lia),ht]
  by_cases h2:i=p
  ·rw [if_pos h2,h2,cH];rfl
  ·rw [if_neg h2,show i-p=(i-p-1)+1 by lia,List.getElem?_cons_succ,cG,show p+(i-p-1)=i-1 by lia]
structure Put (t t':SetTable) (hs hs':List Int) (p:Nat) (h:Int):Prop where
 mask:t'.mask=t.mask
 size:t'.place.size=t.place.size+1
 le:p<=hs.length
 eq:hs'=hs.take p++h::hs.drop p
 tab:t'.place.size*5<t'.mask*3->Tab t' hs'
 nod':t'.dummies=#[]
theorem Tab.put {t:SetTable}{hs:List Int}(T:Tab t hs){h:Int}{Q:Nat}(hno:∀i:Nat,t.place[i]?≠some (pj t.mask h Q))(hlive:∀r,r<Q->∃i:Nat,t.place[i]?=some (pj t.mask h r))(b:Bool) :
  Put t (if b=true then (t.put (pj t.mask h Q)).1 else { (t.put (pj t.mask h Q)).1 with plain:=false }) hs (hs.take (t.put (pj t.mask h Q)).2++h::hs.drop (t.put (pj t.mask h Q)).2) (t.put (pj t.mask h Q)).2 h:=by
 obtain ⟨b1,b2,b3⟩:=zb5 t.place (pj t.mask h Q) T.ris
 have e2:(t.put (pj t.mask h Q)).2=below t.place (pj t.mask h Q):=rfl
 have el:(t.put (pj t.mask h Q)).1.place.toList=t.place.toList.take (below t.place (pj t.mask h Q))++pj t.mask h Q::t.place.toList.drop (below t.place (pj t.mask h Q)):=insertAt_toList _ _ _ b1
 have em:(t.put (pj t.mask h Q)).1.mask=t.mask:=rfl
 have ed:(t.put (pj t.mask h Q)).1.dummies=#[]:=by
  show (if has t.dummies _=true then _ else t.dummies)=#[]
  rw [T.nod]
  rfl
 rw [e2]
 generalize (t.put (pj t.mask h Q)).1=t1 at el em ed
 generalize hp:below t.place (pj t.mask h Q)=p at *
 have el':∀i:Nat,t1.place[i]?=if i<p then t.place[i]? else if i=p then some (pj t.mask h Q) else t.place[i-1]?:=λi=>by
  rw [←aD,el,S6 (by rw [ak];exact b1),aD,aD]
 have hsz:t1.place.size=t.place.size+1:=by
  rw [←ak,el,al,ag,aP,bF,ak]
  lia
 have sub:∀{i x:Nat},t.place[i]?=some x->∃i':Nat,t1.place[i']?=some x:=λ{i x} hi=>by
  by_cases hip:i<p
  ·exact ⟨i,by rw [el',if_pos hip];exact hi⟩
  ·exact ⟨i+1,by rw [el',if_neg (by lia),if_neg (by lia)];exact hi⟩
 have main:∀t2:SetTable,t2.mask=t1.mask->t2.place=t1.place->t2.dummies=t1.dummies->Put t t2 hs (hs.take p++h::hs.drop p) p h:=by
  intro t2 m2 p2 d2
  refine ⟨by rw [m2,em],by rw [p2,hsz],by rw [←T.len];exact b1,rfl,λhroom=>?_,by rw [d2,ed]⟩
  refine ⟨by rw [m2,em];exact T.m,by rw [d2,ed],λa c x y ha hc hac=>?_,λi j hi=>?_,?_,hroom,λi j x hi hx=>?_⟩
  ·rw [p2,el'] at ha hc
   by_cases a1:a<p
   ·rw [if_pos a1] at ha
    by_cases c1:c<p
    ·rw [if_pos c1] at hc
     exact T.ris a c x y ha hc hac
    ·rw [if_neg c1] at hc
     have hx:=b2 a x a1 ha
     by_cases c2:c=p
     ·rw [if_pos c2] at hc
      rw [←Option.some.inj hc]
      exact hx
     ·rw [if_neg c2] at hc
      have:=b3 (c-1) y (by lia) hc
      lia
   ·rw [if_neg a1] at ha
    rw [if_neg (by lia),if_neg (by lia)] at hc
    have hy:=b3 (c-1) y (by lia) hc
    by_cases a2:a=p
    ·rw [if_pos a2] at ha
     have:pj t.mask h Q≠y:=λz=>hno (c-1) (by rw [z];exact hc)
     have e:=Option.some.inj ha
     lia
    ·rw [if_neg a2] at ha
     exact T.ris (a-1) (c-1) x y ha hc (by lia)
  ·rw [p2,el'] at hi
   rw [m2,em]
   by_cases i1:i<p
   ·rw [if_pos i1] at hi;exact T.le i j hi
   ·rw [if_neg i1] at hi
    by_cases i2:i=p
    ·rw [if_pos i2] at hi
     rw [←Option.some.inj hi]
     exact yo0 _ _ _
    ·rw [if_neg i2] at hi;exact T.le (i-1) j hi
  ·rw [p2,hsz,al,ag,aP,bF,T.len]
   have:=T.len
   lia
  ·have hple:p<=hs.length:=by rw [←T.len];exact b1
   rw [S6 hple] at hx
   rw [p2,el'] at hi
   rw [m2,em,p2]
   have old:∀{i':Nat},t.place[i']?=some j->hs[i']?=some x->∃q,pj t.mask x q=j/\∀r,r<q->∃i:Nat,t1.place[i]?=some (pj t.mask x r):=λ{i'} u v=>by
    obtain ⟨q,hq,hall⟩:=T.path i' j x u v
    exact ⟨q,hq,λr hr=>(hall r hr).elim λi hi=>sub hi⟩
   by_cases i1:i<p
   ·rw [if_pos i1] at hi hx;exact old hi hx
   ·rw [if_neg i1] at hi hx
    by_cases i2:i=p
    ·rw [if_pos i2] at hi hx
     rw [←Option.some.inj hx,←Option.some.inj hi]
     exact ⟨Q,rfl,λr hr=>(hlive r hr).elim λi hi=>sub hi⟩
    ·rw [if_neg i2] at hi hx;exact old hi hx
 cases b with
 | true=>exact main t1 rfl rfl rfl
 | false=>exact main _ rfl rfl rfl
end Tb.ST
namespace Tb.ST
open PySem PySem.SetTable
theorem yl9 (mask:Nat):∀(k:Nat) (p:Probe),1<=k->(lps mask k p).j=(lps mask k p).i
 | 1,_,_=>rfl
 | k+2,p,_=>yl9 mask (k+1) (lp mask p) (by lia)
theorem Wf.lps {mask:Nat}:∀(k:Nat) {p:Probe},Wf mask p->Wf mask (lps mask k p)
 | 0,_,h=>h
 | k+1,_,h=>Wf.lps k h.lp
structure Rs (mask:Nat) (p:Probe):Prop where
 w:Wf mask p
 j:p.j=p.i
 m:p.more=runEnd mask p.i-p.i
theorem Rs.start (mask:Nat)(h:Int):Rs mask (start mask h):=⟨Wf.start mask h,rfl,rfl⟩
theorem Rs.lp {mask:Nat}{p:Probe}(h:Rs mask p):Rs mask (lp mask p):=⟨h.w.lp,rfl,rfl⟩
theorem yi8 {mask:Nat}(hM:Size mask){p:Probe}(hp:Wf mask p){e:Nat}(he:e<=mask):∃k,k<turns mask/\(lps mask k p).i=e:=by
 have h13:(lps mask 13 p).perturb=0:=by
  rw [P5]
  exact Nat.div_eq_of_lt (aA hp.b (by decide))
 obtain ⟨r,r1,r2,r3⟩:=zc5 hM.full (i:=(lps mask 13 p).i) (e:=e) (cp (Wf.lps 13 hp).i) (cp he)
 refine ⟨13+r,by unfold turns;lia,?_⟩
 rw [←yl9 mask _ _ (by lia),zm4,zm5 mask r _ h13 r1,r3]
theorem zc8 {mask:Nat}:∀(d:Nat) (p:Probe),d<=p.more->(go mask d p).j=p.j+d
 | 0,_,_=>rfl
 | d+1,p,h=>by
  have e:adv mask p={ p with j:=p.j+1,more:=p.more-1 }:=by unfold adv;rw [if_pos (by lia)]
  show (go mask d (adv mask p)).j=_
  rw [zc8 d (adv mask p) (by rw [e];show d<=p.more-1;lia),e]
  show p.j+1+d=_
  lia
def Fr (owner:Array (Option Nat))(j:Nat):Prop:=(owner.getD j (some 0)).isNone=true
theorem yc0 {mask:Nat}{owner:Array (Option Nat)}:∀(k fuel:Nat) (p:Probe),Rs mask p->k<fuel->Fr owner (lps mask k p).i->∃Q,layClean.free mask owner fuel p.i p.perturb=some (go mask Q p).j/\Fr owner (go mask Q p).j/\∀r,r<Q->¬Fr owner (go mask r p).j
 | k,fuel+1,p,hp,hk,hf=>by
  have hrun:=zz6 mask p.i hp.w.i
  unfold layClean.free
  cases e:(List.range (runEnd mask p.i+1-p.i)).find? λd=>(owner.getD (p.i+d) (some 0)).isNone with
  | some d =>
   obtain ⟨hd,as,bs,hab,hno⟩:=List.find?_eq_some_iff_append.mp e
   have hdm:d∈List.range (runEnd mask p.i+1-p.i):=by rw [hab];simp
   have hdl:=aR.mp hdm
   have hdr:d<=p.more:=by rw [hp.m];lia
   refine ⟨d,?_,?_,λr hr=>?_⟩
   ·rw [zc8 d p hdr,hp.j]
   ·rw [zc8 d p hdr,hp.j];exact hd
   ·rw [zc8 r p (by lia),hp.j]
    have hra:r∈as:=by
     have h1:(List.range (runEnd mask p.i+1-p.i))[r]?=some r:=bE (by lia)
     have h2:(List.range (runEnd mask p.i+1-p.i))[as.length]?=some d:=by rw [hab];simp
     have h3:as.length=d:=by
      obtain ⟨_,h4⟩:=ar.mp h2
      rw [List.getElem_range] at h4
      exact h4
     rw [hab,aQ (by lia)] at h1
     exact ay h1
    have:=hno r hra
    intro z
    unfold Fr at z
    rw [z] at this
    cases this
  | none =>
   have hall:=List.find?_eq_none.mp e
   have occ:∀r,r<=p.more->¬Fr owner (go mask r p).j:=λr hr=>by
    rw [zc8 r p hr,hp.j]
    exact hall r (aR.mpr (by rw [hp.m] at hr;lia))
   match k,hf with
   | 0,hf =>
    exfalso
    refine occ 0 (ax _) ?_
    show Fr owner p.j
    rw [hp.j]
    exact hf
   | k+1,hf =>
    obtain ⟨Q,h1,h2,h3⟩:=yc0 k fuel (lp mask p) hp.lp (by lia) hf
    have hgo:∀r,go mask (p.more+1+r) p=go mask r (lp mask p):=λr=>by rw [zl2,yc1 p.more p rfl]
    refine ⟨p.more+1+Q,?_,?_,λr hr=>?_⟩
    ·rw [hgo]
     exact h1
    ·rw [hgo];exact h2
    ·by_cases hr2:r<=p.more
     ·exact occ r hr2
     ·have:=h3 (r-(p.more+1)) (by lia)
      rw [←hgo,show p.more+1+(r-(p.more+1))=r by lia] at this
      exact this
structure Own (mask:Nat) (owner:Array (Option Nat)) (hs:List Int):Prop where
 size:owner.size=mask+1
 has:∀(i:Nat) (h:Int),hs[i]?=some h->∃q,owner[pj mask h q]?=some (some i)/\∀r,r<q->∃i':Nat,owner[pj mask h r]?=some (some i')
 lt:∀(j i:Nat),owner[j]?=some (some i)->i<hs.length
 one:∀(j j' i:Nat),owner[j]?=some (some i)->owner[j']?=some (some i)->j=j'
theorem Own.nil (mask:Nat):Own mask (Array.replicate (mask+1) none) []:=by
 have no:∀(j i:Nat),(Array.replicate (mask+1) (none:Option Nat))[j]?≠some (some i):=λj i h=>by
  rw [Array.getElem?_replicate] at h
  split at h
  ·cases Option.some.inj h
  ·cases h
 exact ⟨Array.size_replicate,λi h e=>(by cases e),λj i h=>absurd h (no j i),λj j' i h=>absurd h (no j i)⟩
theorem yj9 {owner:Array (Option Nat)}{j:Nat}:Fr owner j↔owner[j]?=some none:=by
 unfold Fr
 by_cases h:j<owner.size
 ·rw [aZ h]
  simp [Array.getD,h]
 ·rw [cw (by lia)]
  simp [Array.getD,h]
theorem nfr {mask:Nat}{owner:Array (Option Nat)}(hs:owner.size=mask+1){j:Nat}(hj:j<=mask)(h:¬Fr owner j):∃i:Nat,owner[j]?=some (some i):=by
 rw [yj9] at h
 rw [aZ (by lia)] at h ⊢
 cases e:owner[j] with
 | none=>rw [e] at h;exact absurd rfl h
 | some i=>exact ⟨i,rfl⟩
theorem Own.free {mask:Nat}{owner:Array (Option Nat)}{hs:List Int}(O:Own mask owner hs)(hl:hs.length<=mask):∃e,e<=mask/\Fr owner e:=by
 by_cases hx:∃e,e<=mask/\Fr owner e
 ·exact hx
 ·exfalso
  have all:∀e,e<=mask->∃i:Nat,owner[e]?=some (some i):=λe he=>nfr O.size he λz=>hx ⟨e,he,z⟩
  have hget:∀e,e<=mask->owner[e]?=some (some ((owner.getD e none).getD 0)):=λe he=>by
   obtain ⟨i,hi⟩:=all e he
   have hlt:e<owner.size:=by rw [O.size];lia
   rw [hi]
   have:owner.getD e none=some i:=by
    rw [aZ hlt] at hi
    simp [Array.getD,hlt,Option.some.inj hi]
   rw [this]
   rfl
  have hnd:((List.range (mask+1)).map λe=>(owner.getD e none).getD 0).Nodup:=by
   refine aH.mpr ?_
   refine List.Pairwise.imp_of_mem ?_ (cr (n:=mask+1))
   intro a b ha hb hne z
   have ha':=hget a (bJ (aR.mp ha))
   have hb':=hget b (bJ (aR.mp hb))
   rw [z] at ha'
   exact hne (O.one a b _ ha' hb')
  have:=zy8 (m:=List.range hs.length) hnd λx hx'=>by
   obtain ⟨e,he,rfl⟩:=aI.mp hx'
   exact aR.mpr (O.lt e _ (hget e (bJ (aR.mp he))))
  rw [aa,aS,aS] at this
  lia
theorem Own.step {mask:Nat}{owner:Array (Option Nat)}{hs:List Int}(hM:Size mask)(O:Own mask owner hs)(hl:hs.length<=mask)(h:Int) :
  ∃j,layClean.free mask owner (turns mask) (bits h % (mask+1)) (bits h)=some j/\Own mask (owner.setIfInBounds j (some hs.length)) (hs++[h]):=by
 obtain ⟨e,he,hf⟩:=O.free hl
 obtain ⟨k,hk,e2⟩:=yi8 hM (Wf.start mask h) he
 obtain ⟨Q,h1,h2,h3⟩:=yc0 (owner:=owner) k (turns mask) (start mask h) (Rs.start mask h) hk (by rw [e2];exact hf)
 refine ⟨_,h1,?_⟩
 have hj:pj mask h Q<=mask:=yo0 _ _ _
 have hjs:pj mask h Q<owner.size:=by rw [O.size];lia
 have hfree:owner[pj mask h Q]?=some none:=yj9.mp h2
 show Own mask (owner.setIfInBounds (pj mask h Q) (some hs.length)) (hs++[h])
 have get:∀j':Nat,(owner.setIfInBounds (pj mask h Q) (some hs.length))[j']?=if j'=pj mask h Q then some (some hs.length) else owner[j']?:=λj'=>by
  rw [Array.getElem?_setIfInBounds]
  by_cases z:pj mask h Q=j'
  ·rw [if_pos z,if_pos z.symm,if_pos hjs]
  ·rw [if_neg z,if_neg (Ne.symm z)]
 have keep:∀{j' i:Nat},owner[j']?=some (some i)->(owner.setIfInBounds (pj mask h Q) (some hs.length))[j']?=some (some i):=λ{j' i} q=>by
  rw [get,if_neg]
  ·exact q
  ·intro z
   rw [z,hfree] at q
   cases Option.some.inj q
 refine ⟨by rw [Array.size_setIfInBounds];exact O.size,λi x hx=>?_,λj' i hi=>?_,λj1 j2 i u v=>?_⟩
 ·by_cases hi:i<hs.length
  ·rw [aQ hi] at hx
   obtain ⟨q,hq,hall⟩:=O.has i x hx
   exact ⟨q,keep hq,λr hr=>(hall r hr).elim λi' hi'=>⟨i',keep hi'⟩⟩
  ·have hi2:i=hs.length:=by
    have:=(ar.mp hx).1
    rw [al,ag,aO] at this
    lia
   subst hi2
   rw [aU (af _),cH] at hx
   have ex:h=x:=Option.some.inj hx
   subst ex
   refine ⟨Q,by rw [get,if_pos rfl],λr hr=>?_⟩
   obtain ⟨i',hi'⟩:=nfr O.size (yo0 mask h r) (h3 r hr)
   exact ⟨i',keep hi'⟩
 ·rw [get] at hi
  rw [al,ag,aO]
  by_cases z:j'=pj mask h Q
  ·rw [if_pos z] at hi
   have:=Option.some.inj (Option.some.inj hi)
   lia
  ·rw [if_neg z] at hi
   have:=O.lt j' i hi
   lia
 ·rw [get] at u v
  by_cases z1:j1=pj mask h Q
  ·by_cases z2:j2=pj mask h Q
   ·rw [z1,z2]
   ·rw [if_pos z1] at u
    rw [if_neg z2] at v
    have:=O.lt j2 i v
    have:=Option.some.inj (Option.some.inj u)
    lia
  ·rw [if_neg z1] at u
   by_cases z2:j2=pj mask h Q
   ·rw [if_pos z2] at v
    have:=O.lt j1 i u
    have:=Option.some.inj (Option.some.inj v)
    lia
   ·rw [if_neg z2] at v
    exact O.one j1 j2 i u v
theorem zr5 {mask:Nat}(hM:Size mask):∀(g9:List Int) (hs:List Int) (owner:Array (Option Nat)),Own mask owner hs->hs.length+g9.length<=mask ->
  ∃owner',g9.foldl (λacc h=>do
   let (owner,k) ←acc
   let j ←layClean.free mask owner (turns mask) (bits h % (mask+1)) (bits h)
   pure (owner.setIfInBounds j (some k),k+1)) (some (owner,hs.length))=some (owner',(hs++g9).length)/\Own mask owner' (hs++g9)
 | [],hs,owner,O,_=>⟨owner,by rw [bu];rfl,by rw [bu];exact O⟩
 | h::g9,hs,owner,O,hl=>by
  rw [ag] at hl
  obtain ⟨j,e,O'⟩:=O.step hM (by lia) h
  obtain ⟨owner',e2,O2⟩:=zr5 hM g9 (hs++[h]) _ O' (by rw [al,ag,aO];lia)
  have ea:hs++[h]++g9=hs++h::g9:=by simp
  rw [ea] at e2 O2
  refine ⟨owner',?_,O2⟩
  rw [cO,←e2]
  congr 1
  show (do
   let j ←layClean.free mask owner (turns mask) (bits h % (mask+1)) (bits h)
   pure (owner.setIfInBounds j (some hs.length),hs.length+1))=_
  rw [e,al]
  rfl
theorem yz1 {mask:Nat}(hM:Size mask)(hs:Array Int)(hl:hs.size<=mask):∃owner,layClean mask hs=some owner/\Own mask owner hs.toList:=by
 obtain ⟨owner,e,O⟩:=zr5 hM hs.toList [] _ (Own.nil mask) (by rw [aO,ak];lia)
 refine ⟨owner,?_,O⟩
 unfold layClean
 rw [←Array.foldl_toList]
 have e':=congrArg (Option.map Prod.fst) e
 exact e'
structure xg9 (hs:List Int) (t':SetTable) (order:List Nat):Prop where
 perm:order.Perm (List.range hs.length)
 tab:hs.length*5<t'.mask*3->Tab t' (order.map λi=>hs.getD i 0)
theorem laid_ok {mask finger moves:Nat}{led plain:Bool}(hM:Size mask)(hs:Array Int)(hl:hs.size<=mask):∃(t':SetTable) (order:Array Nat),laid mask finger moves led plain hs=some (t',order)/\t'.mask=mask/\t'.moves=moves/\t'.led=led/\xg9 hs.toList t' order.toList:=by
 obtain ⟨owner,e,O⟩:=yz1 hM hs hl
 have hgd:∀(j i:Nat),owner.getD j none=some i↔owner[j]?=some (some i):=λj i=>by
  by_cases h:j<owner.size
  ·rw [aZ h]
   simp [Array.getD,h]
  ·rw [cw (by lia)]
   simp [Array.getD,h]
 obtain ⟨live,hlive⟩:∃live,live=(List.range (mask+1)).filterMap λj=>(owner.getD j none).map (j,·):=⟨_,rfl⟩
 have mem:∀(j i:Nat),(j,i)∈live↔owner[j]?=some (some i):=λj i=>by
  rw [hlive,aC,←hgd]
  constructor
  ·rintro ⟨a,_,ha⟩
   cases hq:owner.getD a none with
   | none=>rw [hq] at ha;cases ha
   | some b =>
    rw [hq] at ha
    have:=Option.some.inj ha
    cases this
    exact hq
  ·intro hq
   refine ⟨j,aR.mpr ?_,by rw [hq];rfl⟩
   have:=(bh.mp ((hgd j i).mp hq)).1
   rw [O.size] at this
   exact this
 have hpw:live.Pairwise λa b=>a.1<b.1:=by
  rw [hlive]
  refine List.Pairwise.filterMap _ (R:=λa b=>a<b) ?_ (cX)
  intro a b hab x hx y hy
  cases qa:owner.getD a none with
  | none=>rw [qa] at hx;cases hx
  | some u =>
   cases qb:owner.getD b none with
   | none=>rw [qb] at hy;cases hy
   | some v =>
    rw [qa] at hx
    rw [qb] at hy
    have e1:=Option.some.inj (show some (a,u)=some x from hx)
    have e2:=Option.some.inj (show some (b,v)=some y from hy)
    rw [←e1,←e2]
    exact hab
 have hnd:(live.map (·.2)).Nodup:=by
  refine aH.mpr (List.Pairwise.imp_of_mem ?_ hpw)
  intro a b ha hb hlt z
  have h1:=(mem a.1 a.2).mp ha
  have h2:=(mem b.1 b.2).mp hb
  rw [z] at h1
  have:=O.one _ _ _ h1 h2
  lia
 have hmem2:∀i,i∈live.map (·.2)↔i<hs.toList.length:=λi=>by
  constructor
  ·intro h
   obtain ⟨⟨j,i'⟩,h1,rfl⟩:=aI.mp h
   exact O.lt j i' ((mem j i').mp h1)
  ·intro h
   obtain ⟨q,hq,_⟩:=O.has i _ (ah h)
   exact aI.mpr ⟨(_,i),(mem _ _).mpr hq,rfl⟩
 have hperm:(live.map (·.2)).Perm (List.range hs.toList.length):=by
  refine (List.perm_ext_iff_of_nodup hnd cr).mpr λi=>?_
  rw [hmem2,aR]
 refine ⟨{ mask,place:=(live.map (·.1)).toArray,dummies:=#[],finger,led,moves,plain },(live.map (·.2)).toArray,?_,rfl,rfl,rfl,⟨hperm,λhroom=>?_⟩⟩
 ·unfold laid
  rw [e,hlive]
  rfl
 ·have hpl:∀a:Nat,((live.map (·.1)).toArray)[a]?=(live[a]?).map (·.1):=λa=>by
   rw [List.getElem?_toArray,au]
  have hsz:((live.map (·.1)).toArray).size=hs.toList.length:=by
   rw [ao,aa]
   have:=hperm.length_eq
   rw [aa,aS] at this
   exact this
  refine ⟨hM,rfl,λa b x y ha hb hab=>?_,λi j hi=>?_,?_,?_,λi j x hi hx=>?_⟩
  ·rw [hpl] at ha hb
   cases qa:live[a]? with
   | none=>rw [qa] at ha;cases ha
   | some u =>
    cases qb:live[b]? with
    | none=>rw [qb] at hb;cases hb
    | some v =>
     rw [qa] at ha
     rw [qb] at hb
     rw [←Option.some.inj ha,←Option.some.inj hb]
     obtain ⟨ha1,ha2⟩:=ar.mp qa
     obtain ⟨hb1,hb2⟩:=ar.mp qb
     rw [←ha2,←hb2]
     exact bQ.mp hpw a b ha1 hb1 hab
  ·rw [hpl] at hi
   cases q:live[i]? with
   | none=>rw [q] at hi;cases hi
   | some u =>
    rw [q] at hi
    rw [←Option.some.inj hi]
    have:=(mem u.1 u.2).mp (ay q)
    have:=(bh.mp this).1
    rw [O.size] at this
    show u.1<=mask
    lia
  ·rw [hsz,aa,aN]
   exact (hperm.length_eq.trans aS).symm
  ·show ((live.map (·.1)).toArray).size*5<mask*3
   rw [hsz]
   exact hroom
  ·rw [hpl] at hi
   cases q:live[i]? with
   | none=>rw [q] at hi;cases hi
   | some u =>
    rw [q] at hi
    have ej:u.1=j:=Option.some.inj hi
    rw [aN,au,au,q] at hx
    have ex:hs.toList.getD u.2 0=x:=Option.some.inj hx
    have hu:=(mem u.1 u.2).mp (ay q)
    have hlt:=O.lt _ _ hu
    have hxx:hs.toList[u.2]?=some x:=by
     rw [←ex,ah hlt]
     simp [List.getD,ah hlt]
    obtain ⟨q',hq',hall⟩:=O.has u.2 x hxx
    refine ⟨q',?_,λr hr=>?_⟩
    ·rw [←ej];exact O.one _ _ _ hq' hu
    ·obtain ⟨i',hi'⟩:=hall r hr
     obtain ⟨a,ha⟩:=bL ((mem _ _).mpr hi')
     exact ⟨a,by rw [hpl,ha];rfl⟩
end Tb.ST
namespace L2
open PySem PySem.Spec PyProof.Rows
section
variable {prog:Program}{w:World}{K:Type}[DecidableEq K]{knd:KeyKind prog w K}{A:Around}{E:Value->Shared->Prop}{s:Shared}
theorem zq2 {n:Nat}{v:Value}(h:carriedByValue v=true):ofAClassStatement n v=pure false:=by
 cases v with
 | ref a=>cases h
 | _=>first|rfl|(unfold ofAClassStatement;rfl)
theorem M9 {ks:List K}{a:Addr}{Q:Bool->Shared->Prop}(hk:IsTupleKey knd s.heap ks a)(h:Q false s):wpAny (model prog w) A (ofAClassStatement 8 (.ref a)) Q E s:=by
 have hT:=hk.typeIs
 obtain ⟨o,items,n,ho,hc,hd,hi⟩:=hk
 unfold ofAClassStatement
 refine wpAny_bind (wpAny_typeOf hT ?_)
 dsimp only
 rw [if_pos (by decide)]
 refine wpAny_bind (wpAny_pure ?_)
 rw [if_neg (by decide)]
 refine wpAny_bind (wpAny_seqItems ho hd ?_)
 dsimp only
 refine wpAny_bind ?_
 rw [←Array.forIn_toList]
 refine wpAny_forIn_list _ (λg9 r s'=>r.1=none/\s'=s/\∀v∈g9,carriedByValue v=true) _ ?_ ?_ _ _ ⟨rfl,rfl,hi.byValue⟩
 ·rintro v g9 r s' ⟨hr,rfl,hall⟩
  rw [zq2 (hall v ap)]
  refine wpAny_bind (wpAny_pure ?_)
  rw [if_neg (by decide)]
  exact wpAny_pure ⟨rfl,rfl,λu hu'=>hall u (aj _ hu')⟩
 ·rintro ⟨r1,r2⟩ s' ⟨hr,rfl,_⟩
  simp only at hr
  subst hr
  exact wpAny_pure h
theorem zr1 {n:Nat}{v:Value}(h:carriedByValue v=true):∃b,hashByValue n v=pure b:=by
 cases v with
 | ref a=>cases h
 | none=>exact ⟨true,by unfold hashByValue;rfl⟩
 | bool _=>exact ⟨true,by unfold hashByValue;rfl⟩
 | int _ _=>exact ⟨true,by unfold hashByValue;rfl⟩
 | float bits _=>exact ⟨(Float64.hash? bits).isSome,by unfold hashByValue;rfl⟩
 | _=>exact ⟨false,by unfold hashByValue;rfl⟩
theorem zl3 {ks:List K}{a:Addr}{Q:Bool->Shared->Prop}(hk:IsTupleKey knd s.heap ks a)(h:∀b,Q b s):wpAny (model prog w) A (hashByValue 8 (.ref a)) Q E s:=by
 have hT:=hk.typeIs
 obtain ⟨o,items,n,ho,hc,hd,hi⟩:=hk
 unfold hashByValue
 refine wpAny_bind (wpAny_specialOf hT F.slot_tuple_hash.lookup ?_)
 dsimp only
 refine wpAny_bind (wpAny_seqItems ho hd ?_)
 rw [cn]
 refine wpAny_bind ?_
 rw [←Array.forIn_toList]
 refine wpAny_forIn_list _ (λg9 r s'=>r.1=none/\s'=s/\∀v∈g9,carriedByValue v=true) _ ?_ ?_ _ _ ⟨rfl,rfl,hi.byValue⟩
 ·rintro v g9 r s' ⟨hr,rfl,hall⟩
  obtain ⟨b,e⟩:=zr1 (n:=7) (hall v ap)
  rw [e]
  refine wpAny_bind (wpAny_pure ?_)
  cases b with
  | true =>
   rw [if_neg (by decide)]
   exact wpAny_pure ⟨rfl,rfl,λu hu'=>hall u (aj _ hu')⟩
  | false =>
   rw [if_pos (by decide)]
   first|exact wpAny_pure (wpAny_pure (h _))|exact wpAny_pure (h _)
 ·rintro ⟨r1,r2⟩ s' ⟨hr,rfl,_⟩
  simp only at hr
  subst hr
  exact wpAny_pure (h _)
theorem xc4 {k:List K}{b:Addr}(hk:IsTupleKey knd s.heap k b):∀(ys:List Value) {Q:Bool->Shared->Prop},(∀y∈ys,∃(k':List K) (c:Addr),y=.ref c/\IsTupleKey knd s.heap k' c)->Q false s->wpAny (model prog w) A (searchCouldBeSeen (.ref b) ys) Q E s:=by
 intro ys Q hys h
 unfold searchCouldBeSeen
 refine wpAny_bind ?_
 refine wpAny_forIn_list _ (λg9 r s'=>r.1=none/\s'=s/\∀y∈g9,∃(k':List K) (c:Addr),y=.ref c/\IsTupleKey knd s.heap k' c) _ ?_ ?_ _ _ ⟨rfl,rfl,hys⟩
 ·rintro y g9 r s' ⟨hr,rfl,hall⟩
  obtain ⟨k',c,rfl,hc⟩:=hall y ap
  dsimp only
  split
  ·exact wpAny_pure ⟨rfl,rfl,λu hu'=>hall u (aj _ hu')⟩
  ·refine wpAny_bind (wpAny_eqIsQuiet_tuple hk ?_)
   rw [if_neg (by decide)]
   refine wpAny_bind (wpAny_eqIsQuiet_tuple hc ?_)
   rw [if_neg (by decide)]
   refine wpAny_bind (M9 hk ?_)
   rw [if_neg (by decide)]
   refine wpAny_bind (M9 hc ?_)
   rw [if_neg (by decide)]
   exact wpAny_pure ⟨rfl,rfl,λu hu'=>hall u (aj _ hu')⟩
 ·rintro ⟨r1,r2⟩ s' ⟨hr,rfl,_⟩
  simp only at hr
  subst hr
  exact wpAny_pure h
def ent (knd:KeyKind prog w K)(x:List K×Addr):Int×Value:=(tupleKeyHash knd x.1,.ref x.2)
def T5 (knd:KeyKind prog w K)(xs:List (List K×Addr)):List Int:=xs.map λx=>tupleKeyHash knd x.1
structure S2 (knd:KeyKind prog w K) (h:Heap) (a:Addr) (xs:List (List K×Addr)) (o:Obj) (es:Array (Int×Value)) (ep:Nat) (t:SetTable):Prop where
 ho:h.get? a=some o
 hd:o.data=.set es ep t
 hx:o.ExactSet
 he:es.toList=xs.map (ent knd)
 tab:Tb.ST.Tab t (T5 knd xs)
 ks:∀x∈xs,IsTupleKey knd h x.1 x.2
 nd:(xs.map (·.1)).Nodup
theorem S2.fits {h:Heap}{a:Addr}{xs:List (List K×Addr)}{o:Obj}{es:Array (Int×Value)}{ep:Nat}{t:SetTable}(T:S2 knd h a xs o es ep t):t.fits es.size=true:=by
 have h1:=T.tab.fits
 have h2:es.size=xs.length:=by rw [←ak,T.he,aa]
 unfold SetTable.fits
 rw [aG,beq_iff_eq,decide_eq_true_eq]
 refine ⟨?_,h1.2.1⟩
 rw [h1.1,h2]
 unfold T5
 rw [aa]
theorem zl5 {xs:List (List K×Addr)}{i:Nat}{h:Int}(e:(T5 knd xs)[i]?=some h):∃x,xs[i]?=some x/\tupleKeyHash knd x.1=h:=by
 unfold T5 at e
 rw [au] at e
 cases q:xs[i]? with
 | none=>rw [q] at e;cases e
 | some x=>rw [q] at e;exact ⟨x,rfl,Option.some.inj e⟩
theorem S2.get {h:Heap}{a:Addr}{xs:List (List K×Addr)}{o:Obj}{es:Array (Int×Value)}{ep:Nat}{t:SetTable}(T:S2 knd h a xs o es ep t){i:Nat}{x:List K×Addr}(e:xs[i]?=some x):es[i]?=some (ent knd x):=by
 rw [←aD,T.he,au,e]
 rfl
theorem A1 {a b:Addr}{xs:List (List K×Addr)}{o:Obj}{es:Array (Int×Value)}{ep:Nat}{t:SetTable}{k:List K}(T:S2 knd s.heap a xs o es ep t)(hk:IsTupleKey knd s.heap k b)(hu:A.units<cLine){fuel q r i:Nat}{x:List K×Addr}{Q:SetFound->Shared->Prop}
  (hx:xs[i]?=some x) (hp:t.place[i]?=some (Tb.ST.pj t.mask (tupleKeyHash knd k) r))
  (hpr:∀f,Tb.ST.HashAt (T5 knd xs) f->t.probe f (tupleKeyHash knd k) (Tb.ST.go t.mask q (Tb.ST.start t.mask (tupleKeyHash knd k)))=some (.candidate (Tb.ST.pj t.mask (tupleKeyHash knd k) r) i (Tb.ST.go t.mask (r+1) (Tb.ST.start t.mask (tupleKeyHash knd k)))))
  (h1:x.1=k->Q (.there none) s) (h2:x.1≠k->wpAny (model prog w) A (setSearchFrom a (.ref b) (tupleKeyHash knd k) true fuel (some (Tb.ST.go t.mask (r+1) (Tb.ST.start t.mask (tupleKeyHash knd k))))) Q E s)
  {stand:Option SetTable.Probe} (hst:stand.getD (t.probeStart (tupleKeyHash knd k))=Tb.ST.go t.mask q (Tb.ST.start t.mask (tupleKeyHash knd k))) :
  wpAny (model prog w) A (setSearchFrom a (.ref b) (tupleKeyHash knd k) true (fuel+1) stand) Q E s:=by
 have hf:=T.fits
 have hxk:=T.ks x (ay hx)
 unfold setSearchFrom
 refine wpAny_bind (wpAny_setState_of T.ho T.hd hf ?_)
 dsimp only
 rw [T.tab.fits.2.2,if_neg am,hst]
 rw [hpr]
 rotate_left
 ·intro i' x' hx'
  obtain ⟨y,hy,e⟩:=zl5 hx'
  have:=T.get hy
  show ((es[i']?.map (·.1)).getD 0)=x'
  rw [this]
  exact e
 dsimp only
 have hled:∀{tail:Sem SetFound} {bad:Sem SetFound},wpAny (model prog w) A tail Q E s->wpAny (model prog w) A (if (!t.led)=true then do
   let seen ←searchCouldBeSeen (Value.ref b) (List.map (λx=>x.snd) (Array.filter (λx=>x.fst==tupleKeyHash knd k) es).toList)
   if seen=true then bad else tail
  else tail) Q E s:=λ{tail bad} ht=>by
  cases hl:t.led with
  | true=>rw [if_neg (by decide)];exact ht
  | false =>
   rw [if_pos (by decide)]
   refine wpAny_bind (xc4 hk _ (λy hy=>?_) ?_)
   ·obtain ⟨e,he,rfl⟩:=aI.mp hy
    have he2:e∈es.toList:=by
     rw [Array.toList_filter] at he
     exact (cz.mp he).1
    rw [T.he] at he2
    obtain ⟨z,hz,rfl⟩:=aI.mp he2
    exact ⟨z.1,z.2,rfl,T.ks z hz⟩
   ·rw [if_neg (by decide)];exact ht
 refine hled ?_
 rw [T.get hx]
 dsimp only [ent]
 refine wpAny_bind (wpAny_holding (wpAny_eqBool_tuple hu hxk hk ?_))
 refine wpAny_bind (wpAny_setState_of T.ho T.hd hf ?_)
 dsimp only
 by_cases e:x.1=k
 ·rw [decide_eq_true e,if_pos (by decide)]
  exact wpAny_pure (h1 e)
 ·rw [decide_eq_false e,if_neg (by decide),show t.sameMemory t.moves t.mask=some true by unfold SetTable.sameMemory;rw [if_pos (by simp)]]
  dsimp only
  rw [if_pos rfl,T.tab.live hp]
  dsimp only
  rw [T.get hx]
  dsimp only [ent]
  have same:isSame (Value.ref x.2) (Value.ref x.2)=pure true:=by
   unfold isSame
   dsimp only
   rw [if_pos (by simp)]
  rw [same]
  refine wpAny_bind (wpAny_pure (wpAny_bind (wpAny_pure ?_)))
  rw [if_pos rfl]
  dsimp only
  rw [if_neg (by decide)]
  exact h2 e
theorem zo7 {a b:Addr}{xs:List (List K×Addr)}{o:Obj}{es:Array (Int×Value)}{ep:Nat}{t:SetTable}{k:List K}(T:S2 knd s.heap a xs o es ep t)(hk:IsTupleKey knd s.heap k b)(hu:A.units<cLine){Q:SetFound->Shared->Prop}
  (hm:k∈xs.map (·.1)) (h:Q (.there none) s):wpAny (model prog w) A (setSearch a (.ref b) (tupleKeyHash knd k) true) Q E s:=by
 obtain ⟨x0,hx0,rfl⟩:=aI.mp hm
 obtain ⟨i0,hi0⟩:=bL hx0
 have hh0:(T5 knd xs)[i0]?=some (tupleKeyHash knd x0.1):=by unfold T5;rw [au,hi0];rfl
 obtain ⟨j0,hj0⟩:∃j,t.place[i0]?=some j:=⟨_,aZ (by rw [T.tab.len];exact (ar.mp hh0).1)⟩
 obtain ⟨q0,hq0,ej,all⟩:=T.tab.near hj0 hh0
 have main:∀n q fuel stand,q0-q=n->q<=q0->n<fuel->stand.getD (t.probeStart (tupleKeyHash knd x0.1))=Tb.ST.go t.mask q (Tb.ST.start t.mask (tupleKeyHash knd x0.1))->wpAny (model prog w) A (setSearchFrom a (.ref b) (tupleKeyHash knd x0.1) true fuel stand) Q E s:=by
  intro n
  induction n using Nat.strongRecOn with
  | _ n ih =>
   intro q fuel stand en hq hf hst
   obtain ⟨fuel,rfl⟩:∃f,fuel=f+1:=⟨fuel-1,by lia⟩
   rcases T.tab.next hq (by lia) all (.inr ⟨i0,by rw [ej];exact hj0,hh0⟩) with ⟨no,_⟩|⟨r,i,hqr,hrQ,hp,hhi,hpr⟩
   ·exact absurd (by rw [ej];exact hj0) (no i0)
   ·obtain ⟨x,hx,_⟩:=zl5 hhi
    refine A1 T hk hu hx hp hpr (λ_=>h) (λhne=>?_) hst
    have hr:r≠q0:=λz=>by
     subst z
     rw [ej,←hj0] at hp
     have e1:i=i0:=by
      have h1:=Tb.ST.below_at T.tab.ris (hp.trans hj0)
      have h2:=Tb.ST.below_at T.tab.ris hj0
      lia
     rw [e1,hi0] at hx
     exact hne (by rw [←Option.some.inj hx])
    exact ih (q0-(r+1)) (by lia) (r+1) fuel _ rfl (by lia) (by lia) rfl
 have ht:=T.tab.m.turns
 exact main q0 0 100000 none rfl (ax _) (by lia) rfl
theorem zv0 {a b:Addr}{xs:List (List K×Addr)}{o:Obj}{es:Array (Int×Value)}{ep:Nat}{t:SetTable}{k:List K}(T:S2 knd s.heap a xs o es ep t)(hk:IsTupleKey knd s.heap k b)(hu:A.units<cLine){Q:SetFound->Shared->Prop}
  (hm:k∉xs.map (·.1)) (h:∀Qn,(∀i:Nat,t.place[i]?≠some (Tb.ST.pj t.mask (tupleKeyHash knd k) Qn))->(∀r,r<Qn->∃i:Nat,t.place[i]?=some (Tb.ST.pj t.mask (tupleKeyHash knd k) r))->Q (.free (Tb.ST.pj t.mask (tupleKeyHash knd k) Qn) false) s) :
  wpAny (model prog w) A (setSearch a (.ref b) (tupleKeyHash knd k) true) Q E s:=by
 obtain ⟨Qn,hQ,no,all⟩:=T.tab.first (tupleKeyHash knd k)
 have main:∀n q fuel stand,Qn-q=n->q<=Qn->n<fuel->stand.getD (t.probeStart (tupleKeyHash knd k))=Tb.ST.go t.mask q (Tb.ST.start t.mask (tupleKeyHash knd k))->wpAny (model prog w) A (setSearchFrom a (.ref b) (tupleKeyHash knd k) true fuel stand) Q E s:=by
  intro n
  induction n using Nat.strongRecOn with
  | _ n ih =>
   intro q fuel stand en hq hf hst
   obtain ⟨fuel,rfl⟩:∃f,fuel=f+1:=⟨fuel-1,by lia⟩
   rcases T.tab.next hq (by lia) all (.inl no) with ⟨_,hpr⟩|⟨r,i,hqr,hrQ,hp,hhi,hpr⟩
   ·unfold setSearchFrom
    refine wpAny_bind (wpAny_setState_of T.ho T.hd T.fits ?_)
    dsimp only
    rw [T.tab.fits.2.2,if_neg am,hst]
    rw [hpr]
    rotate_left
    ·intro i' x' hx'
     obtain ⟨y,hy,e⟩:=zl5 hx'
     have:=T.get hy
     show ((es[i']?.map (·.1)).getD 0)=x'
     rw [this]
     exact e
    dsimp only
    exact wpAny_pure (h Qn no all)
   ·obtain ⟨x,hx,_⟩:=zl5 hhi
    refine A1 T hk hu hx hp hpr (λe=>absurd (aI.mpr ⟨x,ay hx,e⟩) hm) (λhne=>?_) hst
    have hr:r≠Qn:=λz=>by
     subst z
     exact no i hp
    exact ih (Qn-(r+1)) (by lia) (r+1) fuel _ rfl (by lia) (by lia) rfl
 have ht:=T.tab.m.turns
 exact main Qn 0 100000 none rfl (ax _) (by lia) rfl
theorem zi8 {h h':Heap}{a:Addr}{o:Obj}{es:Array (Int×Value)}{ep:Nat}{t:SetTable}(ho:h.get? a=some o)(hd:o.data=.set es ep t)(hs:Heap.SameBut a h h'){ks:List K}{b:Addr}(hk:IsTupleKey knd h ks b):IsTupleKey knd h' ks b:=by
 obtain ⟨o',items,n,ho',hc,hd',hi⟩:=hk
 have hne:b≠a:=by
  rintro rfl
  obtain rfl:o'=o:=Option.some.inj (ho'.symm.trans ho)
  rw [hd] at hd'
  exact nomatch hd'
 exact ⟨o',items,n,(hs.2 b hne).trans ho',hc,hd',hi⟩
theorem yj8 {α β:Type}(g:α->β)(l:List α)(order:List Nat):order.filterMap (λi=>(l.map g)[i]?)=(order.filterMap (λi=>l[i]?)).map g:=by
 rw [List.map_filterMap]
 congr 1
 funext i
 rw [au]
theorem zr0 {α:Type}(l:List α):∀n,(List.range n).filterMap (λi=>l[i]?)=l.take n
 | 0=>by simp
 | n+1=>by
  rw [cy,List.filterMap_append,zr0 l n,bT]
  congr 1
theorem yb9 (l:List Int):∀(order:List Nat),(∀i∈order,i<l.length)->order.filterMap (λi=>l[i]?)=order.map λi=>l.getD i 0
 | [],_=>rfl
 | i::r,h=>by
  have hi:=h i ap
  rw [cf,ah hi,aE,yb9 l r λj hj=>h j (aj _ hj)]
  try simp [List.getD,ah hi]
theorem yg1 {mask n:Nat}(hM:Tb.ST.Size mask)(h1:n*5<mask*3)(h2:¬(n+1)*5<mask*3)(h3:n<=305) :
  Tb.ST.Size (SetTable.sizeAbove (SetTable.grown (n+1))-1)/\n+1<=SetTable.sizeAbove (SetTable.grown (n+1))-1/\(n+1)*5<(SetTable.sizeAbove (SetTable.grown (n+1))-1)*3/\SetTable.sizeAbove (SetTable.grown (n+1))<=1000:=by
 have:n=4∨n=18∨n=76:=by rcases hM with rfl|rfl|rfl|rfl <;> lia
 rcases this with rfl|rfl|rfl
 ·exact ⟨.inr (.inl (by decide)),by decide,by decide,by decide⟩
 ·exact ⟨.inr (.inr (.inl (by decide))),by decide,by decide,by decide⟩
 ·exact ⟨.inr (.inr (.inr (by decide))),by decide,by decide,by decide⟩
def W6 (knd:KeyKind prog w K)(h:Heap)(a:Addr)(xs:List (List K×Addr)):Prop:=∃o es ep t,S2 knd h a xs o es ep t
theorem yc9 {h:Heap}{a:Addr}{o:Obj}{es es':Array (Int×Value)}{ep:Nat}{t t':SetTable}(ho:h.get? a=some o)(hd:o.data=.set es ep t):(h.update a (Obj.putSet es' t')).get? a=some { o with data:=.set es' (ep+1) t' }:=by
 have:=Heap.get?_update_self (Obj.putSet es' t') ho (by rw [putSet_of es' t' hd];rfl)
 rw [putSet_of es' t' hd] at this
 exact this
theorem yg6 {a:Addr}{xs:List (List K×Addr)}{o:Obj}{es:Array (Int×Value)}{ep n:Nat}{t:SetTable}(ho:s.heap.get? a=some o)(hx:o.ExactSet)(hd:o.data=.set es ep t)(he:es.toList=xs.map (ent knd))(hf:t.fits es.size=true)(hl:xs.length=n+1)
  (hk:∀x∈xs,IsTupleKey knd s.heap x.1 x.2) (nd:(xs.map (·.1)).Nodup) (m1:Tb.ST.Size (SetTable.sizeAbove (SetTable.grown (n+1))-1)) (m2:n+1<=SetTable.sizeAbove (SetTable.grown (n+1))-1) (m3:(n+1)*5<(SetTable.sizeAbove (SetTable.grown (n+1))-1)*3) (m4:SetTable.sizeAbove (SetTable.grown (n+1))<=1000) {Q:Unit->Shared->Prop}
  (h:∀(h':Heap) (xs':List (List K×Addr)),Heap.SameBut a s.heap h'->W6 knd h' a xs'->xs'.Perm xs->Q () { s with heap:=h' }) :
  wpAny (model prog w) A (setRelay a (SetTable.grown (n+1))) Q E s:=by
 have hsz:es.size=n+1:=by rw [←ak,he,aa,hl]
 have h16:=sizeLine_eq
 unfold setRelay
 refine wpAny_bind (wpAny_setState_of ho hd hf ?_)
 dsimp only
 rw [if_neg (by lia)]
 obtain ⟨t3,order,el,em,_,_,L⟩:=Tb.ST.laid_ok (finger:=t.finger) (moves:=t.movedTo (SetTable.sizeAbove (SetTable.grown (n+1))-1)) (led:=t.led) (plain:=t.plain) m1 (es.map (·.1)) (by rw [Array.size_map,hsz];exact m2)
 have er:t.relaid (es.map (·.1)) (SetTable.grown (n+1))=some (t3,order):=el
 rw [er]
 have hhs:(es.map (·.1)).toList=T5 knd xs:=by
  rw [cI,he,aW]
  rfl
 rw [hhs] at L
 have hln:(T5 knd xs).length=n+1:=by unfold T5;rw [aa,hl]
 have hlt:∀i∈order.toList,i<(T5 knd xs).length:=λi hi=>aR.mp (L.perm.mem_iff.mp hi)
 obtain ⟨xs2,hxs2⟩:∃xs2,xs2=order.toList.filterMap (λi=>xs[i]?):=⟨_,rfl⟩
 have hp2:xs2.Perm xs:=by
  rw [hxs2]
  have:=L.perm.filterMap λi=>xs[i]?
  rw [zr0,hln,←hl,cJ] at this
  exact this
 obtain ⟨es2,hes2⟩:∃es2,es2=order.filterMap (es[·]?):=⟨_,rfl⟩
 have he2:es2.toList=xs2.map (ent knd):=by
  rw [hes2,Array.toList_filterMap,hxs2,←yj8]
  congr 1
  funext i
  rw [←he,aD]
 have hs2:T5 knd xs2=order.toList.map λi=>(T5 knd xs).getD i 0:=by
  rw [←yb9 _ _ hlt,hxs2]
  unfold T5
  rw [yj8]
 have hsz2:es2.size=es.size:=by rw [←ak,he2,aa,hp2.length_eq,hl,hsz]
 have key:∀{m:Sem (Array (Int×Value)×SetTable)} {Q':Array (Int×Value)×SetTable->Shared->Prop},m=(if (es2.size != es.size)=true then (unsupported "internal:set-table-lost-an-element":Sem PUnit) >>= λ_=>pure (es2,t3) else pure (es2,t3))->Q' (es2,t3) s->wpAny (model prog w) A m Q' E s:=λ{m Q'} e q=>by
  rw [e,if_neg (by rw [hsz2];simp)]
  exact wpAny_pure q
 refine wpAny_bind (key ?_ ?_)
 ·rw [hes2]
  rfl
 dsimp only
 refine wpAny_storeSet_of ho hd ?_ (by lia)
 refine h _ xs2 (Heap.SameBut.update _ _ _) ⟨_,es2,_,t3,yc9 ho hd,rfl,hx,he2,?_,λx hx'=>zi8 ho hd (Heap.SameBut.update _ _ _) (hk x (hp2.mem_iff.mp hx')),(hp2.map _).nodup_iff.mpr nd⟩ hp2
 rw [hs2]
 exact L.tab (by rw [em,hln];exact m3)
theorem yr5 {a b:Addr}{xs:List (List K×Addr)}{o:Obj}{es:Array (Int×Value)}{ep:Nat}{t:SetTable}{k:List K}(T:S2 knd s.heap a xs o es ep t)(hk:IsTupleKey knd s.heap k b)(hu:A.units<cLine)(hn:xs.length<=305){Q:Bool->Shared->Prop}
  (h:∀(h':Heap) (xs':List (List K×Addr)) (r:Bool),Heap.SameBut a s.heap h'->W6 knd h' a xs'->(k∈xs.map (·.1)/\xs'=xs∨k∉xs.map (·.1)/\xs'.Perm ((k,b)::xs))->Q r { s with heap:=h' }) :
  wpAny (model prog w) A (setAddHashed a (.ref b) (tupleKeyHash knd k)) Q E s:=by
 have hf:=T.fits
 have h16:=sizeLine_eq
 have hes:es.size=xs.length:=by rw [←ak,T.he,aa]
 unfold setAddHashed setAddHashedIn
 refine wpAny_holding (wpAny_bind (wpAny_setState_of T.ho T.hd hf ?_))
 dsimp only
 rw [show byScan (Value.ref b) es=false from rfl,if_neg am]
 by_cases hm:k∈xs.map (·.1)
 ·refine wpAny_bind (zo7 T hk hu hm ?_)
  dsimp only
  exact wpAny_pure (h s.heap xs false (Heap.SameBut.refl _ _) ⟨o,es,ep,t,T⟩ (.inl ⟨hm,rfl⟩))
 ·refine wpAny_bind (zv0 T hk hu hm λQn no all=>?_)
  dsimp only
  refine wpAny_bind (wpAny_setState_of T.ho T.hd hf ?_)
  dsimp only
  have PA:=T.tab.put no all
  generalize t.put (Tb.ST.pj t.mask (tupleKeyHash knd k) Qn)=tp at PA ⊢
  obtain ⟨t1,p⟩:=tp
  dsimp only at PA ⊢
  have key:∀F:Bool->Sem Bool,(∀bv,wpAny (model prog w) A (F bv) Q E s)->wpAny (model prog w) A (if t1.plain=true then hashByValue 8 (.ref b) >>= F else pure true >>= F) Q E s:=λF hF=>by
   split
   ·exact wpAny_bind (zl3 hk λbv=>hF bv)
   ·exact wpAny_bind (wpAny_pure (hF _))
  refine key _ λbv=>?_
  clear key
  have PP:=PA bv
  clear PA
  generalize (if bv=true then t1 else { t1 with plain:=false })=t2 at PP ⊢
  obtain ⟨xs1,hxs1⟩:∃xs1,xs1=xs.take p++(k,b)::xs.drop p:=⟨_,rfl⟩
  have hp:p<=xs.length:=by have:=PP.le;unfold T5 at this;rwa [aa] at this
  have hes1:(SetTable.insertAt es p (tupleKeyHash knd k,Value.ref b)).toList=xs1.map (ent knd):=by
   rw [Tb.ST.insertAt_toList _ _ _ (by rw [hes];exact hp),T.he,←cU,←dw,hxs1,bo,aE]
   rfl
  have hhs1:(T5 knd xs).take p++tupleKeyHash knd k::(T5 knd xs).drop p=T5 knd xs1:=by
   unfold T5
   rw [hxs1,bo,aE,cU,dw]
  have hpm:xs1.Perm ((k,b)::xs):=by
   rw [hxs1]
   refine List.perm_middle.trans ?_
   rw [bd]
  have hnd1:(xs1.map (·.1)).Nodup:=(hpm.map (·.1)).nodup_iff.mpr (bD.mpr ⟨hm,T.nd⟩)
  have hl1:xs1.length=xs.length+1:=hpm.length_eq
  generalize SetTable.insertAt es p (tupleKeyHash knd k,Value.ref b)=es1 at hes1 ⊢
  have hsz:es1.size=xs.length+1:=by rw [←ak,hes1,aa,hl1]
  have hpl:t.place.size=xs.length:=by rw [T.tab.len];unfold T5;rw [aa]
  have hpl2:t2.place.size=xs.length+1:=by rw [PP.size,hpl]
  have hfill:t2.fill=xs.length+1:=by
   unfold SetTable.fill
   rw [PP.nod',hpl2]
   rfl
  have hmem:∀x∈xs1,IsTupleKey knd s.heap x.1 x.2:=λx hx=>by
   rw [hxs1] at hx
   rcases bf.mp hx with z|z
   ·exact T.ks x (cC z)
   ·rcases aw.mp z with rfl|z
    ·exact hk
    ·exact T.ks x (bV z)
  refine wpAny_bind (wpAny_storeSet_of T.ho T.hd ?_ (by lia))
  have ho1:=yc9 (es':=es1) (t':=t2) T.ho T.hd
  have sb:=Heap.SameBut.update s.heap a (Obj.putSet es1 t2)
  generalize s.heap.update a (Obj.putSet es1 t2)=h1 at ho1 sb ⊢
  have hks1:∀x∈xs1,IsTupleKey knd h1 x.1 x.2:=λx hx=>zi8 T.ho T.hd sb (hmem x hx)
  by_cases hroom:(xs.length+1)*5<t.mask*3
  ·rw [if_neg]
   rotate_left
   ·unfold SetTable.tooFull
    rw [hfill,PP.mask]
    simp
    lia
   exact wpAny_pure (h h1 xs1 true sb ⟨_,es1,_,t2,ho1,rfl,T.hx,hes1,by rw [←hhs1];exact PP.tab (by rw [hpl2,PP.mask];exact hroom),hks1,hnd1⟩ (.inr ⟨hm,hpm⟩))
  ·rw [if_pos]
   rotate_left
   ·unfold SetTable.tooFull
    rw [hfill,PP.mask]
    simp
    lia
   obtain ⟨m1,m2,m3,m4⟩:=yg1 T.tab.m (by have:=T.tab.room;rw [hpl] at this;exact this) hroom hn
   have hmask:xs.length+1<=t2.mask:=by
    rw [PP.mask]
    have:=T.tab.room
    rw [hpl] at this
    rcases T.tab.m with e|e|e|e <;> rw [e] at this hroom ⊢ <;> lia
   have hf1:t2.fits es1.size=true:=by
    unfold SetTable.fits
    rw [aG,beq_iff_eq,decide_eq_true_eq,hpl2,hsz,hfill]
    exact ⟨rfl,hmask⟩
   rw [hes]
   refine wpAny_bind (yg6 (s:={ s with heap:=h1 }) (knd:=knd) (xs:=xs1) (n:=xs.length) ho1 T.hx rfl hes1 hf1 hl1 hks1 hnd1 m1 m2 m3 m4 λh2 xs2 sb2 H2 hp2=>?_)
   exact wpAny_pure (h h2 xs2 true (sb.trans sb2) H2 (.inr ⟨hm,hp2.trans hpm⟩))
structure Cnt {α:Type} (L X:List α):Prop where
 mem:∀k,k∈X↔k∈L
 le:X.length<=L.length
 eq:X.length=L.length↔L.Nodup
theorem Cnt.nil {α:Type}:Cnt ([]:List α) []:=⟨λ_=>Iff.rfl,af _,⟨λ_=>cQ,λ_=>rfl⟩⟩
theorem zd3 {α:Type}{L:List α}{k:α}:(L++[k]).Nodup↔L.Nodup/\k∉L:=by
 rw [List.nodup_append]
 constructor
 ·rintro ⟨a,_,c⟩
  exact ⟨a,λz=>c k z k (by simp) rfl⟩
 ·rintro ⟨a,c⟩
  refine ⟨a,by simp,λx hx y hy e=>?_⟩
  rw [az.mp hy] at e
  exact c (e ▸ hx)
theorem Cnt.old {α:Type}{L X:List α}{k:α}(c:Cnt L X)(h:k∈X):Cnt (L++[k]) X:=by
 have h1:=c.le
 refine ⟨λx=>?_,by rw [al];lia,?_⟩
 ·rw [c.mem,bf,az]
  exact ⟨.inl,λz=>z.elim id λe=>by rw [e];exact (c.mem k).mp h⟩
 ·rw [zd3]
  refine ⟨λe=>?_,λe=>absurd ((c.mem k).mp h) e.2⟩
  rw [al,ag,aO] at e
  lia
theorem Cnt.new {α:Type}{L X X':List α}{k:α}(c:Cnt L X)(h:k∉X)(p:X'.Perm (k::X)):Cnt (L++[k]) X':=by
 have h1:=c.le
 have h2:=p.length_eq
 rw [ag] at h2
 refine ⟨λx=>?_,by rw [al,ag,aO];lia,?_⟩
 ·rw [p.mem_iff,aw,c.mem,bf,az]
  exact Or.comm
 ·rw [zd3,←c.eq,h2,al,ag,aO]
  exact ⟨λe=>⟨by lia,λz=>h ((c.mem k).mpr z)⟩,λe=>by lia⟩
theorem W6.at {h h':Heap}{a:Addr}{xs:List (List K×Addr)}(x:W6 knd h a xs)(ka:∀o,h.get? a=some o->h'.get? a=some o)(kk:∀y∈xs,IsTupleKey knd h' y.1 y.2):W6 knd h' a xs:=by
 obtain ⟨o,es,ep,t,T⟩:=x
 exact ⟨o,es,ep,t,ka o T.ho,T.hd,T.hx,T.he,T.tab,kk,T.nd⟩
theorem zl9 {h h':Heap}{ks:List K}{b:Addr}(hk:IsTupleKey knd h ks b)(k:∀o,h.get? b=some o->h'.get? b=some o):IsTupleKey knd h' ks b:=by
 obtain ⟨o,items,n,ho,r⟩:=hk
 exact ⟨o,items,n,k o ho,r⟩
theorem yl8 {I Z:Addr}{fp wr:List Addr}{G:Array GenState->Array GenState->Prop}{n:Nat}{P:Nat->Value->Prop}{St:Nat->Shared->Prop}{R:Result->Shared->Prop}(W:WalksS prog w A.in1 I fp wr G n P St)(hZ:Z∉fp)(hu:A.units+2<cLine)
  (kb:List (List K×Addr)) (hval:∀i v,P i v->∃x,kb[i]?=some x/\v=.ref x.2) (hkn:kb.length=n) (hout:∀x∈kb,x.2∉Z::wr) (hn:n<=306) :
  ∀(m i:Nat) (s:Shared) (xs:List (List K×Addr)),n-i=m->i<=n->St i s->W6 knd s.heap Z xs->(∀x∈xs,x∈kb)->(∀x∈kb,IsTupleKey knd s.heap x.1 x.2)->Cnt ((kb.take i).map (·.1)) (xs.map (·.1)) ->
  (∀s' xs',Moved (Z::wr) G s s'->W6 knd s'.heap Z xs'->Cnt (kb.map (·.1)) (xs'.map (·.1))->R (.ok (.ret .none)) s') ->
  codeAny (model prog w) A (.builtin "set.update.loop" ⟨[.ref Z,.ref I],[]⟩) R s:=by
 have hZw:Z∉wr:=λz=>hZ (W.sub _ z)
 have hsub:∀b∈wr,b∈Z::wr:=λb z=>aj _ z
 intro m
 induction m with
 | zero =>
  intro i s xs hm hi st hT hin hks hc q
  have e:i=n:=by lia
  subst e
  refine codeAny_builtin PyProof.Rows.F.entry_set_update_loop ?_
  rw [Around.under_plainId PyProof.Rows.F.plain_set_update_loop _]
  show wpAny _ A.in1 (pyNext (.ref I) >>= _) _ _ s
  refine wpAny_bind (W.done s _ _ st λs1 mv=>?_)
  have hk1:∀x∈kb,IsTupleKey knd s1.heap x.1 x.2:=λx hx=>zl9 (hks x hx) λo eo=>mv.heap _ o (λz=>hout x hx (hsub _ z)) eo
  rw [←hkn,cJ] at hc
  exact wpAny_pure (q s1 xs (mv.mono hsub) (hT.at (λo eo=>mv.heap _ o hZw eo) λy hy=>hk1 y (hin y hy)) hc)
 | succ m ih =>
  intro i s xs hm hi st hT hin hks hc q
  have hlt:i<n:=by lia
  refine codeAny_builtin PyProof.Rows.F.entry_set_update_loop ?_
  rw [Around.under_plainId PyProof.Rows.F.plain_set_update_loop _]
  show wpAny _ A.in1 (pyNext (.ref I) >>= _) _ _ s
  refine wpAny_bind (W.item i s _ _ hlt st λv s1 hP st1 mv=>?_)
  obtain ⟨x,hx,rfl⟩:=hval i v hP
  have hxm:=ay hx
  have hk1:∀y∈kb,IsTupleKey knd s1.heap y.1 y.2:=λy hy=>zl9 (hks y hy) λo eo=>mv.heap _ o (λz=>hout y hy (hsub _ z)) eo
  have hT1:W6 knd s1.heap Z xs:=hT.at (λo eo=>mv.heap _ o hZw eo) λy hy=>hk1 y (hin y hy)
  show wpAny _ A.in1 (holding [Value.ref x.2] (setAdd Z (.ref x.2)) >>= _) _ _ s1
  refine wpAny_bind (wpAny_holding ?_)
  unfold setAdd
  refine wpAny_holding (wpAny_bind (wpAny_pyHash_tuple (by show A.units+1<cLine;lia) (hk1 x hxm) ?_))
  obtain ⟨o,es,ep,t,T⟩:=hT1
  have hxl:xs.length<=305:=by
   have h1:=hc.le
   rw [aa,aa,aP] at h1
   lia
  refine yr5 (s:={ s1 with toks:=s1.toks+(x.1.length+1) }) (xs:=xs) (k:=x.1) T (hk1 x hxm) (by show A.units+1<cLine;lia) hxl λh2 xs2 r sb H2 hor=>?_
  have hk2:∀y∈kb,IsTupleKey knd h2 y.1 y.2:=λy hy=>zl9 (hk1 y hy) λo eo=>(sb.2 _ λz=>hout y hy (by rw [z];exact ap)).trans eo
  have etk:(kb.take (i+1)).map (·.1)=(kb.take i).map (·.1)++[x.1]:=by rw [bT,hx,bo];rfl
  have hc2:Cnt ((kb.take (i+1)).map (·.1)) (xs2.map (·.1)):=by
   rw [etk]
   rcases hor with ⟨a,b⟩|⟨a,b⟩
   ·rw [b];exact hc.old a
   ·exact hc.new a (b.map (·.1))
  have hin2:∀y∈xs2,y∈kb:=λy hy=>by
   rcases hor with ⟨_,b⟩|⟨_,b⟩
   ·exact hin y (b ▸ hy)
   ·rcases aw.mp (b.mem_iff.mp hy) with z|z
    ·rw [z];exact hxm
    ·exact hin y z
  refine wpAny_pure ⟨plainId_quiet PyProof.Rows.F.plain_set_update_loop _,ih (i+1) _ xs2 (by lia) hlt (W.frame _ s1 _ _ st1 (bx _ _) λb hb o eo=>?_) H2 hin2 hk2 hc2 λs4 xs4 mv4 H4 hc4=>?_⟩
  ·exact (sb.2 b λz=>hZ (z ▸ hb)).trans eo
  ·refine q s4 xs4 (Moved.trans W.gtrans ((mv.mono hsub).then_heap (bx _ _) λb o hb eo=>?_) mv4) H4 hc4
   exact (sb.2 b λz=>hb (by rw [z];exact ap)).trans eo
theorem yh2 (led:Bool):Tb.ST.Tab (SetTable.fresh 0 0 led) []:=by
 have no:∀(i j:Nat),(SetTable.fresh 0 0 led).place[i]?≠some j:=λi j h=>by
  have e:(SetTable.fresh 0 0 led).place[i]?=none:=cw (ax i)
  rw [e] at h
  cases h
 exact ⟨.inl rfl,rfl,λa b x y h=>absurd h (no a x),λi j h=>absurd h (no i j),rfl,by show 0*5<7*3;decide,λi j h e=>absurd e (no i j)⟩
abbrev X1 (led:Bool):Obj:={ cls:=.type "set",dict:=none,data:=.set #[] 0 (.fresh 0 0 led) }
theorem yh3 {h:Heap}{a:Addr}{led:Bool}(e:h.get? a=some (X1 led)):W6 knd h a [] :=
 ⟨_,#[],0,_,e,rfl,⟨rfl,rfl,rfl⟩,rfl,yh2 led,λ_ z=>(by cases z),cQ⟩
def yr3 (h:Heap)(a:Addr)(n:Nat):Prop:=∃o es ep t,h.get? a=some o/\o.ExactSet/\o.data=.set es ep t/\t.fits es.size=true/\es.size=n
theorem W6.n {h:Heap}{a:Addr}{xs:List (List K×Addr)}(x:W6 knd h a xs):yr3 h a xs.length:=by
 obtain ⟨o,es,ep,t,T⟩:=x
 exact ⟨o,es,ep,t,T.ho,T.hx,T.hd,T.fits,by rw [←ak,T.he,aa]⟩
theorem M7 {l:Addr}{items:Array Value}(kb:List (List K×Addr)){Q:Value->Shared->Prop}(hh:A.handled=none)(hu:A.units+16<cLine)(hl:s.heap.IsList l items)(hkb:items.toList=kb.map λx=>Value.ref x.2)
  (hk:∀x∈kb,IsTupleKey knd s.heap x.1 x.2) (hn:kb.length<=306)
  (h:∀(h':Heap) (tk n:Nat),yr3 h' s.heap.objs.size n->n<=kb.length->(n=kb.length↔(kb.map (·.1)).Nodup)->(∀b o,s.heap.get? b=some o->h'.get? b=some o)->Q (.ref s.heap.objs.size) { s with heap:=h',toks:=tk }) :
  wpAny (model prog w) A (call (.type "set") [.ref l]) Q E s:=by
 obtain ⟨cc,tt,m0⟩:=PySem.F.called_set.mro
 have m1:=PySem.F.called_set.made
 have m2:=PySem.F.called_set.sub
 have m3:=PySem.F.called_set.notType
 have m4:=PySem.F.called_set.canCreate
 have m5:=PySem.F.typeCall_set_1 (.ref l)
 refine wpAny_call (codeAny_of_tree ?_)
 show wpAny _ _ (callAny (.type "set") _) _ _ _
 refine wpAny_pure ⟨Code.quiet_builtin _ (by decide +kernel),codeAny_builtin PySem.F.entry_type_call ?_⟩
 rw [Around.under_plain (weight_type_call_type "set" [.ref l] []) rfl]
 repeat (any_goals (first|assumption|wp_step))
 refine codeAny_mono (code_set_new_1 (.ref l) (E:=E) (Q₁:=λz s1=>∃led:Bool,z=.ref s.heap.objs.size/\s1={ s with heap:=s.heap.push (X1 led) }) λled=>⟨led,rfl,rfl⟩) λr s1 hr=>?_
 cases r with
 | error e=>exact hr
 | ok fl =>
  cases fl with
  | ret z =>
   obtain ⟨led,rfl,rfl⟩:=hr
   have hZ:(s.heap.push (X1 led)).get? s.heap.objs.size=some (X1 led):=aq _ rfl
   have hTy:Shared.TypeIs { s with heap:=s.heap.push (X1 led) } (.ref s.heap.objs.size) "set":=⟨_,hZ,rfl⟩
   have i1:=PySem.F.called_set.init.lookup
   have i2:=PySem.F.called_set.init.bind (.ref s.heap.objs.size)
   repeat (any_goals (first|assumption|wp_step))
   refine codeAny_mono (codeAny_call_builtin (R:=wants (λu s2=>u=.none/\∃h' tk n,s2={ s with heap:=h',toks:=tk }/\yr3 h' s.heap.objs.size n/\n<=kb.length/\(n=kb.length↔(kb.map (·.1)).Nodup)/\∀b o,s.heap.get? b=some o->h'.get? b=some o) E) PySem.F.called_set.init.plain PySem.F.entry_set_init (check_set_init_1 hTy ?_)) λr2 s2 hr2=>?_
   ·obtain ⟨ol,hol,hcl,nl,hdl⟩:=hl
    obtain ⟨c0,d0,dt0,sl0⟩:=ol
    simp only at hcl hdl
    subst hcl
    subst hdl
    have ho1:(s.heap.push (X1 led)).get? l=some { cls:=.type "list",dict:=d0,data:=.seq items nl,slots:=sl0 }:=ae _ hol
    have t1:=PySem.F.sub_list_set
    have t2:=PySem.F.sub_list_frozenset
    have t3:(Value.type "list" == Value.type "dict")=false:=by decide
    have hl1:(s.heap.push (X1 led)).IsList l items:=⟨_,ho1,rfl,nl,rfl⟩
    unfold Builtin.«set.__init__» noKeywords Builtin.Frozenset.updateFrom
    generalize hPI:pyIter=PI
    wp_walk
    subst hPI
    refine wpAny_pyIter_list hl1 ?_
    refine wpAny_bind (wpAny_runValue ?_)
    have hlS:l<s.heap.objs.size:=ai hol
    have kl:∀x∈kb,x.2<s.heap.objs.size:=λx hx=>by
     obtain ⟨o,its,n,ho,_⟩:=hk x hx
     exact ai ho
    have n1:l≠(s.heap.push (X1 led)).objs.size:=by
     rw [bj]
     exact av (aT hlS)
    have n2:s.heap.objs.size∉[(s.heap.push (X1 led)).objs.size,l]:=by
     rw [bj]
     intro z
     rcases aw.mp z with z|z
     ·exact av (bO _) z
     ·exact ci hlS (az.mp z)
    have hsz:items.size=kb.length:=by rw [←ak,hkb,aa]
    refine yl8 (knd:=knd) ((Walks.list (by simp [hh]) _ l n1 items).toS) n2 (by show A.units+1+1+2<cLine;lia) kb (λi v hv=>?_) hsz.symm (λx hx z=>?_) (by lia) (items.size-0) 0 _ [] rfl (ax _)
     ⟨⟨_,aq _ rfl,rfl,rfl⟩,hl1.push _⟩ (yh3 (ae _ hZ)) (λ_ z=>(by cases z)) (λx hx=>zl9 (hk x hx) λo e=>ae _ (ae _ e)) Cnt.nil λs4 xs4 mv H4 c4=>?_
    ·have hv':items[i]?=some v:=hv
     rw [←aD,hkb,au] at hv'
     cases e:kb[i]? with
     | none=>rw [e] at hv';cases hv'
     | some x=>rw [e] at hv';exact ⟨x,rfl,(Option.some.inj hv').symm⟩
    ·have hlt:=kl x hx
     rcases aw.mp z with z|z
     ·exact av hlt z
     ·rw [bj] at z
      exact av (aT hlt) (az.mp z)
    ·obtain ⟨h4,g4,d4,k4,o4⟩:=s4
     have eg:g4=s.gens:=mv.gens
     have ed:d4=s.drawn:=mv.drawn
     have eo:o4=s.os:=mv.os
     subst eg
     subst ed
     subst eo
     show wpAny _ _ _ _ _ _
     refine wpAny_pure ?_
     show wpAny _ _ (ret Value.none) _ _ _
     have cl:=c4.le
     have ce:=c4.eq
     rw [aa,aa] at cl ce
     refine wpAny_pure ⟨rfl,h4,k4,xs4.length,rfl,H4.n,cl,ce,λb o e=>?_⟩
     have hb:=ai e
     refine mv.heap b o (λz=>?_) (ae _ (ae _ e))
     rcases aw.mp z with z|z
     ·exact av hb z
     ·rw [bj] at z
      exact av (aT hb) (az.mp z)
   ·cases r2 with
    | error e=>exact hr2
    | ok fl2 =>
     cases fl2 with
     | ret u =>
      obtain ⟨rfl,h4,k4,n,rfl,a1,a2,a3,a4⟩:=hr2
      repeat (any_goals (first|assumption|wp_step))
      exact h _ _ n a1 a2 a3 a4
     | _=>exact hr2.elim
  | _=>exact hr.elim
end
section
variable {X:Cx}
def zw8 (l:Addr)(n:Nat):HO:=.ext λh=>yr3 h l n
theorem N9:∀{as:List Addr} {us:List Value},t9 (as.map V.ref) us->us=as.map Value.ref
 | [],_,r=>by rw [bM] at r;cases r;rfl
 | a::as,_,r=>by
  rw [aE] at r
  cases r with
  | cons h t =>
   cases h
   rw [N9 t]
   rfl
theorem zp6 {α β:Type}:∀{as:List α} {bs:List β},as.length=bs.length->(as.zip bs).map (·.1)=as/\(as.zip bs).map (·.2)=bs
 | [],[],_=>⟨rfl,rfl⟩
 | a::as,b::bs,h=>by
  obtain ⟨h1,h2⟩:=zp6 (as:=as) (bs:=bs) (by simpa using h)
  rw [cF,aE,aE,h1,h2]
  exact ⟨rfl,rfl⟩
theorem zp5 {α β:Type}{F:α->β->Prop}:∀{as:List α} {bs:List β},Paired F as bs->∀x∈bs.zip as,F x.2 x.1
 | _,_,.nil,x,h=>by cases h
 | _,_,.cons f r,x,h=>by
  rw [cF] at h
  rcases aw.mp h with z|z
  ·rw [z];exact f
  ·exact zp5 r x z
theorem ye7 (hc:X.calm=true)(hu:X.A.units+64<cLine):k9 X (.type "set") (λxs H Q=>∃(p:Addr) (as:List Addr) (kss:List (List Key)),xs=[.ref p]/\SqL X.K H p (as.map V.ref)/\Paired (λa ks=>H a=some (.tup (ks.map kV))) as kss/\kss.length<=306 /\
  ∀(l:Addr) (n:Nat),H l=none->n<=306->(n=kss.length↔kss.Nodup)->Q (.ref l) (upd H l (zw8 l n))):=by
 intro pins s σ H xs us Q I r h
 obtain ⟨p,as,kss,rfl,hq,hp,hle,q⟩:=h
 obtain ⟨u,rfl,rx⟩:=X8 r
 cases rx
 obtain ⟨its,r1,p1,hz⟩:=I.list hq
 have hl:as.length=kss.length:=Paired.length hp
 have hits:=N9 r1
 obtain ⟨z1,z2⟩:=zp6 (as:=kss) (bs:=as) hl.symm
 have hzl:(kss.zip as).length=kss.length:=by
  have:=congrArg List.length z1
  rwa [aa] at this
 refine M7 (knd:=c8 X.prog X.w) (kss.zip as) (I.ok.hd hc) (by lia) p1.isList ?_ (λx hx=>?_) (by lia) λh' tk n hS hn hnd kp=>?_
 ·rw [aN,hits]
  conv=>lhs;rw [←z2]
  rw [aW]
  rfl
 ·have e:=zp5 hp x hx
  obtain ⟨_,it,rv,o,ho,hcl,n,hd⟩:=I.hok _ _ e
  exact ⟨o,it.toArray,n,ho,hcl,hd.1,by rw [aN];exact D3 rv⟩
 ·rw [z1,hzl] at hnd
  have hS':=hS
  obtain ⟨o,es,ep,t,ho,_⟩:=hS'
  refine ⟨.ref s.heap.objs.size,_,I.laid (t':=tk) kp (af _) (show p4 X.prog X.w _ h' _ (zw8 s.heap.objs.size n) from ⟨hS,⟨o,ho⟩,λh1 h2 ⟨o,es,ep,t,ho,rr⟩ k=>⟨o,es,ep,t,k o ho,rr⟩⟩),rfl,q _ n (I.hok.fresh (af _)) (by lia) hnd⟩
theorem M5:k9 X (.builtin "len") (λxs H Q=>∃(p:Addr) (n:Nat),xs=[.ref p]/\H p=some (zw8 p n)/\n<=1000000/\Q (.int n) H):=by
 intro pins s σ H xs us Q I r h
 obtain ⟨p,n,rfl,hp,hn,q⟩:=h
 obtain ⟨u,rfl,rx⟩:=X8 r
 cases rx
 obtain ⟨⟨o,es,ep,t,ho,hex,hd,hf,hsz⟩,_⟩:=I.hok p _ hp
 subst hsz
 exact call_len_set ho hex hd hf (by lia) ⟨.int es.size,H,(I.tok _).tok _,⟨_,rfl⟩,q⟩
end
section
variable {prog:Program}{w:World}{A:Around}{E:Value->Shared->Prop}{s:Shared}
variable {I Z:Addr}{fp wr:List Addr}{G:Array GenState->Array GenState->Prop}{n:Nat}{P:Nat->Value->Prop}{St:Nat->Shared->Prop}{R:Result->Shared->Prop}
end
section
variable {X:Cx}
end
section
variable {prog:Program}{w:World}{A:Around}{E:Value->Shared->Prop}{s:Shared}
theorem h9 {α β:Type}{F:α->β->Prop}:∀{as:List α} {bs:List β},Paired F as bs->∀(i:Nat) (a:α) (b:β),as[i]?=some a->bs[i]?=some b->F a b
 | _,_,.nil,i,a,b,h,_=>by cases i <;> cases h
 | _,_,.cons f _,0,a,b,h,h'=>by
  cases h
  cases h'
  exact f
 | _,_,.cons _ r,i+1,a,b,h,h'=>h9 r i a b (by simpa using h) (by simpa using h')
theorem ym1 {α:Type}(l:List α)(d:α):(List.range l.length).map (λi=>l.getD i d)=l:=by
 apply cm
 intro i
 rw [au]
 by_cases hi:i<l.length
 ·rw [bE hi]
  simp [ah hi]
 ·rw [bB (by rw [aS];lia),bB (by lia)]
  rfl
end
section
variable {X:Cx}
end
def xh1 (P:Program)(w:World)(K:W.Frag)(mg:Str->Option Value)(base:Heap)(k:Nat)(C:Addr)(m:Str)(ps:List Str)(sp:Sp):Prop :=
 ∃f fd,r8 P w K mg base CX0 k f fd ps sp/\yx3 K C m f/\V5 K fd ps []
def ye1 (P:Program)(w:World)(K:W.Frag)(mg:Str->Option Value)(base:Heap)(k:Nat)(C:Addr)(m:Str)(ps:List Str)(sp:Sp):Prop :=
 ∃f fd,r8 P w K mg base (CX1 P w) k f fd ps sp/\yx3 K C m f/\V5 K fd ps []
section
variable {X:Cx}{C:Addr}{k j:Nat}{m:Str}{ps:List Str}{sp:Sp}{o e:Expr}{es:List Expr}{ta:TE}{t:TA}{apos pos cpos:Pos}{pl:Sem Bool}
theorem yu2 (c:Cls X.K C)(kn:ye1 X.prog X.w X.K X.mg X.base k C m ps sp)(hr:Z2 j X.A)(ho:PE X.nox o ta)(ha:PA X.nox (e::es) t)(hj:k<=j:=by decide)
  (hst:starEach (e::es) X.env=(false,eval e X.env)::starEach es X.env:=by rfl) (hpl:(backTo cpos (starEach es X.env)).any (·.1)=false:=by rfl)
  (ht:eval (.Call (.Attribute o m apos) (e::es) [] cpos) X.env=(do
   let v ←eval o X.env
   standAt apos.atName
   let (f,first) ←holding [v] (getMethod v m pl)
   callWith cpos f first (backTo cpos (starEach (e::es) X.env)) (backToKw cpos (keywordEach [] X.env))):=by rfl)
  (hs:swapsWith (.Call (.Attribute o m apos) (e::es) [] cpos) none pos.line X.env=pure false:=by rfl) :
  QS X (.Expr (.Call (.Attribute o m apos) (e::es) [] cpos) pos) (λEX D σ H=>ta σ H λx H1=>∃a dx fs,x=.ref a/\H1 a=some (.ins C dx fs)/\fs.lookup m=none/\t σ H1 λvs H2=>sp (x::vs) H2 (λ_ H3=>D.nx σ H3) (EX σ)):=by
 intro pins s σ H D EX I h
 obtain ⟨f,fd,G,hm,hb⟩:=kn
 refine wpAny_Expr_any (W.methodCall_KW (pl:=pl) (wpAny_mono (ho pins s σ H _ (I.wish _) h) (λu s1 ⟨x,H1,I1,rx,a,dx,fs,ex,ea,l,q⟩=>?_) λ_ _ z=>z.elim) ht) I.quiet hs
 subst ex
 obtain rfl:u=Value.ref a:=rx
 have I1':Inv X pins σ H1 s1:=I1.unwish
 refine zc7 I1' ea c hm l ?_
 refine W.callWith_K (first:=[.ref a]) (h₀:=X.base) I.ok.mod.kin hm.kp (wpAny_mono (ha cpos pins s1 σ H1 _ (I1'.wish _) q) (λus s2 ⟨vs,H2,I2,r,q2⟩=>⟨I2.kIn,?_⟩) λ_ _ z=>z.elim) hst hpl
 have I2':Inv X pins σ H2 s2:=I2.unwish
 have r2:t9 (V.ref a::vs) (Value.ref a::us):=.cons rfl r
 have hl:((Value.ref a::us)++[]).length=ps.length:=by rw [bu,←r2.length];exact G.len _ _ _ _ q2
 have bb:=hb s2 (Value.ref a::us) I2'.kIn hl
 rw [bu] at bb
 refine wpAny_call (codeAny_mono (G.run X.A X.stack s2 H2 ⟨Value.ref a::us,[]⟩ (Value.ref a::us) (V.ref a::vs) _ (EX σ) (hr.mono hj) I2'.env0 bb r2 q2) λrr s' hq=>?_)
 cases rr with
 | error ex=>exact ⟨σ,H2,s2,I2',hq⟩
 | ok fl =>
  cases fl with
  | ret u =>
   obtain ⟨v,H',I3,r3,q3⟩:=I2'.after hq
   exact ⟨σ,H',I3,q3⟩
  | next=>exact False.elim hq
  | brk=>exact False.elim hq
  | cont=>exact False.elim hq
end
section
variable {P:Program}{w:World}{K:W.Frag}{mg:Str->Option Value}{base:Heap}{N:List Str}{qual:Str}{scope:Scope}{f:Addr}{cd:Value}{A:Around}{outer:List Env}{s:Shared}{H:Hp}{E:XK}
end
section
variable {prog:Program}{w:World}{A:Around}{E:Value->Shared->Prop}{s:Shared}
theorem zo8 {l:Addr}{items:Array Value}{ns:List Int}{Q:Value->Shared->Prop}(hh:A.handled=none)(hl:s.heap.IsTuple l items)(hi:IntsAre items.toList ns)(hb:items.size+1<scanBound)
  (h:∀(h':Heap) (tk:Nat),h'.SetOf (intKind prog w) s.heap.objs.size (λk=>(firstMet (λi=>ns.getD i 0) items.size).any (· == k)) (firstMet (λi=>ns.getD i 0) items.size).length->(∀b o,s.heap.get? b=some o->h'.get? b=some o)->Q (.ref s.heap.objs.size) { s with heap:=h',toks:=tk }) :
  wpAny (model prog w) A (call (.type "set") [.ref l]) Q E s:=by
 obtain ⟨cc,tt,m0⟩:=PySem.F.called_set.mro
 have m1:=PySem.F.called_set.made
 have m2:=PySem.F.called_set.sub
 have m3:=PySem.F.called_set.notType
 have m4:=PySem.F.called_set.canCreate
 have m5:=PySem.F.typeCall_set_1 (.ref l)
 refine wpAny_call (codeAny_of_tree ?_)
 show wpAny _ _ (callAny (.type "set") _) _ _ _
 refine wpAny_pure ⟨Code.quiet_builtin _ (by decide +kernel),codeAny_builtin PySem.F.entry_type_call ?_⟩
 rw [Around.under_plain (weight_type_call_type "set" [.ref l] []) rfl]
 repeat (any_goals (first|assumption|wp_step))
 refine codeAny_mono (code_set_new_1 (.ref l) (E:=E) (Q₁:=λz s1=>∃led:Bool,z=.ref s.heap.objs.size/\s1={ s with heap:=s.heap.push (X1 led) }) λled=>⟨led,rfl,rfl⟩) λr s1 hr=>?_
 cases r with
 | error e=>exact hr
 | ok fl =>
  cases fl with
  | ret z =>
   obtain ⟨led,rfl,rfl⟩:=hr
   have hZ:(s.heap.push (X1 led)).get? s.heap.objs.size=some (X1 led):=aq _ rfl
   have hTy:Shared.TypeIs { s with heap:=s.heap.push (X1 led) } (.ref s.heap.objs.size) "set":=⟨_,hZ,rfl⟩
   have i1:=PySem.F.called_set.init.lookup
   have i2:=PySem.F.called_set.init.bind (.ref s.heap.objs.size)
   repeat (any_goals (first|assumption|wp_step))
   refine codeAny_mono (codeAny_call_builtin (R:=wants (λu s2=>u=.none/\∃h' tk,s2={ s with heap:=h',toks:=tk }/\h'.SetOf (intKind prog w) s.heap.objs.size (λk=>(firstMet (λi=>ns.getD i 0) items.size).any (· == k)) (firstMet (λi=>ns.getD i 0) items.size).length/\∀b o,s.heap.get? b=some o->h'.get? b=some o) E) PySem.F.called_set.init.plain PySem.F.entry_set_init (check_set_init_1 hTy ?_)) λr2 s2 hr2=>?_
   ·obtain ⟨ol,hol,hcl,nl,hdl⟩:=hl
    obtain ⟨c0,d0,dt0,sl0⟩:=ol
    simp only at hcl hdl
    subst hcl
    subst hdl
    have ho1:(s.heap.push (X1 led)).get? l=some { cls:=.type "tuple",dict:=d0,data:=.seq items nl,slots:=sl0 }:=ae _ hol
    have t1:=PySem.F.sub_tuple_set
    have t2:=PySem.F.sub_tuple_frozenset
    have t3:(Value.type "tuple" == Value.type "dict")=false:=by decide
    have hl1:(s.heap.push (X1 led)).IsTuple l items:=⟨_,ho1,rfl,nl,rfl⟩
    unfold Builtin.«set.__init__» noKeywords Builtin.Frozenset.updateFrom
    generalize hPI:pyIter=PI
    wp_walk
    subst hPI
    refine wpAny_pyIter_tuple hl1 ?_
    refine wpAny_bind (wpAny_runValue ?_)
    have hlS:l<s.heap.objs.size:=ai hol
    have n1:l≠(s.heap.push (X1 led)).objs.size:=by
     rw [bj]
     exact av (aT hlS)
    have n2:s.heap.objs.size∉[(s.heap.push (X1 led)).objs.size,l]:=by
     rw [bj]
     intro z
     rcases aw.mp z with z|z
     ·exact av (bO _) z
     ·exact ci hlS (az.mp z)
    refine codeAny_set_update_loopS ((Walks.tuple (by simp [hh]) _ l n1 items).toS) s.heap.objs.size n2 (λi=>ns.getD i 0) (λi v hv=>IntsAre.int_at hi i v (by rw [aD];exact hv)) hb (items.size-0) 0 _ (by lia) (ax _)
     ⟨⟨_,aq _ rfl,rfl,rfl⟩,hl1.at λo e=>ae _ e⟩ (SetOf_congr ((setObjOf_fresh (knd:=intKind prog w) led).setOf (ae _ hZ) (by unfold scanBound;lia)) (λ_=>rfl) rfl) λs4 mv H4=>?_
    obtain ⟨h4,g4,d4,k4,o4⟩:=s4
    have eg:g4=s.gens:=mv.gens
    have ed:d4=s.drawn:=mv.drawn
    have eo:o4=s.os:=mv.os
    subst eg
    subst ed
    subst eo
    show wpAny _ _ _ _ _ _
    refine wpAny_pure ?_
    show wpAny _ _ (ret Value.none) _ _ _
    refine wpAny_pure ⟨rfl,h4,k4,rfl,H4,λb o e=>?_⟩
    have hb:=ai e
    refine mv.heap b o (λz=>?_) (ae _ (ae _ e))
    rcases aw.mp z with z|z
    ·exact av hb z
    ·rw [bj] at z
     exact av (aT hb) (az.mp z)
   ·cases r2 with
    | error e=>exact hr2
    | ok fl2 =>
     cases fl2 with
     | ret u =>
      obtain ⟨rfl,h4,k4,rfl,a1,a2⟩:=hr2
      repeat (any_goals (first|assumption|wp_step))
      exact h _ _ a1 a2
     | _=>exact hr2.elim
  | _=>exact hr.elim
end
section
variable {X:Cx}
theorem zb6 (hc:X.calm=true):k9 X (.type "set") (λxs H Q=>∃(p:Addr) (ns:List Int),xs=[.ref p]/\(SqL X.K H p (ns.map V.int)∨SqT X.K H p (ns.map V.int))/\ns.length<=1000/\∀l,H l=none->Q (.ref l) (upd H l (.set (λk=>(Y9 ns).any (· == k)) (Y9 ns).length))):=by
 intro pins s σ H xs us Q I r h
 obtain ⟨p,ns,rfl,hq,hle,q⟩:=h
 rcases hq with hq|hq
 ·exact ye6 hc pins s σ H _ us Q I r ⟨p,ns,rfl,hq,hle,q⟩
 obtain ⟨u,rfl,rx⟩:=X8 r
 cases rx
 obtain ⟨its,r1,p1,hz⟩:=I.tuple hq
 have l1:its.length=ns.length:=by rw [←r1.length,aa]
 have hsz:its.toArray.size=ns.length:=by rw [ao,l1]
 refine zo8 (I.ok.hd hc) p1 (by simpa using W7 r1) (by rw [hsz];exact bA (show ns.length+1<=1001 by lia) (by decide)) λh' tk hS kp=>?_
 rw [hsz] at hS
 exact ⟨.ref s.heap.objs.size,_,I.laid (t':=tk) kp (af _) (show p4 X.prog X.w _ h' _ (.set _ _) from hS),rfl,q _ (I.hok.fresh (af _))⟩
end
section
variable {X:Cx}
theorem xb3 {y:Str}{np pos:Pos}{b0:Stmt}{suite:List Stmt}{g9:List ExceptHandler}{ts:Addr->TS}{C0 D0:Addr}{tl0 tlD:List Value}{n0 nD:String}(h0:L9 X.K C0 tl0 n0)(hD:L9 X.K D0 tlD nD)(hc:(Value.ref C0::tl0).contains (.ref D0)=true)
  (hg:Gl X y) (hm:X.mg y=some (.ref D0)) (hs:∀ea,PSs (yh1 X ea) (b0::suite) (ts ea)) (hdb:(y==("__debug__":Str))=false:=by decide) :
  PH X (.ExceptHandler (some (.Name y np)) none (b0::suite) pos::g9) (λea C D σ H=>C=C0/\ts ea D σ H):=by
 rintro pins σ H ea C s D G ⟨rfl,h⟩
 have I:=G.inv
 have Is:=I.sx ea
 obtain ⟨B,a0,fl,hH,all⟩:=id G
 obtain ⟨oe,vs,he,hcl,_,_⟩:=fl.first
 refine wpAny_handleBy_cons (codeAny_handlers_test (N4 Is hg hm ?_ hdb)) (by intro q;cases q)
 refine B7 he hcl (h0.at I.kIn).1 (hD.at I.kIn).1 (hD.at I.kIn).2 hc ?_
 refine codeAny_handlers_suite ?_
 refine lands_againW fl λh2 fl2 u2=>?_
 have I2:Inv X pins σ H { s with heap:=h2,toks:=s.toks }:=all h2 s.toks fl2 u2
 refine wpAny_mono (hs ea pins _ _ H D (I2.sx ea) h) (λf s4 h4=>?_) λ_ _ z=>z.elim
 cases f with
 | next =>
  obtain ⟨σ',H',I4,q4⟩:=h4
  exact ⟨σ',H',I4.unsx I.ok,q4⟩
 | brk =>
  obtain ⟨σ',H',I4,q4⟩:=h4
  exact ⟨σ',H',I4.unsx I.ok,q4⟩
 | cont =>
  obtain ⟨σ',H',I4,q4⟩:=h4
  exact ⟨σ',H',I4.unsx I.ok,q4⟩
 | ret u =>
  obtain ⟨v,σ',H',I4,r4,q4⟩:=h4
  exact ⟨v,σ',H',I4.unsx I.ok,r4,q4⟩
end
section
variable {X:Cx}
end
section
variable {prog:Program}{w:World}{A:Around}{E:Value->Shared->Prop}{s:Shared}
def two (x y:Int)(i:Nat):Int:=if i=0 then x else y
theorem zp4 {x y:Int}{t u:Tok}(i:Nat)(v:Value)(h:(#[Value.int x t,Value.int y u]:Array Value)[i]?=some v):∃k,v=.int (two x y i) k:=by
 match i,h with
 | 0,h=>exact ⟨t,(Option.some.inj h).symm⟩
 | 1,h=>exact ⟨u,(Option.some.inj h).symm⟩
theorem zw3 {a:Addr}{x y:Int}{t u:Tok}(hh:A.handled=none)(hl:s.heap.IsList a #[.int x t,.int y u]∨s.heap.IsTuple a #[.int x t,.int y u]){R:Value->Shared->Prop}
  (q:∀(I:Addr) (fp wr:List Addr) (St:Nat->Heap->Prop) (s2:Shared),Walks prog w A I fp wr 2 (λi v=>(#[Value.int x t,Value.int y u]:Array Value)[i]?=some v) St->St 0 s2.heap->(∀b∈fp,b<s2.heap.objs.size)->(∀h':Heap,(∀b o,b∉wr->s2.heap.get? b=some o->h'.get? b=some o)->∀b o,s.heap.get? b=some o->h'.get? b=some o)->s2={ s with heap:=s2.heap }->R (.ref I) s2) :
  wpAny (model prog w) A (pyIter (.ref a)) R E s:=by
 rcases hl with hl|hl
 ·have hlt:a<s.heap.objs.size:=by
   obtain ⟨o,ho,_⟩:=hl
   exact ai ho
  refine wpAny_pyIter_list hl (q s.heap.objs.size [s.heap.objs.size,a] [s.heap.objs.size] _ _ (Walks.list hh _ a (av hlt) #[.int x t,.int y u]) ⟨⟨_,aq _ rfl,rfl,rfl⟩,hl.push _⟩ (λb hb=>?_) (λh' k b o e=>?_) rfl)
  ·rw [bj]
   rcases aw.mp hb with z|z
   ·rw [z];exact bO _
   ·rw [az.mp z];exact aT hlt
  ·exact k b o (λz=>av (ai e) (az.mp z)) (ae _ e)
 ·have hlt:a<s.heap.objs.size:=by
   obtain ⟨o,ho,_⟩:=hl
   exact ai ho
  refine wpAny_pyIter_tuple hl (q s.heap.objs.size [s.heap.objs.size,a] [s.heap.objs.size] _ _ (Walks.tuple hh _ a (av hlt) #[.int x t,.int y u]) ⟨⟨_,aq _ rfl,rfl,rfl⟩,hl.at λo e=>ae _ e⟩ (λb hb=>?_) (λh' k b o e=>?_) rfl)
  ·rw [bj]
   rcases aw.mp hb with z|z
   ·rw [z];exact bO _
   ·rw [az.mp z];exact aT hlt
  ·exact k b o (λz=>av (ai e) (az.mp z)) (ae _ e)
end
section
variable {X:Cx}
theorem zw2 {H:Hp}{a:Addr}{x y:Int}{pins:List (Addr×Obj)}{σ:St}{s:Shared}(I:Inv X pins σ H s)(h:SqL X.K H a [.int x,.int y]∨SqT X.K H a [.int x,.int y]):∃t u,s.heap.IsList a #[.int x t,.int y u]∨s.heap.IsTuple a #[.int x t,.int y u]:=by
 rcases h with h|h
 ·obtain ⟨its,r,p,_⟩:=I.list h
  obtain ⟨v1,v2,rfl,⟨t,rfl⟩,⟨u,rfl⟩⟩:=A4 r
  exact ⟨t,u,.inl p.isList⟩
 ·obtain ⟨its,r,p,_⟩:=I.tuple h
  obtain ⟨v1,v2,rfl,⟨t,rfl⟩,⟨u,rfl⟩⟩:=A4 r
  exact ⟨t,u,.inr p⟩
theorem ye5 (hc:X.calm=true):k9 X (.builtin "min") (λxs H Q=>∃(p:Addr) (x y:Int),xs=[.ref p]/\(SqL X.K H p [.int x,.int y]∨SqT X.K H p [.int x,.int y])/\Q (.int (if y<x then y else x)) H):=by
 intro pins s σ H xs us Q I r h
 obtain ⟨p,x,y,rfl,hq,q⟩:=h
 obtain ⟨u,rfl,rx⟩:=X8 r
 cases rx
 obtain ⟨t,v,hl⟩:=zw2 I hq
 refine call_min_walk (zw3 (A:=X.A.in1) (by simp [I.ok.hd hc]) hl λJ fp wr St s2 W st hfp keep es=>?_)
 refine ⟨J,fp,wr,2,_,St,λi j=>decide (two x y i<two x y j),rfl,W,st,hfp,by decide,CmpOf.ints_lt (two x y) zp4,λz h' tk hP hk=>?_⟩
 obtain ⟨k,rfl⟩:=zp4 _ _ hP
 have hb:argBest (λi j=>decide (two x y i<two x y j)) (2-1)=if y<x then 1 else 0:=by
  show (if decide (two x y 1<two x y 0)=true then 1 else 0)=_
  by_cases c:y<x
  ·rw [if_pos (decide_eq_true (show two x y 1<two x y 0 from c)),if_pos c]
  ·rw [if_neg (by rw [decide_eq_false (show ¬two x y 1<two x y 0 from c)];exact am),if_neg c]
 rw [hb,es]
 have e:two x y (if y<x then 1 else 0)=if y<x then y else x:=by split <;> rfl
 rw [e]
 exact ⟨.int _,H,I.kept (t':=tk) (keep h' hk),⟨_,rfl⟩,q⟩
theorem ye4 (hc:X.calm=true):k9 X (.builtin "max") (λxs H Q=>∃(p:Addr) (x y:Int),xs=[.ref p]/\(SqL X.K H p [.int x,.int y]∨SqT X.K H p [.int x,.int y])/\Q (.int (if y > x then y else x)) H):=by
 intro pins s σ H xs us Q I r h
 obtain ⟨p,x,y,rfl,hq,q⟩:=h
 obtain ⟨u,rfl,rx⟩:=X8 r
 cases rx
 obtain ⟨t,v,hl⟩:=zw2 I hq
 refine call_max_walk (zw3 (A:=X.A.in1) (by simp [I.ok.hd hc]) hl λJ fp wr St s2 W st hfp keep es=>?_)
 refine ⟨J,fp,wr,2,_,St,λi j=>decide (two x y i > two x y j),rfl,W,st,hfp,by decide,CmpOf.ints_gt (two x y) zp4,λz h' tk hP hk=>?_⟩
 obtain ⟨k,rfl⟩:=zp4 _ _ hP
 have hb:argBest (λi j=>decide (two x y i > two x y j)) (2-1)=if y > x then 1 else 0:=by
  show (if decide (two x y 1 > two x y 0)=true then 1 else 0)=_
  by_cases c:y > x
  ·rw [if_pos (decide_eq_true (show two x y 1 > two x y 0 from c)),if_pos c]
  ·rw [if_neg (by rw [decide_eq_false (show ¬two x y 1 > two x y 0 from c)];exact am),if_neg c]
 rw [hb,es]
 have e:two x y (if y > x then 1 else 0)=if y > x then y else x:=by split <;> rfl
 rw [e]
 exact ⟨.int _,H,I.kept (t':=tk) (keep h' hk),⟨_,rfl⟩,q⟩
end
section
variable {X:Cx}{pos:Pos}
end
section
variable {P:Program}{w:World}{K:W.Frag}{mg:Str->Option Value}{base:Heap}{f:Addr}{fd:FuncData}{ps:List Str}{k:Nat}
end
section
variable {X:Cx}{pins:List (Addr×Obj)}{σ:St}{H:Hp}{s:Shared}
end
section
variable {X:Cx}{tg:Expr}
end
def xc7 (P:Program)(w:World)(K:W.Frag)(mg:Str->Option Value)(base:Heap)(k:Nat)(C:Addr)(x:Str)(ps:List Str)(sp:Sp):Prop :=
 ∃f fd,r8 P w K mg base CX0 k f fd ps sp/\Mk K C f/\mg x=some (.ref C)/\V5 K fd ps []
section
variable {X:Cx}{C:Addr}{k j:Nat}{x:Str}{ps:List Str}{sp:Sp}{e:Expr}{es:List Expr}{t:TA}{p pos:Pos}
end
section
variable {prog:Program}{w:World}{A:Around}{E:Value->Shared->Prop}{s:Shared}
end
section
variable {X:Cx}
end
end L2
namespace L2
open PySem PySem.Spec PyProof.Rows
section
variable {X:Cx}{C:Addr}{k j:Nat}{x:Str}{ps:List Str}{sp:Sp}{e:Expr}{es:List Expr}{t:TA}{p cpos pos:Pos}
end
end L2
namespace L2
open PySem PySem.Spec PyProof.Rows PySem.Builtin
section
variable {X:Cx}
end
end L2
namespace L2
open PySem PyProof PyProof.Rows
section
variable {prog:Program}{w:World}{A:Around}{E:Value->Shared->Prop}{s:Shared}
end
section
variable {X:Cx}
end
end L2
namespace HT
open PySem PyProof.Rows
section
open PySem.SeqAt
open PySem.AutoSeq1 (wpAny_loadPart')
open PySem.MeetsSeq PySem.MeetsSeq2 PySem.MeetsSeq3
end
section
variable {prog:Program}{w:World}{A:Around}{E:Value->Shared->Prop}{s:Shared}
end
end HT
namespace L2
open PySem PySem.Spec PyProof.Rows
theorem yc3:∀xs:List Int,HT.lexLt xs xs=false
 | []=>rfl
 | x::xs=>by rw [HT.lexLt_cons,if_pos rfl,yc3 xs]
theorem yl7:∀{xs ys:List Int},HT.lexLt xs ys=true->HT.lexLt ys xs=false
 | [],[],h=>by cases h
 | [],y::ys,_=>rfl
 | x::xs,[],h=>by cases h
 | x::xs,y::ys,h=>by
  rw [HT.lexLt_cons] at h ⊢
  by_cases e:x=y
  ·rw [if_pos e] at h
   rw [if_pos e.symm]
   exact yl7 h
  ·rw [if_neg e] at h
   rw [if_neg (λz=>e z.symm)]
   have:=of_decide_eq_true h
   exact decide_eq_false (by lia)
theorem zy1:∀{xs ys zs:List Int},HT.lexLt ys xs=false->HT.lexLt zs ys=false->HT.lexLt zs xs=false
 | xs,ys,[],h1,h2=>by
  cases ys with
  | nil=>cases xs with
   | nil=>rfl
   | cons x xs=>rw [HT.lexLt_nil_cons] at h1;cases h1
  | cons y ys=>rw [HT.lexLt_nil_cons] at h2;cases h2
 | [],ys,z::zs,h1,h2=>rfl
 | x::xs,[],z::zs,h1,h2=>by rw [HT.lexLt_nil_cons] at h1;cases h1
 | x::xs,y::ys,z::zs,h1,h2=>by
  rw [HT.lexLt_cons] at h1 h2 ⊢
  by_cases e1:y=x
  ·rw [if_pos e1] at h1
   by_cases e2:z=y
   ·rw [if_pos e2] at h2
    rw [if_pos (e2.trans e1)]
    exact zy1 h1 h2
   ·rw [if_neg e2] at h2
    have:=of_decide_eq_false h2
    rw [if_neg (by lia)]
    exact decide_eq_false (by lia)
  ·rw [if_neg e1] at h1
   have h1:=of_decide_eq_false h1
   by_cases e2:z=y
   ·rw [if_neg (by lia)]
    exact decide_eq_false (by lia)
   ·rw [if_neg e2] at h2
    have:=of_decide_eq_false h2
    rw [if_neg (by lia)]
    exact decide_eq_false (by lia)
theorem zr8:∀{xs ys:List Int},HT.lexLt xs ys=false->HT.lexLt ys xs=false->xs=ys
 | [],[],_,_=>rfl
 | [],y::ys,h,_=>by rw [HT.lexLt_nil_cons] at h;cases h
 | x::xs,[],_,h=>by rw [HT.lexLt_nil_cons] at h;cases h
 | x::xs,y::ys,h1,h2=>by
  rw [HT.lexLt_cons] at h1 h2
  by_cases e:x=y
  ·rw [if_pos e] at h1
   rw [if_pos e.symm] at h2
   rw [e,zr8 h1 h2]
  ·rw [if_neg e] at h1
   rw [if_neg (λz=>e z.symm)] at h2
   have:=of_decide_eq_false h1
   have:=of_decide_eq_false h2
   lia
section
variable {X:Cx}
end
section
variable {prog:Program}{w:World}{A:Around}{R:Result->Shared->Prop}{I S:Addr}{fp wr:List Addr}{n:Nat}{P:Nat->Value->Prop}{St:Nat->Heap->Prop}{J:Heap->Prop}{bt:Nat->Nat->Bool}
end
section
variable {X:Cx}
end
section
variable {M:Model}{A:Around}{E:Value->Shared->Prop}{s:Shared}
end
section
variable {X:Cx}{pins:List (Addr×Obj)}{σ:St}{H:Hp}{s:Shared}
end
section
variable {X:Cx}{own:Nat}{fr:List Nat}{N':List Str}{tg iter elt:Expr}{scope:Scope}{pos:Pos}{wi:TI}{g:CT TG}{te:CT TE}
end
section
variable {pr:Program}{wd:World}{κ:Type}[DecidableEq κ]{kh:HeapKind pr wd κ}
end
section
variable {X:Cx}
theorem U5:k9 X (.builtin "isinstance") (λxs H Q=>∃(ea C D:Addr) (b:Bool),xs=[.ref ea,.ref D]/\H ea=some (E5 ea C)/\zk5 X.K C/\W.kitOne X.K (.ref C) (.ref D)=some b/\Q (.bl b) H):=by
 intro pins s σ H xs us Q I r h
 obtain ⟨ea,C,D,b,rfl,hH,ask,e,q⟩:=h
 obtain ⟨u,w',rfl,rx,rc⟩:=A4 r
 cases rc
 cases rx
 obtain ⟨⟨o,ho,hc⟩,_⟩:=I.hok ea _ hH
 exact W.kia_one (yl2 ask) I.kIn ⟨o,ho,hc⟩ e (λz=>nomatch z) λtk=>⟨.bl b,H,I.tok tk,rfl,q⟩
end
end L2
namespace Tb.SO
end Tb.SO
namespace L2
open PySem PySem.Spec PyProof.Rows
section
variable {prog:Program}{w:World}{A:Around}{E:Value->Shared->Prop}{s:Shared}
end
section
variable {X:Cx}{pins:List (Addr×Obj)}{σ:St}{H H':Hp}{s:Shared}{h':Heap}
end
section
variable {X:Cx}
end
section
variable {X:Cx}{pins:List (Addr×Obj)}{σ:St}{H:Hp}{s:Shared}
end
section
variable {X:Cx}{tg:Expr}
end
section
variable {prog:Program}{w:World}{A:Around}{E:Value->Shared->Prop}{s:Shared}
end
section
variable {X:Cx}{pins:List (Addr×Obj)}{σ:St}{H:Hp}{s:Shared}
end
section
variable {X:Cx}
end
namespace RepN
open PySem.Builtin
end RepN
section
variable {X:Cx}
end
end L2
namespace L2
open PySem PySem.Spec PyProof.Rows
section
variable {prog:Program}{w:World}{A:Around}{E:Value->Shared->Prop}{s:Shared}
end
section
variable {X:Cx}
end
end L2
namespace SortG
open PySem PyProof.Rows
def G7:Bool->Keyed->Array Keyed->Nat->Nat->Nat->StateT SortSt Sem (Option Nat):=sortPriv% PySem.Builtin.gallop
def ym3:Array Keyed->Array Keyed->StateT SortSt Sem (Array Keyed):=sortPriv% PySem.Builtin.mergeLo
def ym2:Array Keyed->Array Keyed->StateT SortSt Sem (Array Keyed):=sortPriv% PySem.Builtin.mergeHi
section
variable {M:Model}{A:Around}{E:Value->Shared->Prop}{s:Shared}{κ:SortKind}{G:Keyed->Prop}{R:Keyed->Int}
structure Cmp (M:Model) (A:Around) (E:Value->Shared->Prop) (s:Shared) (κ:SortKind) (G:Keyed->Prop) (R:Keyed->Int):Prop where
 lt:∀{x y:Keyed} {st:SortSt} {Q:Option Bool->SortSt->Prop},G x->G y->kindOf st=κ->Q (some (decide (R x<R y))) st->wpS M A E s (lt' x y) Q st
abbrev dk:Keyed:=(Value.none,Value.none)
theorem p6 {arr:Array Keyed}{i:Nat}{Q:Keyed->SortSt->Prop}{st:SortSt}(hi:i<arr.size)(h:Q (arr.getD i dk) st):wpS M A E s (elem' arr i) Q st:=by
 rw [elem'_eq,show arr[i]?=some (arr.getD i dk) by simp [Array.getD,hi]]
 exact wpS_pure h
def Pre (B:Nat->Bool)(n k:Nat):Prop:=k<=n/\∀i,i<n->(B i=true↔i<k)
theorem Pre.no {f:Nat->Int}{x:Int}{g:Nat->Bool}{n k:Nat}(h:Pre (λi=>if (false:Bool)=true then g i else !decide (x<f i)) n k):k<=n/\∀i,i<n->(f i<=x↔i<k) :=
 ⟨h.1,λi hi=>by have:=h.2 i hi;simpa using this⟩
theorem Pre.yes {f:Nat->Int}{x:Int}{g:Nat->Bool}{n k:Nat}(h:Pre (λi=>if (true:Bool)=true then decide (f i<x) else g i) n k):k<=n/\∀i,i<n->(f i<x↔i<k) :=
 ⟨h.1,λi hi=>by have:=h.2 i hi;simpa using this⟩
theorem W3 (c:Cmp M A E s κ G R){left:Bool}{key:Keyed}{arr:Array Keyed}{base n hint:Nat}{st:SortSt}{Q:Option Nat->SortSt->Prop}(hk:kindOf st=κ)(hG:∀i,i<n->G (arr.getD (base+i) dk))(hkey:G key)(hsz:base+n<=arr.size)(hh:hint<n)
  (up:∀i j,i<=j->j<n->R (arr.getD (base+i) dk)<=R (arr.getD (base+j) dk))
  (h:∀k,Pre (λi=>if left then decide (R (arr.getD (base+i) dk)<R key) else !decide (R key<R (arr.getD (base+i) dk))) n k->Q (some k) st):wpS M A E s (G7 left key arr base n hint) Q st:=by
 obtain ⟨B,eB⟩:∃B:Nat->Bool,B=λi=>if left then decide (R (arr.getD (base+i) dk)<R key) else !decide (R key<R (arr.getD (base+i) dk)):=⟨_,rfl⟩
 rw [←eB] at h
 have mono:∀i j,i<=j->j<n->B j=true->B i=true:=λi j hij hj hb=>by
  rw [eB] at hb ⊢
  have:=up i j hij hj
  cases left with
  | true =>
   simp only [if_true,decide_eq_true_eq] at hb ⊢
   lia
  | false =>
   simp only [bz,if_false,Bool.not_eq_true',decide_eq_false_iff_not] at hb ⊢
   lia
 have beyond:∀(i:Nat) (Q':Option Bool->SortSt->Prop),i<n->Q' (some (B i)) st->wpS M A E s (elem' arr (base+i) >>= λx=>if left=true then lt' x key else (lt' key x >>= λr=>pure (r.map (λx=>!x)))) Q' st:=λi Q' hi hq=>by
  refine wpS_bind (p6 (by lia) ?_)
  have gi:=hG i hi
  rw [eB] at hq
  cases left with
  | true=>exact c.lt gi hkey hk hq
  | false=>exact wpS_bind (c.lt hkey gi hk (wpS_pure hq))
 have last:∀(lo hi:Nat),lo<=hi->hi<=n->(∀i,i<lo->B i=true)->(∀i,hi<=i->i<n->B i=false)->∀(f:Option (Option Nat)×Nat×Nat->StateT SortSt Sem (Option Nat)) (g:Nat->Option (Option Nat)×Nat×Nat->StateT SortSt Sem (ForInStep (Option (Option Nat)×Nat×Nat))),
   (∀l k,f (none,l,k)=pure (some k))->(∀x l k,l ≥ k->g x (none,l,k)=pure (.done (none,l,k)))->(∀x l k,l<k->k<=n->∀Q',Q' (.yield (if B (l+(k-l) / 2)=true then (none,l+(k-l) / 2+1,k) else (none,l,l+(k-l) / 2))) st->wpS M A E s (g x (none,l,k)) Q' st) ->
   wpS M A E s (forIn [:n] (none,lo,hi) g >>= f) Q st:=λlo hi h1 h2 h3 h4 f g hf hg1 hg2=>by
  refine wpS_bind (wpS_forRange (I:=λj q st'=>∃l k,q=(none,l,k)/\st'=st/\l<=k/\k<=n/\k-l<=n-j/\(∀i,i<l->B i=true)/\(∀i,k<=i->i<n->B i=false)) ?_ ?_ ⟨lo,hi,rfl,rfl,h1,h2,by lia,h3,h4⟩)
  ·rintro j q st' _ hj ⟨l,k,rfl,rfl,b1,b2,b3,b4,b5⟩
   by_cases hlk:l ≥ k
   ·rw [hg1 _ _ _ hlk]
    refine wpS_pure ?_
    dsimp only
    rw [hf]
    exact wpS_pure (h k ⟨b2,λi hi=>⟨λhb=>Nat.lt_of_not_le λz=>(by rw [b5 i z hi] at hb;cases hb),λhk'=>b4 i (by lia)⟩⟩)
   ·refine hg2 _ _ _ (by lia) b2 _ ?_
    cases e:B (l+(k-l) / 2) with
    | true=>exact ⟨_,_,rfl,rfl,by lia,b2,by lia,λi hi=>mono i (l+(k-l) / 2) (by lia) (by lia) e,b5⟩
    | false =>
     refine ⟨_,_,rfl,rfl,by lia,by lia,by lia,b4,λi hi hin=>?_⟩
     cases e':B i with
     | false=>rfl
     | true=>rw [mono (l+(k-l) / 2) i hi hin e'] at e;cases e
  ·rintro q st' ⟨l,k,rfl,rfl,b1,b2,b3,b4,b5⟩
   rw [hf]
   exact wpS_pure (h k ⟨b2,λi hi=>⟨λhb=>Nat.lt_of_not_le λz=>(by rw [b5 i z hi] at hb;cases hb),λhk'=>b4 i (by lia)⟩⟩)
 refine wpS_bind (beyond hint _ hh ?_)
 dsimp only
 cases eh:B hint with
 | true =>
  rw [if_pos rfl]
  refine wpS_bind (wpS_mono (Q:=λq st'=>∃l o,q=(none,l,o)/\st'=st/\l<o/\B (hint+l)=true/\hint+l<n/\(o ≥ n-hint∨B (hint+o)=false)) (wpS_forRange (I:=λj q st'=>∃l o,q=(none,l,o)/\st'=st/\j+1<=o/\l<o/\B (hint+l)=true/\hint+l<n) ?_ ?_ ⟨0,1,rfl,rfl,by lia,by lia,by simpa using eh,by lia⟩) ?_)
  ·rintro j q st' _ hj ⟨l,o,rfl,rfl,b1,b2,b3,b4⟩
   dsimp only
   by_cases ho:o ≥ n-hint
   ·rw [if_pos ho]
    exact wpS_pure ⟨_,_,rfl,rfl,b2,b3,b4,.inl ho⟩
   ·rw [if_neg ho]
    refine wpS_bind (beyond _ _ (by lia) ?_)
    dsimp only
    cases eo:B (hint+o) with
    | true =>
     rw [if_neg (by simp)]
     exact wpS_pure ⟨_,_,rfl,rfl,by lia,by lia,eo,by lia⟩
    | false =>
     rw [if_pos (by rfl)]
     exact wpS_pure ⟨_,_,rfl,rfl,b2,b3,b4,.inr eo⟩
  ·rintro q st' ⟨l,o,rfl,rfl,b1,b2,b3,b4⟩
   exact ⟨_,_,rfl,rfl,b2,b3,b4,.inl (by lia)⟩
  ·rintro q st' ⟨l,o,rfl,rfl,b2,b3,b4,b5⟩
   dsimp only
   refine last _ _ (by lia) (by lia) (λi hi=>mono i (hint+l) (by lia) b4 b3) (λi hi hin=>?_) _ _ (λl k=>rfl) (λx l k hlk=>if_pos hlk) (λx l k hlk hk' Q' hq=>?_)
   ·rcases b5 with b5|b5
    ·lia
    ·cases e:B i with
     | false=>rfl
     | true=>rw [mono (hint+o) i (by lia) hin e] at b5;cases b5
   ·dsimp only
    rw [if_neg (by lia)]
    refine wpS_bind (beyond _ _ (by lia) ?_)
    dsimp only
    cases e:B (l+(k-l) / 2) with
    | true=>rw [e] at hq;rw [if_pos rfl] at hq ⊢;exact wpS_pure hq
    | false=>rw [e] at hq;rw [if_neg am] at hq ⊢;exact wpS_pure hq
 | false =>
  rw [if_neg am]
  refine wpS_bind (wpS_mono (Q:=λq st'=>∃l o,q=(none,l,o)/\st'=st/\l<o/\l<=hint/\B (hint-l)=false/\(o ≥ hint+1∨B (hint-o)=true)) (wpS_forRange (I:=λj q st'=>∃l o,q=(none,l,o)/\st'=st/\j+1<=o/\l<o/\l<=hint/\B (hint-l)=false) ?_ ?_ ⟨0,1,rfl,rfl,by lia,by lia,by lia,by simpa using eh⟩) ?_)
  ·rintro j q st' _ hj ⟨l,o,rfl,rfl,b1,b2,b3,b4⟩
   dsimp only
   by_cases ho:o ≥ hint+1
   ·rw [if_pos ho]
    exact wpS_pure ⟨_,_,rfl,rfl,b2,b3,b4,.inl ho⟩
   ·rw [if_neg ho]
    refine wpS_bind (beyond _ _ (by lia) ?_)
    dsimp only
    cases eo:B (hint-o) with
    | true =>
     rw [if_pos rfl]
     exact wpS_pure ⟨_,_,rfl,rfl,b2,b3,b4,.inr eo⟩
    | false =>
     rw [if_neg am]
     exact wpS_pure ⟨_,_,rfl,rfl,by lia,by lia,by lia,eo⟩
  ·rintro q st' ⟨l,o,rfl,rfl,b1,b2,b3,b4⟩
   exact ⟨_,_,rfl,rfl,b2,b3,b4,.inl (by lia)⟩
  ·rintro q st' ⟨l,o,rfl,rfl,b2,b3,b4,b5⟩
   dsimp only
   refine last _ _ (by lia) (by lia) (λi hi=>?_) (λi hi hin=>?_) _ _ (λl k=>rfl) (λx l k hlk=>if_pos hlk) (λx l k hlk hk' Q' hq=>?_)
   ·rcases b5 with b5|b5
    ·lia
    ·exact mono i (hint-o) (by lia) (by lia) b5
   ·cases e:B i with
    | false=>rfl
    | true=>rw [mono (hint-l) i (by lia) hin e] at b4;cases b4
   ·dsimp only
    rw [if_neg (by lia)]
    refine wpS_bind (beyond _ _ (by lia) ?_)
    dsimp only
    cases e:B (l+(k-l) / 2) with
    | true=>rw [e] at hq;rw [if_pos rfl] at hq ⊢;exact wpS_pure hq
    | false=>rw [e] at hq;rw [if_neg am] at hq ⊢;exact wpS_pure hq
def SL (R:Keyed->Int)(l:List Keyed):Prop:=l.Pairwise λx y=>R x<=R y
structure Jn (R:Keyed->Int) (tot out ra rb:List Keyed):Prop where
 perm:(out++ra++rb).Perm tot
 so:SL R out
 sa:SL R ra
 sb:SL R rb
 la:∀x∈out,∀y∈ra,R x<=R y
 lb:∀x∈out,∀y∈rb,R x<=R y
theorem Jn.moveA {tot out ch ra rb:List Keyed}(j:Jn R tot out (ch++ra) rb)(h:∀x∈ch,∀y∈rb,R x<=R y):Jn R tot (out++ch) ra rb:=by
 have sa:=List.pairwise_append.mp j.sa
 refine ⟨by have:=j.perm;simpa [bn] using this,List.pairwise_append.mpr ⟨j.so,sa.1,λx hx y hy=>j.la x hx y (bW _ hy)⟩,sa.2.1,j.sb,λx hx y hy=>?_,λx hx y hy=>?_⟩
 ·rcases bf.mp hx with z|z
  ·exact j.la x z y (aM _ hy)
  ·exact sa.2.2 x z y hy
 ·rcases bf.mp hx with z|z
  ·exact j.lb x z y hy
  ·exact h x z y hy
theorem Jn.swap {tot out ra rb:List Keyed}(j:Jn R tot out ra rb):Jn R tot out rb ra:=⟨by
 refine List.Perm.trans ?_ j.perm
 rw [bn,bn]
 exact List.Perm.append_left _ List.perm_append_comm,j.so,j.sb,j.sa,j.lb,j.la⟩
theorem Jn.fin {tot out ra rb:List Keyed}(j:Jn R tot out ra rb)(h:∀x∈ra,∀y∈rb,R x<=R y):(out++ra++rb).Perm tot/\SL R (out++ra++rb) :=
 ⟨j.perm,List.pairwise_append.mpr ⟨List.pairwise_append.mpr ⟨j.so,j.sa,j.la⟩,j.sb,λx hx y hy=>by
  rcases bf.mp hx with z|z
  ·exact j.lb x z y hy
  ·exact h x z y hy⟩⟩
structure Sg (st st':SortSt):Prop where
 k:kindOf st'=kindOf st
 a:arrOf st'=arrOf st
 p:pendingOf st'=pendingOf st
 f:failedOf st'=failedOf st
theorem zx7 {α:Type}{p:Prop}[Decidable p]{x y:StateT SortSt Sem α}{Q:α->SortSt->Prop}{st:SortSt}(h1:wpS M A E s x Q st)(h2:wpS M A E s y Q st):wpS M A E s (if p then x else y) Q st:=by
 split
 ·exact h1
 ·exact h2
theorem N6 {Q:Unit->SortSt->Prop}{st:SortSt}{x:String}(h:Q () st):wpS M A E s (liftM (rule x):StateT SortSt Sem Unit) Q st:=wpS_lift (wpAny_rule ⟨rfl,h⟩)
section
variable {a:Array Keyed}{i k:Nat}
theorem zc0 (h:i<a.size):a.toList.drop i=a.getD i dk::a.toList.drop (i+1):=by
 rw [ck (by simpa using h)]
 simp [Array.getD,h]
theorem G4:(a.extract i).toList=a.toList.drop i:=by
 rw [Array.toList_extract]
 simp [List.extract]
 rw [aV (by simp)]
theorem zc3:(a.extract i (i+k)).toList=(a.toList.drop i).take k:=by
 rw [Array.toList_extract]
 simp [List.extract]
theorem E2 {x:Keyed}(hx:x∈(a.toList.drop i).take k):∃j,j<k/\i+j<a.size/\x=a.getD (i+j) dk:=by
 obtain ⟨j,hj,e⟩:=bK.mp hx
 rw [aP,bF,ak] at hj
 refine ⟨j,by lia,by lia,?_⟩
 rw [List.getElem_take,List.getElem_drop] at e
 rw [←e]
 simp [Array.getD,show i+j<a.size by lia]
theorem K2 (i k:Nat):a.toList.drop i=(a.toList.drop i).take k++a.toList.drop (i+k):=by
 rw [←du,bd]
theorem yj6 (h:i+k<=a.size):(a.extract i (i+k)).size=k:=by
 rw [Array.size_extract]
 lia
theorem r6 (h:i<a.size):a.getD i dk∈a.toList:=by
 simp [Array.getD,h]
theorem SL.get {R:Keyed->Int}(u:SL R a.toList){i j:Nat}(hij:i<=j)(hj:j<a.size):R (a.getD i dk)<=R (a.getD j dk):=by
 rcases bP i j with h|h
 ·have:=bQ.mp u i j (by simp;lia) (by simpa using hj) h
  simpa [Array.getD,hj,show i<a.size by lia] using this
 ·rw [show i=j by lia]
  exact bY _
theorem yj2 {x:Keyed}(hx:x∈a.toList.drop i):∃j,i<=j/\j<a.size/\x=a.getD j dk:=by
 obtain ⟨j,hj,e⟩:=bK.mp hx
 rw [bF,ak] at hj
 refine ⟨i+j,by lia,by lia,?_⟩
 rw [List.getElem_drop] at e
 rw [←e]
 simp [Array.getD,show i+j<a.size by lia]
end
section
variable {α:Type}{x y:StateT SortSt Sem α}{Q:α->SortSt->Prop}{st:SortSt}
theorem T6 {p:Prop}[Decidable p](h1:p->wpS M A E s x Q st)(h2:¬p->wpS M A E s y Q st):wpS M A E s (if p then x else y) Q st:=by
 by_cases h:p
 ·rw [if_pos h];exact h1 h
 ·rw [if_neg h];exact h2 h
theorem Z5 {m n:Nat}(h1:m=n->wpS M A E s x Q st)(h2:m≠n->wpS M A E s y Q st):wpS M A E s (if (m==n)=true then x else y) Q st:=T6 (λh=>h1 (beq_iff_eq.mp h)) (λh=>h2 λz=>h (beq_iff_eq.mpr z))
theorem zr4 {p:Prop}[Decidable p](h1:p->wpS M A E s x Q st)(h2:¬p->wpS M A E s y Q st):wpS M A E s (if decide p=true then x else y) Q st:=T6 (λh=>h1 (of_decide_eq_true h)) (λh=>h2 λz=>h (decide_eq_true z))
theorem yk8 {β:Type}{f:β->StateT SortSt Sem α}{p:Prop}[Decidable p]{x y:β}(h:∀z,wpS M A E s (f z) Q st):wpS M A E s (if p then f x else f y) Q st:=zx7 (h _) (h _)
theorem zl8 {β γ:Type}{f:β->γ->StateT SortSt Sem α}(P:β->γ->Prop)(h:∀b c,P b c->wpS M A E s (f b c) Q st)(k:(∀b c,P b c->wpS M A E s (f b c) Q st)->wpS M A E s x Q st):wpS M A E s x Q st:=k h
end
section
variable {a:Array Keyed}{ia:Nat}{key:Keyed}{st:SortSt}{Q:Option Nat->SortSt->Prop}
theorem xh8 (c:Cmp M A E s κ G R)(hk:kindOf st=κ)(ga:∀x∈a.toList,G x)(hkey:G key)(ua:SL R a.toList)(hia:ia<a.size)(h:∀k,ia+k<=a.size->(∀i,i<k->R (a.getD (ia+i) dk)<=R key)->(ia+k<a.size->R key<R (a.getD (ia+k) dk))->Q (some k) st):wpS M A E s (G7 false key a ia (a.size-ia) 0) Q st:=by
 refine W3 c hk (λi hi=>ga _ (r6 (by lia))) hkey (by lia) (by lia) (λi j hij hj=>ua.get (by lia) (by lia)) λk hp=>?_
 obtain ⟨h1,h2⟩:=hp.no
 exact h k (by lia) (λi hi=>(h2 i (by lia)).mpr hi) λz=>Int.not_le.mp λz'=>aF _ ((h2 k (by lia)).mp z')
theorem xh7 (c:Cmp M A E s κ G R)(hk:kindOf st=κ)(ga:∀x∈a.toList,G x)(hkey:G key)(ua:SL R a.toList)(hia:ia<a.size)(h:∀k,ia+k<=a.size->(∀i,i<k->R (a.getD (ia+i) dk)<R key)->(ia+k<a.size->R key<=R (a.getD (ia+k) dk))->Q (some k) st):wpS M A E s (G7 true key a ia (a.size-ia) 0) Q st:=by
 refine W3 c hk (λi hi=>ga _ (r6 (by lia))) hkey (by lia) (by lia) (λi j hij hj=>ua.get (by lia) (by lia)) λk hp=>?_
 obtain ⟨h1,h2⟩:=hp.yes
 exact h k (by lia) (λi hi=>(h2 i (by lia)).mpr hi) λz=>bq.mp λz'=>aF _ ((h2 k (by lia)).mp z')
end
structure LoI (R:Keyed->Int) (tot:List Keyed) (a b:Array Keyed) (n:Nat) (out:Array Keyed) (ia ib:Nat):Prop where
 jn:Jn R tot out.toList (a.toList.drop ia) (b.toList.drop ib)
 ua:SL R a.toList
 ub:SL R b.toList
 sz:out.size=ia+ib
 hn:n<=out.size
section
variable {a b out:Array Keyed}{n n' ia ib k:Nat}{tot:List Keyed}
theorem LoI.weak (h:LoI R tot a b n out ia ib)(w:n'<=n):LoI R tot a b n' out ia ib:=⟨h.jn,h.ua,h.ub,h.sz,aB w h.hn⟩
theorem LoI.swap (h:LoI R tot a b n out ia ib):LoI R tot b a n out ib ia:=⟨h.jn.swap,h.ub,h.ua,h.sz.trans (Nat.add_comm _ _),h.hn⟩
theorem low {z:Int}(u:SL R a.toList)(hz:z<=R (a.getD ia dk)):∀x∈a.toList.drop ia,z<=R x:=λx hx=>by
 obtain ⟨j,h1,h2,rfl⟩:=yj2 hx
 exact bw hz (u.get h1 h2)
theorem LoI.pushA (h:LoI R tot a b n out ia ib)(ha:ia<a.size)(hr:R (a.getD ia dk)<=R (b.getD ib dk)):LoI R tot a b (n+1) (out.push (a.getD ia dk)) (ia+1) ib:=by
 have j:=h.jn
 rw [zc0 ha] at j
 refine ⟨?_,h.ua,h.ub,by rw [Array.size_push,h.sz,Nat.add_right_comm],by rw [Array.size_push];exact Nat.succ_le_succ h.hn⟩
 rw [Array.toList_push]
 exact Jn.moveA (ch:=[a.getD ia dk]) j λx hx y hy=>by rw [az.mp hx];exact low h.ub hr y hy
theorem LoI.extA (h:LoI R tot a b n out ia ib)(hk:ia+k<=a.size)(hr:∀i,i<k->R (a.getD (ia+i) dk)<=R (b.getD ib dk)):LoI R tot a b n (out++a.extract ia (ia+k)) (ia+k) ib:=by
 have j:=h.jn
 rw [K2 ia k] at j
 refine ⟨?_,h.ua,h.ub,by rw [Array.size_append,yj6 hk,h.sz,Nat.add_right_comm],by rw [Array.size_append];exact aB h.hn (bx _ _)⟩
 rw [Array.toList_append,zc3]
 refine j.moveA λz hz=>?_
 obtain ⟨i,h1,h2,rfl⟩:=E2 hz
 exact low h.ub (hr i h1)
theorem LoI.fin1 (h:LoI R tot a b n out ia ib)(e:ib=b.size):(out++a.extract ia++b.extract ib).toList.Perm tot/\SL R (out++a.extract ia++b.extract ib).toList:=by
 rw [Array.toList_append,Array.toList_append,G4,G4]
 exact h.jn.fin (λx hx y hy=>by rw [e,List.drop_eq_nil_of_le (by simp)] at hy;cases hy)
theorem LoI.fin2 (h:LoI R tot a b n out ia ib)(e:ia+1=a.size)(hl:∀x∈b.toList,R x<R (a.getD (a.size-1) dk)):(out++b.extract ib++a.extract ia).toList.Perm tot/\SL R (out++b.extract ib++a.extract ia).toList:=by
 rw [Array.toList_append,Array.toList_append,G4,G4]
 refine h.jn.swap.fin (λx hx y hy=>?_)
 rw [zc0 (by lia),List.drop_eq_nil_of_le (by simp;lia)] at hy
 rw [az.mp hy,show ia=a.size-1 by lia]
 exact aY (hl x (bV hx))
end
theorem zy7 (c:Cmp M A E s κ G R){a b:Array Keyed}{st:SortSt}{Q:Array Keyed->SortSt->Prop}(hk:kindOf st=κ)(ga:∀x∈a.toList,G x)(gb:∀x∈b.toList,G x)(ua:SL R a.toList)(ub:SL R b.toList)(na:0<a.size)(nb:0<b.size)
  (hf:∀x∈a.toList,R (b.getD 0 dk)<=R x) (hl:∀x∈b.toList,R x<R (a.getD (a.size-1) dk))
  (h:∀(out:Array Keyed) st',Sg st st'->out.toList.Perm (a.toList++b.toList)->SL R out.toList->Q out st'):wpS M A E s (ym3 a b) Q st:=by
 refine wpS_bind (N6 (wpS_bind (p6 nb ?_)))
 obtain ⟨tot,etot⟩:∃tot,tot=a.toList++b.toList:=⟨_,rfl⟩
 rw [←etot] at h
 have j0:LoI R tot a b 1 #[b.getD 0 dk] 0 1:=by
  refine LoI.swap (LoI.pushA (out:=#[]) (n:=0) (ia:=0) (ib:=0) ⟨⟨?_,.nil,ub,ua,λ_ h=>(by cases h),λ_ h=>(by cases h)⟩,ub,ua,rfl,ax _⟩ nb (hf _ (r6 na)))
  rw [etot]
  exact List.perm_append_comm
 have fin1:∀{st':SortSt} {out:Array Keyed} {n ia ib:Nat},Sg st st'->LoI R tot a b n out ia ib->ib=b.size->Q (out++a.extract ia++b.extract ib) st':=λsg j e=>h _ _ sg (j.fin1 e).1 (j.fin1 e).2
 have fin2:∀{st':SortSt} {out:Array Keyed} {n ia ib:Nat},Sg st st'->LoI R tot a b n out ia ib->ia+1=a.size->Q (out++b.extract ib++a.extract ia) st':=λsg j e=>h _ _ sg (j.fin2 e hl).1 (j.fin2 e hl).2
 have sg0:Sg st st:=⟨rfl,rfl,rfl,rfl⟩
 refine Z5 (λh1=>wpS_pure (fin1 sg0 j0 h1)) λh1=>Z5 (λh2=>wpS_pure (fin2 sg0 j0 h2)) λh2=>wpS_bind (wpS_get ?_)
 have lt1:∀{i n:Nat},i+1<n->i<n:=Nat.lt_of_succ_lt
 have lt2:∀{i n:Nat},i<n->i+1≠n->i+1<n:=bH
 refine wpS_bind (wpS_mono (Q:=λq st'=>∃r,q.1=some r/\Q r st') (wpS_forRange (I:=λj q st'=>∃out ia ib mg,q=(none,out,ia,ib,mg)/\Sg st st'/\LoI R tot a b (j+1) out ia ib/\ia+1<a.size/\ib<b.size) ?_ ?_ ⟨_,0,1,_,rfl,sg0,j0,lt2 na h2,lt2 nb h1⟩) ?_)
 ·rintro j q st' _ hj ⟨out,ia,ib,mg,rfl,sg,jn,hia,hib⟩
  dsimp -zeta only
  have hk':kindOf st'=κ:=sg.k.trans hk
  refine wpS_bind (wpS_mono (Q:=λq st2=>st2=st'/\((∃r,q.1=some r/\Q r st')∨∃out ia ib x y,q=(none,out,ia,ib,x,y)/\LoI R tot a b (j+2) out ia ib/\ia+1<a.size/\ib<b.size))
   (wpS_forRange (I:=λi q st2=>st2=st'/\∃out ia ib x y,q=(none,out,ia,ib,x,y)/\LoI R tot a b (j+1+(if i=0 then 0 else 1)) out ia ib/\ia+1<a.size/\ib<b.size) ?_ ?_ ⟨rfl,out,ia,ib,0,0,rfl,jn,hia,hib⟩) ?_)
  ·rintro i q st2 _ hi ⟨rfl,out,ia,ib,x,y,rfl,jn,hia,hib⟩
   dsimp only
   have w1:j+2<=j+1+(if i=0 then 0 else 1)+1:=Nat.succ_le_succ (bx _ _)
   have w2:j+1+(if i+1=0 then 0 else 1)<=j+1+(if i=0 then 0 else 1)+1:=by rw [if_neg (Nat.succ_ne_zero i)];exact w1
   refine wpS_bind (p6 hib (wpS_bind (p6 (lt1 hia) (wpS_bind (c.lt (gb _ (r6 hib)) (ga _ (r6 (lt1 hia))) hk' ?_)))))
   refine zr4 (λhlt=>wpS_bind (p6 hib ?_)) λhlt=>wpS_bind (p6 (lt1 hia) ?_)
   ·have jn':=(jn.swap.pushA hib (aY hlt)).swap
    exact Z5 (λe1=>wpS_pure ⟨rfl,.inl ⟨_,rfl,fin1 sg jn' e1⟩⟩) λe1=>T6 (λe2=>wpS_pure ⟨rfl,.inr ⟨_,_,_,_,_,rfl,jn'.weak w1,hia,lt2 hib e1⟩⟩) λe2=>wpS_pure ⟨rfl,_,_,_,_,_,rfl,jn'.weak w2,hia,lt2 hib e1⟩
   ·have jn':=jn.pushA (lt1 hia) (bq.mp hlt)
    exact Z5 (λe1=>wpS_pure ⟨rfl,.inl ⟨_,rfl,fin2 sg jn' e1⟩⟩) λe1=>T6 (λe2=>wpS_pure ⟨rfl,.inr ⟨_,_,_,_,_,rfl,jn'.weak w1,lt2 hia e1,hib⟩⟩) λe2=>wpS_pure ⟨rfl,_,_,_,_,_,rfl,jn'.weak w2,lt2 hia e1,hib⟩
  ·rintro q st2 ⟨rfl,out,ia,ib,x,y,rfl,jn,hia,hib⟩
   rw [if_neg (by lia)] at jn
   exact ⟨rfl,.inr ⟨_,_,_,_,_,rfl,jn,hia,hib⟩⟩
  rintro q st2 ⟨rfl,(⟨r,e,hq⟩|⟨out,ia,ib,x,y,rfl,jn,hia,hib⟩)⟩
  ·obtain ⟨q1,q2⟩:=q
   cases e
   exact wpS_pure ⟨_,rfl,hq⟩
  refine wpS_bind (N6 ?_)
  refine wpS_bind (wpS_mono (Q:=λq st2=>Sg st st2/\((∃r,q.1=some r/\Q r st2)∨∃out ia ib m x y,q=(none,out,ia,ib,m,x,y)/\LoI R tot a b (j+2) out ia ib/\ia+1<a.size/\ib<b.size))
   (wpS_forRange (I:=λi q st2=>Sg st st2/\∃out ia ib m x y,q=(none,out,ia,ib,m,x,y)/\LoI R tot a b (j+2) out ia ib/\ia+1<a.size/\ib<b.size) ?_ ?_ ⟨sg,out,ia,ib,_,_,_,rfl,jn,hia,hib⟩) ?_)
  ·rintro i q st2 _ hi ⟨sg2,out,ia,ib,m,x,y,rfl,jn,hia,hib⟩
   dsimp -zeta only
   extract_lets -underBinder +onlyGivenNames s1 o1 s2 i1 s3 b1 s4 m1 s5 ac bc jp
   refine yk8 (f:=jp ()) (x:=m-1) (y:=m) λm2=>?_
   dsimp -zeta only [jp,s1,o1,s2,i1,s3,b1,s4,m1,s5,ac,bc]
   clear jp ac bc s5 m1 s4 b1 s3 i1 s2 o1 s1
   have sg3:∀g:Nat,Sg st (SortSt.mk' (kindOf st2) (arrOf st2) (pendingOf st2) g (failedOf st2)):=λg=>⟨sg2.k,sg2.a,sg2.p,sg2.f⟩
   have hk2:=sg2.k.trans hk
   refine wpS_bind (wpS_modify (wpS_bind (p6 hib (wpS_bind (xh8 c hk2 ga (gb _ (r6 hib)) ua (lt1 hia) λk hk1 hle hlt=>?_)))))
   dsimp -zeta only
   extract_lets -underBinder +onlyGivenNames ac jp
   refine zl8 (f:=jp ()) (λo1 i1=>LoI R tot a b (j+2) o1 i1 ib/\i1+1<a.size/\R (b.getD ib dk)<R (a.getD i1 dk)) ?_ λJ=>?_
   ·rintro out1 ia1 ⟨jn1,hi1,hlt1⟩
    dsimp -zeta only [jp]
    clear jp
    have jn2:=(jn1.swap.pushA hib (aY hlt1)).swap
    refine wpS_bind (p6 hib ?_)
    refine Z5 (λe2=>wpS_pure ⟨sg3 _,.inl ⟨_,rfl,fin1 (sg3 _) jn2 e2⟩⟩) λe2=>?_
    refine wpS_bind (p6 (lt1 hi1) (wpS_bind (xh7 c hk2 gb (ga _ (r6 (lt1 hi1))) ub (lt2 hib e2) λk1 hk3 hle3 hlt3=>?_)))
    dsimp -zeta only
    extract_lets -underBinder +onlyGivenNames bc jp
    refine zl8 (f:=jp ()) (λo3 i3=>LoI R tot a b (j+2) o3 ia1 i3/\i3<b.size/\R (a.getD ia1 dk)<=R (b.getD i3 dk)) ?_ λJ=>?_
    ·rintro out3 ib3 ⟨jn3,hib3,hge⟩
     dsimp -zeta only [jp]
     clear jp
     have jn4:=jn3.pushA (lt1 hi1) hge
     refine wpS_bind (p6 (lt1 hi1) ?_)
     refine Z5 (λe5=>wpS_pure ⟨sg3 _,.inl ⟨_,rfl,fin2 (sg3 _) jn4 e5⟩⟩) λe5=>?_
     have jn5:=jn4.weak (bS _)
     exact zx7 (wpS_pure ⟨sg3 _,.inr ⟨_,_,_,_,_,_,rfl,jn5,lt2 hi1 e5,hib3⟩⟩) (wpS_pure ⟨sg3 _,_,_,_,_,_,_,rfl,jn5,lt2 hi1 e5,hib3⟩)
    ·clear_value jp
     have jn2':=jn2.weak (bS _)
     refine T6 (λe=>?_) λe=>?_
     ·have jn3:=(jn2'.swap.extA hk3 λi hi=>aY (hle3 i hi)).swap
      exact Z5 (λe4=>wpS_pure ⟨sg3 _,.inl ⟨_,rfl,fin1 (sg3 _) jn3 e4⟩⟩) λe4=>J _ _ ⟨jn3,bH hk3 e4,hlt3 (bH hk3 e4)⟩
     ·obtain rfl:k1=0:=Nat.eq_zero_of_not_pos e
      exact J _ _ ⟨jn2',lt2 hib e2,hlt3 (lt2 hib e2)⟩
   ·clear_value jp
    have hkl:ia+k<a.size:=Nat.lt_of_not_le λz=>by
     have h1:=hle (a.size-1-ia) (by lia)
     rw [show ia+(a.size-1-ia)=a.size-1 by lia] at h1
     exact absurd (hl _ (r6 hib)) (bq.mpr h1)
    refine T6 (λe=>?_) λe=>?_
    ·have jn1:=jn.extA hk1 hle
     exact Z5 (λe1=>wpS_pure ⟨sg3 _,.inl ⟨_,rfl,fin2 (sg3 _) jn1 e1⟩⟩) λe1=>Z5 (λe2=>absurd e2 (av hkl)) λ_=>J _ _ ⟨jn1,lt2 hkl e1,hlt hkl⟩
    ·obtain rfl:k=0:=Nat.eq_zero_of_not_pos e
     exact J _ _ ⟨jn,hia,hlt hkl⟩
  ·rintro q st2 ⟨sg2,out,ia,ib,m,x,y,rfl,jn,hia,hib⟩
   exact ⟨sg2,.inr ⟨_,_,_,_,_,_,rfl,jn,hia,hib⟩⟩
  ·rintro q st2 ⟨sg2,(⟨r,e,hq⟩|⟨out,ia,ib,m,x,y,rfl,jn,hia,hib⟩)⟩
   ·obtain ⟨q1,q2⟩:=q
    cases e
    exact wpS_pure ⟨_,rfl,hq⟩
   ·exact wpS_bind (wpS_modify (wpS_pure ⟨_,_,_,_,rfl,⟨sg2.k,sg2.a,sg2.p,sg2.f⟩,jn,hia,hib⟩))
 ·rintro q st' ⟨out,ia,ib,mg,rfl,sg,jn,hia,hib⟩
  have:=jn.hn
  have:=jn.sz
  lia
 ·rintro q st' ⟨r,e,hq⟩
  obtain ⟨q1,q2⟩:=q
  cases e
  exact wpS_pure hq
section
variable {a:Array Keyed}{i k:Nat}
def Rv (a:Array Keyed)(i:Nat):List Keyed:=(a.toList.take i).reverse
theorem yu5 (h:i<a.size):Rv a (i+1)=a.getD i dk::Rv a i:=by
 unfold Rv
 rw [bT,List.reverse_append,ah (by simpa using h)]
 simp [Array.getD,h]
theorem yp5 (h0:0<i)(h:i<=a.size):Rv a i=a.getD (i-1) dk::Rv a (i-1):=by
 have:=yu5 (a:=a) (i:=i-1) (by lia)
 rwa [show i-1+1=i by lia] at this
theorem yp4 {x:Keyed}(hx:x∈(a.extract k i).reverse.toList)(hi:i<=a.size):∃j,k<=j/\j<i/\x=a.getD j dk:=by
 rw [Array.toList_reverse,cK,Array.toList_extract] at hx
 simp only [List.extract] at hx
 obtain ⟨j,h1,h2,rfl⟩:=E2 hx
 exact ⟨k+j,by lia,by lia,rfl⟩
theorem yu6 (h:i<=a.size):(a.extract k i).reverse.size=i-k:=by
 rw [Array.size_reverse,Array.size_extract]
 lia
theorem zz7 {x:Keyed}(hx:x∈Rv a i):∃j,j<i/\j<a.size/\x=a.getD j dk:=by
 unfold Rv at hx
 rw [cK] at hx
 have:=E2 (a:=a) (i:=0) (k:=i) (by rwa [dt])
 simpa using this
theorem yp6 (h:k<=i)(hi:i<=a.size):Rv a i=(a.extract k i).reverse.toList++Rv a k:=by
 unfold Rv
 rw [Array.toList_reverse,Array.toList_extract,←List.reverse_append]
 simp only [List.extract]
 rw [show i=k+(i-k) by lia,List.take_add,show k+(i-k)-k=i-k by lia]
theorem SL.rv {R:Keyed->Int}(u:SL R a.toList):SL (λx=>-R x) (Rv a i):=by
 unfold Rv SL
 rw [List.pairwise_reverse]
 refine (List.Pairwise.sublist (df _ _) u).imp λh=>?_
 show -R _<=-R _
 lia
theorem yj5:(a.extract 0 i).toList=(Rv a i).reverse:=by
 unfold Rv
 rw [List.reverse_reverse,Array.toList_extract]
 simp [List.extract]
end
section
variable {a:Array Keyed}{na:Nat}{key:Keyed}{st:SortSt}{Q:Option Nat->SortSt->Prop}
theorem xd5 (c:Cmp M A E s κ G R)(hk:kindOf st=κ)(ga:∀x∈a.toList,G x)(hkey:G key)(ua:SL R a.toList)(h0:0<na)(hna:na<=a.size)(h:∀k,k<=na->(∀i,i<k->R (a.getD i dk)<=R key)->(∀i,k<=i->i<na->R key<R (a.getD i dk))->Q (some k) st):wpS M A E s (G7 false key a 0 na (na-1)) Q st:=by
 refine W3 c hk (λi hi=>ga _ (r6 (by lia))) hkey (by lia) (by lia) (λi j hij hj=>ua.get (by lia) (by lia)) λk hp=>?_
 obtain ⟨h1,h2⟩:=hp.no
 simp only [br] at h2
 exact h k h1 (λi hi=>(h2 i (by lia)).mpr hi) λi hi hi'=>Int.not_le.mp λz'=>Nat.not_lt_of_le hi ((h2 i hi').mp z')
theorem xd4 (c:Cmp M A E s κ G R)(hk:kindOf st=κ)(ga:∀x∈a.toList,G x)(hkey:G key)(ua:SL R a.toList)(h0:0<na)(hna:na<=a.size)(h:∀k,k<=na->(∀i,i<k->R (a.getD i dk)<R key)->(∀i,k<=i->i<na->R key<=R (a.getD i dk))->Q (some k) st):wpS M A E s (G7 true key a 0 na (na-1)) Q st:=by
 refine W3 c hk (λi hi=>ga _ (r6 (by lia))) hkey (by lia) (by lia) (λi j hij hj=>ua.get (by lia) (by lia)) λk hp=>?_
 obtain ⟨h1,h2⟩:=hp.yes
 simp only [br] at h2
 exact h k h1 (λi hi=>(h2 i (by lia)).mpr hi) λi hi hi'=>bq.mp λz'=>Nat.not_lt_of_le hi ((h2 i hi').mp z')
end
structure HiI (R:Keyed->Int) (tot:List Keyed) (a b:Array Keyed) (n:Nat) (out:Array Keyed) (na nb:Nat):Prop where
 jn:Jn (λx=>-R x) tot out.toList (Rv a na) (Rv b nb)
 ua:SL R a.toList
 ub:SL R b.toList
 sz:out.size+na+nb=a.size+b.size
 hn:n<=out.size
 ha:na<=a.size
 hb:nb<=b.size
section
variable {a b out:Array Keyed}{n n' na nb k:Nat}{tot:List Keyed}
theorem HiI.weak (h:HiI R tot a b n out na nb)(w:n'<=n):HiI R tot a b n' out na nb:=⟨h.jn,h.ua,h.ub,h.sz,aB w h.hn,h.ha,h.hb⟩
theorem HiI.swap (h:HiI R tot a b n out na nb):HiI R tot b a n out nb na:=⟨h.jn.swap,h.ub,h.ua,by have:=h.sz;lia,h.hn,h.hb,h.ha⟩
theorem xd6 {z:Int}(u:SL R a.toList)(hi:na<=a.size)(hz:R (a.getD (na-1) dk)<=z):∀x∈Rv a na,R x<=z:=λx hx=>by
 obtain ⟨j,h1,h2,rfl⟩:=zz7 hx
 exact bw (u.get (by lia) (by lia)) hz
theorem HiI.pushA (h:HiI R tot a b n out na nb)(h0:0<na)(hr:R (b.getD (nb-1) dk)<=R (a.getD (na-1) dk)):HiI R tot a b (n+1) (out.push (a.getD (na-1) dk)) (na-1) nb:=by
 have j:=h.jn
 have hs:=h.sz
 rw [yp5 h0 h.ha] at j
 refine ⟨?_,h.ua,h.ub,by rw [Array.size_push];lia,by rw [Array.size_push];exact Nat.succ_le_succ h.hn,aB (Nat.sub_le _ _) h.ha,h.hb⟩
 rw [Array.toList_push]
 exact Jn.moveA (ch:=[a.getD (na-1) dk]) j λx hx y hy=>by rw [az.mp hx];exact Int.neg_le_neg (xd6 h.ub h.hb hr y hy)
theorem HiI.extA (h:HiI R tot a b n out na nb)(hk:k<=na)(hr:∀i,k<=i->i<na->R (b.getD (nb-1) dk)<=R (a.getD i dk)):HiI R tot a b n (out++(a.extract k na).reverse) k nb:=by
 have j:=h.jn
 have hs:=h.sz
 rw [yp6 hk h.ha] at j
 refine ⟨?_,h.ua,h.ub,by rw [Array.size_append,yu6 h.ha];lia,by rw [Array.size_append];exact aB h.hn (bx _ _),aB hk h.ha,h.hb⟩
 rw [Array.toList_append]
 refine j.moveA λz hz y hy=>?_
 obtain ⟨i,h1,h2,rfl⟩:=yp4 hz h.ha
 exact Int.neg_le_neg (xd6 h.ub h.hb (hr i h1 h2) y hy)
theorem HiI.fin (h:HiI R tot a b n out na nb)(hh:∀x∈Rv b nb,∀y∈Rv a na,R y<=R x):(a.extract 0 na++b.extract 0 nb++out.reverse).toList.Perm tot/\SL R (a.extract 0 na++b.extract 0 nb++out.reverse).toList:=by
 have:=h.jn.swap.fin (λx hx y hy=>Int.neg_le_neg (hh x hx y hy))
 rw [show (a.extract 0 na++b.extract 0 nb++out.reverse).toList=(out.toList++Rv b nb++Rv a na).reverse by rw [Array.toList_append,Array.toList_append,yj5,yj5,Array.toList_reverse,List.reverse_append,List.reverse_append,bn]]
 refine ⟨(List.reverse_perm _).trans this.1,?_⟩
 unfold SL
 rw [List.pairwise_reverse]
 exact this.2.imp λh=>Int.le_of_neg_le_neg h
theorem HiI.fin1 (h:HiI R tot a b n out na nb)(e:na=0):(a.extract 0 na++b.extract 0 nb++out.reverse).toList.Perm tot/\SL R (a.extract 0 na++b.extract 0 nb++out.reverse).toList:=h.fin λx _ y hy=>by rw [e] at hy;cases hy
theorem HiI.fin2 (h:HiI R tot a b n out na nb)(e:nb=1)(hf:∀x∈a.toList,R (b.getD 0 dk)<R x):(b.extract 0 nb++a.extract 0 na++out.reverse).toList.Perm tot/\SL R (b.extract 0 nb++a.extract 0 na++out.reverse).toList:=h.swap.fin λx hx y hy=>by
 obtain ⟨i,h1,h2,rfl⟩:=zz7 hx
 obtain ⟨i',h1',h2',rfl⟩:=zz7 hy
 rw [show i'=0 by lia]
 exact aY (hf _ (r6 h2))
end
theorem zy6 (c:Cmp M A E s κ G R){a b:Array Keyed}{st:SortSt}{Q:Array Keyed->SortSt->Prop}(hk:kindOf st=κ)(ga:∀x∈a.toList,G x)(gb:∀x∈b.toList,G x)(ua:SL R a.toList)(ub:SL R b.toList)(na0:0<a.size)(nb0:0<b.size)
  (hf:∀x∈a.toList,R (b.getD 0 dk)<R x) (hl:∀x∈b.toList,R x<R (a.getD (a.size-1) dk))
  (h:∀(out:Array Keyed) st',Sg st st'->out.toList.Perm (a.toList++b.toList)->SL R out.toList->Q out st'):wpS M A E s (ym2 a b) Q st:=by
 have sub1:∀{i n:Nat},0<i->i<=n->i-1<n:=λh1 h2=>aA (Nat.sub_lt h1 Nat.zero_lt_one) h2
 refine wpS_bind (N6 (wpS_bind (p6 (sub1 na0 (af _)) ?_)))
 obtain ⟨tot,etot⟩:∃tot,tot=a.toList++b.toList:=⟨_,rfl⟩
 rw [←etot] at h
 have j0:HiI R tot a b 1 #[a.getD (a.size-1) dk] (a.size-1) b.size:=by
  have full:∀x:Array Keyed,Rv x x.size=x.toList.reverse:=λx=>by unfold Rv;rw [aV (by simp)]
  refine HiI.pushA (out:=#[]) (n:=0) ⟨⟨?_,.nil,ua.rv,ub.rv,λ_ h=>(by cases h),λ_ h=>(by cases h)⟩,ua,ub,by rw [Array.size_empty,br],ax _,af _,af _⟩ na0 (aY (hl _ (r6 (sub1 nb0 (af _)))))
  rw [etot,full,full]
  exact List.Perm.append (List.reverse_perm _) (List.reverse_perm _)
 have fin1:∀{st':SortSt} {out:Array Keyed} {n na nb:Nat},Sg st st'->HiI R tot a b n out na nb->na=0->Q (a.extract 0 na++b.extract 0 nb++out.reverse) st':=λsg j e=>h _ _ sg (j.fin1 e).1 (j.fin1 e).2
 have fin2:∀{st':SortSt} {out:Array Keyed} {n na nb:Nat},Sg st st'->HiI R tot a b n out na nb->nb=1->Q (b.extract 0 nb++a.extract 0 na++out.reverse) st':=λsg j e=>h _ _ sg (j.fin2 e hf).1 (j.fin2 e hf).2
 have sg0:Sg st st:=⟨rfl,rfl,rfl,rfl⟩
 have gt1:∀{i:Nat},0<i->i≠1->1<i:=λh e=>bH h (Ne.symm e)
 have gt0:∀{i:Nat},1<i->0<i:=λh=>Nat.lt_of_succ_lt h
 have sub0:∀{i:Nat},1<i->0<i-1:=λh=>Nat.sub_pos_of_lt h
 refine Z5 (λh1=>wpS_pure (fin1 sg0 j0 h1)) λh1=>Z5 (λh2=>wpS_pure (fin2 sg0 j0 h2)) λh2=>wpS_bind (wpS_get ?_)
 refine wpS_bind (wpS_mono (Q:=λq st'=>∃r,q.1=some r/\Q r st') (wpS_forRange (I:=λj q st'=>∃na nb out mg,q=(none,na,nb,out,mg)/\Sg st st'/\HiI R tot a b (j+1) out na nb/\0<na/\1<nb) ?_ ?_ ⟨_,_,#[a.getD (a.size-1) dk],_,rfl,sg0,j0,Nat.pos_of_ne_zero h1,gt1 nb0 h2⟩) ?_)
 ·rintro j q st' _ hj ⟨na,nb,out,mg,rfl,sg,jn,hna,hnb⟩
  dsimp -zeta only
  have hk':kindOf st'=κ:=sg.k.trans hk
  refine wpS_bind (wpS_mono (Q:=λq st2=>st2=st'/\((∃r,q.1=some r/\Q r st')∨∃na nb out x y,q=(none,na,nb,out,x,y)/\HiI R tot a b (j+2) out na nb/\0<na/\1<nb))
   (wpS_forRange (I:=λi q st2=>st2=st'/\∃na nb out x y,q=(none,na,nb,out,x,y)/\HiI R tot a b (j+1+(if i=0 then 0 else 1)) out na nb/\0<na/\1<nb) ?_ ?_ ⟨rfl,na,nb,out,0,0,rfl,jn,hna,hnb⟩) ?_)
  ·rintro i q st2 _ hi ⟨rfl,na,nb,out,x,y,rfl,jn,hna,hnb⟩
   dsimp only
   have w1:j+2<=j+1+(if i=0 then 0 else 1)+1:=Nat.succ_le_succ (bx _ _)
   have w2:j+1+(if i+1=0 then 0 else 1)<=j+1+(if i=0 then 0 else 1)+1:=by rw [if_neg (Nat.succ_ne_zero i)];exact w1
   have la:=sub1 hna jn.ha
   have lb:=sub1 (gt0 hnb) jn.hb
   refine wpS_bind (p6 lb (wpS_bind (p6 la (wpS_bind (c.lt (gb _ (r6 lb)) (ga _ (r6 la)) hk' ?_)))))
   refine zr4 (λhlt=>wpS_bind (p6 la ?_)) λhlt=>wpS_bind (p6 lb ?_)
   ·have jn':=jn.pushA hna (aY hlt)
    exact Z5 (λe1=>wpS_pure ⟨rfl,.inl ⟨_,rfl,fin1 sg jn' e1⟩⟩) λe1=>T6 (λe2=>wpS_pure ⟨rfl,.inr ⟨_,_,_,_,_,rfl,jn'.weak w1,Nat.pos_of_ne_zero e1,hnb⟩⟩) λe2=>wpS_pure ⟨rfl,_,_,_,_,_,rfl,jn'.weak w2,Nat.pos_of_ne_zero e1,hnb⟩
   ·have jn':=(jn.swap.pushA (gt0 hnb) (bq.mp hlt)).swap
    exact Z5 (λe1=>wpS_pure ⟨rfl,.inl ⟨_,rfl,fin2 sg jn' e1⟩⟩) λe1=>T6 (λe2=>wpS_pure ⟨rfl,.inr ⟨_,_,_,_,_,rfl,jn'.weak w1,hna,gt1 (sub0 hnb) e1⟩⟩) λe2=>wpS_pure ⟨rfl,_,_,_,_,_,rfl,jn'.weak w2,hna,gt1 (sub0 hnb) e1⟩
  ·rintro q st2 ⟨rfl,na,nb,out,x,y,rfl,jn,hna,hnb⟩
   rw [if_neg (by lia)] at jn
   exact ⟨rfl,.inr ⟨_,_,_,_,_,rfl,jn,hna,hnb⟩⟩
  rintro q st2 ⟨rfl,(⟨r,e,hq⟩|⟨na,nb,out,x,y,rfl,jn,hna,hnb⟩)⟩
  ·obtain ⟨q1,q2⟩:=q
   cases e
   exact wpS_pure ⟨_,rfl,hq⟩
  refine wpS_bind (N6 ?_)
  refine wpS_bind (wpS_mono (Q:=λq st2=>Sg st st2/\((∃r,q.1=some r/\Q r st2)∨∃na nb out m x y,q=(none,na,nb,out,m,x,y)/\HiI R tot a b (j+2) out na nb/\0<na/\1<nb))
   (wpS_forRange (I:=λi q st2=>Sg st st2/\∃na nb out m x y,q=(none,na,nb,out,m,x,y)/\HiI R tot a b (j+2) out na nb/\0<na/\1<nb) ?_ ?_ ⟨sg,na,nb,out,_,_,_,rfl,jn,hna,hnb⟩) ?_)
  ·rintro i q st2 _ hi ⟨sg2,na,nb,out,m,x,y,rfl,jn,hna,hnb⟩
   dsimp -zeta only
   extract_lets -underBinder +onlyGivenNames s1 o1 s2 i1 s3 b1 s4 m1 s5 ac bc jp
   refine yk8 (f:=jp ()) (x:=m-1) (y:=m) λm2=>?_
   dsimp -zeta only [jp,s1,o1,s2,i1,s3,b1,s4,m1,s5,ac,bc]
   clear jp ac bc s5 m1 s4 b1 s3 i1 s2 o1 s1
   have sg3:∀g:Nat,Sg st (SortSt.mk' (kindOf st2) (arrOf st2) (pendingOf st2) g (failedOf st2)):=λg=>⟨sg2.k,sg2.a,sg2.p,sg2.f⟩
   have hk2:=sg2.k.trans hk
   have lb:=sub1 (gt0 hnb) jn.hb
   refine wpS_bind (wpS_modify (wpS_bind (p6 lb (wpS_bind (xd5 c hk2 ga (gb _ (r6 lb)) ua hna jn.ha λk hk1 hle hlt=>?_)))))
   dsimp -zeta only
   extract_lets -underBinder +onlyGivenNames k0 ac jp
   refine zl8 (f:=jp ()) (λi1 o1=>HiI R tot a b (j+2) o1 i1 nb/\0<i1/\R (a.getD (i1-1) dk)<=R (b.getD (nb-1) dk)) ?_ λJ=>?_
   ·rintro na1 out1 ⟨jn1,hi1,hle1⟩
    dsimp -zeta only [jp]
    clear jp
    have la:=sub1 hi1 jn1.ha
    have jn2:=(jn1.swap.pushA (gt0 hnb) hle1).swap
    refine wpS_bind (p6 lb ?_)
    refine Z5 (λe2=>wpS_pure ⟨sg3 _,.inl ⟨_,rfl,fin2 (sg3 _) jn2 e2⟩⟩) λe2=>?_
    refine wpS_bind (p6 la (wpS_bind (xd4 c hk2 gb (ga _ (r6 la)) ub (sub0 hnb) jn2.hb λk1 hk3 hle3 hlt3=>?_)))
    dsimp -zeta only
    extract_lets -underBinder +onlyGivenNames k0 bc jp
    refine zl8 (f:=jp ()) (λi3 o3=>HiI R tot a b (j+2) o3 na1 i3/\1<i3/\R (b.getD (i3-1) dk)<=R (a.getD (na1-1) dk)) ?_ λJ=>?_
    ·rintro nb3 out3 ⟨jn3,hnb3,hge⟩
     dsimp -zeta only [jp]
     clear jp
     have jn4:=jn3.pushA hi1 hge
     refine wpS_bind (p6 la ?_)
     refine Z5 (λe5=>wpS_pure ⟨sg3 _,.inl ⟨_,rfl,fin1 (sg3 _) jn4 e5⟩⟩) λe5=>?_
     have jn5:=jn4.weak (bS _)
     exact zx7 (wpS_pure ⟨sg3 _,.inr ⟨_,_,_,_,_,_,rfl,jn5,Nat.pos_of_ne_zero e5,hnb3⟩⟩) (wpS_pure ⟨sg3 _,_,_,_,_,_,_,rfl,jn5,Nat.pos_of_ne_zero e5,hnb3⟩)
    ·clear_value jp
     have jn2':=jn2.weak (bS _)
     have hk10:0<k1:=Nat.pos_of_ne_zero λe=>absurd (hf _ (r6 la)) (bq.mpr (hlt3 0 (cZ e) (sub0 hnb)))
     have hr:R (b.getD (k1-1) dk)<=R (a.getD (na1-1) dk):=aY (hle3 _ (Nat.sub_lt hk10 Nat.zero_lt_one))
     refine T6 (λe=>?_) λe=>?_
     ·have jn3:=(jn2'.swap.extA hk3 hlt3).swap
      exact Z5 (λe4=>wpS_pure ⟨sg3 _,.inl ⟨_,rfl,fin2 (sg3 _) jn3 e4⟩⟩) λe4=>Z5 (λe5=>absurd e5 (ci hk10)) λ_=>J _ _ ⟨jn3,gt1 hk10 e4,hr⟩
     ·obtain rfl:nb-1=k1:=cb (Nat.sub_eq_zero_iff_le.mp (Nat.eq_zero_of_not_pos e)) hk3
      exact J _ _ ⟨jn2',gt1 hk10 e2,hr⟩
   ·clear_value jp
    refine T6 (λe=>?_) λe=>?_
    ·have jn1:=jn.extA hk1 λi h1 h2=>aY (hlt i h1 h2)
     exact Z5 (λe1=>wpS_pure ⟨sg3 _,.inl ⟨_,rfl,fin1 (sg3 _) jn1 e1⟩⟩) λe1=>J _ _ ⟨jn1,Nat.pos_of_ne_zero e1,hle _ (Nat.sub_lt (Nat.pos_of_ne_zero e1) Nat.zero_lt_one)⟩
    ·obtain rfl:na=k:=cb (Nat.sub_eq_zero_iff_le.mp (Nat.eq_zero_of_not_pos e)) hk1
     exact J _ _ ⟨jn,hna,hle _ (Nat.sub_lt hna Nat.zero_lt_one)⟩
  ·rintro q st2 ⟨sg2,na,nb,out,m,x,y,rfl,jn,hna,hnb⟩
   exact ⟨sg2,.inr ⟨_,_,_,_,_,_,rfl,jn,hna,hnb⟩⟩
  ·rintro q st2 ⟨sg2,(⟨r,e,hq⟩|⟨na,nb,out,m,x,y,rfl,jn,hna,hnb⟩)⟩
   ·obtain ⟨q1,q2⟩:=q
    cases e
    exact wpS_pure ⟨_,rfl,hq⟩
   ·exact wpS_bind (wpS_modify (wpS_pure ⟨_,_,_,_,rfl,⟨sg2.k,sg2.a,sg2.p,sg2.f⟩,jn,hna,hnb⟩))
 ·rintro q st' ⟨na,nb,out,mg,rfl,sg,jn,hna,hnb⟩
  have:=jn.hn
  have:=jn.sz
  lia
 ·rintro q st' ⟨r,e,hq⟩
  obtain ⟨q1,q2⟩:=q
  cases e
  exact wpS_pure hq
end
end SortG
namespace SortG
open PySem PyProof.Rows
section
variable {M:Model}{A:Around}{E:Value->Shared->Prop}{s:Shared}{κ:SortKind}{G:Keyed->Prop}{R:Keyed->Int}
structure Seg (xs ys:Array Keyed) (lo hi:Nat):Prop where
 size:ys.size=xs.size
 perm:ys.toList.Perm xs.toList
 out:∀p,p<lo∨hi<=p->ys[p]?=xs[p]?
theorem Seg.refl (xs:Array Keyed)(lo hi:Nat):Seg xs xs lo hi:=⟨rfl,.refl _,λ_ _=>rfl⟩
theorem Seg.trans {xs ys zs:Array Keyed}{lo hi:Nat}(h:Seg xs ys lo hi)(h':Seg ys zs lo hi):Seg xs zs lo hi:=⟨h'.size.trans h.size,h'.perm.trans h.perm,λp hp=>(h'.out p hp).trans (h.out p hp)⟩
theorem Seg.mono {xs ys:Array Keyed}{lo hi lo' hi':Nat}(h:Seg xs ys lo hi)(h1:lo'<=lo)(h2:hi<=hi'):Seg xs ys lo' hi':=⟨h.size,h.perm,λp hp=>h.out p (by lia)⟩
abbrev Ky (R:Keyed->Int) (xs:Array Keyed) (i:Nat):Int:=R (xs.getD i dk)
theorem F0 {xs ys:Array Keyed}{i j:Nat}(h:ys[i]?=xs[j]?):Ky R ys i=Ky R xs j:=by
 have e:∀(zs:Array Keyed) (k:Nat),zs.getD k dk=zs[k]?.getD dk:=λzs k=>by simp
 unfold Ky
 rw [e,e,h]
theorem Seg.ky {xs ys:Array Keyed}{lo hi p:Nat}(h:Seg xs ys lo hi)(hp:p<lo∨hi<=p):Ky R ys p=Ky R xs p:=F0 (h.out p hp)
theorem zz8 {xs:Array Keyed}{i j:Nat}(hj:j<=xs.size)(hij:i<=j):Seg xs (mirror xs i j ((j-i) / 2)) i j:=by
 refine ⟨mirror_size _ _ _ _,(mirror_perm _ _ _ _).toList,λp hp=>?_⟩
 rw [getElem?_mirror hj _ (by lia),if_neg (by lia)]
theorem D5 {xs:Array Keyed}{i j:Nat}(hj:j<=xs.size){p:Nat}(h1:i<=p)(h2:p<j):Ky R (mirror xs i j ((j-i) / 2)) p=Ky R xs (i+j-1-p):=by
 refine F0 ?_
 rw [getElem?_mirror hj _ (by lia)]
 split
 ·rfl
 ·congr 1
  lia
def UpS (R:Keyed->Int)(xs:Array Keyed)(lo n:Nat):Prop:=∀i j,lo<=i->i<=j->j<lo+n->Ky R xs i<=Ky R xs j
def DnS (R:Keyed->Int)(xs:Array Keyed)(lo n:Nat):Prop:=∀i j,lo<=i->i<=j->j<lo+n->Ky R xs j<=Ky R xs i
theorem UpS.succ {xs:Array Keyed}{lo n:Nat}(h:UpS R xs lo n)(h1:n=0∨Ky R xs (lo+n-1)<=Ky R xs (lo+n)):UpS R xs lo (n+1):=λi j hi hij hj=>by
 by_cases e:j=lo+n
 ·by_cases e2:i=j
  ·rw [e2];exact bY _
  ·rw [e]
   rcases h1 with h1|h1
   ·lia
   ·exact bw (h i (lo+n-1) hi (by lia) (by lia)) h1
 ·exact h i j hi hij (by lia)
theorem DnS.succ {xs:Array Keyed}{lo n:Nat}(h:DnS R xs lo n)(h1:n=0∨Ky R xs (lo+n)<=Ky R xs (lo+n-1)):DnS R xs lo (n+1):=λi j hi hij hj=>by
 by_cases e:j=lo+n
 ·by_cases e2:i=j
  ·rw [e2];exact bY _
  ·rw [e]
   rcases h1 with h1|h1
   ·lia
   ·exact bw h1 (h i (lo+n-1) hi (by lia) (by lia))
 ·exact h i j hi hij (by lia)
abbrev Sx (κ:SortKind) (xs:Array Keyed) (pd:Array (Nat×Nat×Nat)) (g:Nat):SortSt:=SortSt.mk' κ xs pd g none
variable {xs:Array Keyed}{pd:Array (Nat×Nat×Nat)}{g:Nat}
theorem F1 (c:Cmp M A E s κ G R){i j:Nat}{Q:Option Bool->SortSt->Prop}(hG:∀x∈xs.toList,G x)(hi:i<xs.size)(hj:j<xs.size)(h:Q (some (decide (Ky R xs i<Ky R xs j))) (Sx κ xs pd g)):wpS M A E s (ltAt' i j) Q (Sx κ xs pd g):=by
 rw [ltAt'_eq]
 refine wpS_bind (wpS_get (wpS_bind (p6 hi (wpS_bind (p6 hj ?_)))))
 exact c.lt (hG _ (r6 hi)) (hG _ (r6 hj)) rfl h
theorem zo4 {i j:Nat}{Q:Unit->SortSt->Prop}(h:Q () (Sx κ (mirror xs i j ((j-i) / 2)) pd g)):wpS M A E s (reverseSlice' i j) Q (Sx κ xs pd g):=by
 rw [reverseSlice'_eq]
 exact wpS_modify h
theorem ys8 {k l:Nat}{Q:Unit->SortSt->Prop}(h:Q () (Sx κ (bubble xs k (k-l)) pd g)):wpS M A E s (moveDown' k l) Q (Sx κ xs pd g):=by
 rw [moveDown'_eq]
 exact wpS_modify h
theorem yw1 {α β:Type}{f:β->StateT SortSt Sem α}{x:StateT SortSt Sem α}{Q:α->SortSt->Prop}{st0:SortSt}(P:SortSt->Prop)(h:∀b st,P st->wpS M A E s (f b) Q st)(k:(∀b st,P st->wpS M A E s (f b) Q st)->wpS M A E s x Q st0):wpS M A E s x Q st0:=k h
theorem Seg.mir {zs:Array Keyed}{lo hi i j:Nat}(hs:Seg xs zs lo hi)(hz:hi<=xs.size)(h1:lo<=i)(h2:i<=j)(h3:j<=hi):Seg xs (mirror zs i j ((j-i) / 2)) lo hi:=hs.trans ((zz8 (by rw [hs.size];exact aB h3 hz) h2).mono h1 h3)
theorem zm1 {ys:Array Keyed}{i j:Nat}(hj:j<=ys.size)(he:∀p,i<=p->p<j->Ky R ys p=Ky R ys (j-1))(p:Nat):Ky R (mirror ys i j ((j-i) / 2)) p=Ky R ys p:=by
 by_cases hp:i<=p/\p<j
 ·rw [D5 hj hp.1 hp.2,he _ (by lia) (by lia),he p hp.1 hp.2]
 ·refine F0 ?_
  rw [getElem?_mirror_all hj,if_neg hp]
theorem yi3 (c:Cmp M A E s κ G R){lo nrem n0:Nat}{ys:Array Keyed}(gy:∀x∈ys.toList,G x)(hz:lo+nrem<=ys.size)(h0:1<=n0)(h0':n0<=nrem)(hu:UpS R ys lo n0){Q:Option (Option Nat)×Nat->SortSt->Prop}{f:Nat->Option (Option Nat)×Nat->StateT SortSt Sem (ForInStep (Option (Option Nat)×Nat))}
  (hf:∀x n,∃k,f x (none,n)=ltAt' (lo+n) (lo+n-1) >>= k/\k (some true)=pure (.done (none,n))/\k (some false)=pure (.yield (none,n+1)))
  (hq:∀n,n0<=n->n<=nrem->UpS R ys lo n->(n<nrem->Ky R ys (lo+n)<Ky R ys (lo+n-1))->Q (none,n) (Sx κ ys pd g)):wpS M A E s (forIn [n0:nrem] (none,n0) f) Q (Sx κ ys pd g):=by
 refine wpS_forRange (I:=λi q st=>q=(none,i)/\st=Sx κ ys pd g/\UpS R ys lo i) ?_ ?_ ⟨rfl,rfl,hu⟩
 ·rintro i q st hi1 hi2 ⟨rfl,rfl,hu⟩
  obtain ⟨k,e,e1,e2⟩:=hf i i
  rw [e]
  refine wpS_bind (F1 c gy (by lia) (by lia) ?_)
  by_cases hlt:Ky R ys (lo+i)<Ky R ys (lo+i-1)
  ·rw [decide_eq_true hlt,e1]
   exact wpS_pure (hq i hi1 (bI hi2) hu λ_=>hlt)
  ·rw [decide_eq_false hlt,e2]
   exact wpS_pure ⟨rfl,rfl,hu.succ (.inr (bq.mp hlt))⟩
 ·rintro q st ⟨rfl,rfl,hu⟩
  rw [dn h0'] at hu ⊢
  exact hq nrem h0' (af _) hu λz=>absurd z (aF _)
theorem yi7 (c:Cmp M A E s κ G R){lo nrem:Nat}{Q:Option Nat->SortSt->Prop}(hG:∀x∈xs.toList,G x)(h1:1<=nrem)(hz:lo+nrem<=xs.size)
  (h:∀m ys,1<=m->m<=nrem->Seg xs ys lo (lo+nrem)->UpS R ys lo m->Q (some m) (Sx κ ys pd g)):wpS M A E s (countRun' lo nrem) Q (Sx κ xs pd g):=by
 have gs:∀{ys:Array Keyed},Seg xs ys lo (lo+nrem)->∀x∈ys.toList,G x:=λhs x hx=>hG x (hs.perm.mem_iff.mp hx)
 have hzs:∀{ys:Array Keyed},Seg xs ys lo (lo+nrem)->lo+nrem<=ys.size:=λhs=>by rw [hs.size];exact hz
 have b1:∀{n:Nat} {ys:Array Keyed},Seg xs ys lo (lo+nrem)->n<nrem->lo+n<ys.size:=λhs hn=>aA (Nat.add_lt_add_left hn _) (hzs hs)
 have b2:∀{n:Nat} {ys:Array Keyed},Seg xs ys lo (lo+nrem)->n<nrem->lo+n-1<ys.size:=λhs hn=>bA (Nat.sub_le _ _) (b1 hs hn)
 have b3:∀{n:Nat} {ys:Array Keyed},Seg xs ys lo (lo+nrem)->n<=nrem->lo+n<=ys.size:=λhs hn=>aB (Nat.add_le_add_left hn _) (hzs hs)
 have lon:∀{n:Nat},n<=nrem->lo+n<=lo+nrem:=λhn=>Nat.add_le_add_left hn _
 refine wpS_bind (yi3 c hG hz (af _) h1 (λi j hi hij hj=>by rw [show i=j by lia];exact bY _) (λx n=>⟨_,rfl,rfl,rfl⟩) λn hn1 hn2 hu hlt=>?_)
 refine Z5 (λe1=>wpS_pure (h n xs hn1 hn2 (Seg.refl _ _ _) hu)) λe1=>?_
 have hn3:=bH hn2 e1
 have hlt:=hlt hn3
 have s0:=Seg.refl xs lo (lo+nrem)
 extract_lets -underBinder +onlyGivenNames jp
 refine yw1 (f:=jp) (λst=>∃ys,st=Sx κ ys pd g/\Seg xs ys lo (lo+nrem)/\DnS R ys lo (n+1)) ?_ λJ=>?_
 ·rintro _ _ ⟨ys,rfl,hs,hd⟩
  dsimp -zeta only [jp]
  clear jp
  refine wpS_bind (N6 ?_)
  refine wpS_bind (wpS_mono (Q:=λq st=>∃n neq zs,q=(none,n,neq)/\st=Sx κ zs pd g/\Seg xs zs lo (lo+nrem)/\1<=n/\n<=nrem/\neq<n/\DnS R zs lo n/\∀p,lo+n-(neq+1)<=p->p<lo+n->Ky R zs p=Ky R zs (lo+n-1)) (wpS_forRange (I:=λi q st=>∃neq zs,q=(none,i,neq)/\st=Sx κ zs pd g/\Seg xs zs lo (lo+nrem)/\neq<i/\DnS R zs lo i/\∀p,lo+i-(neq+1)<=p->p<lo+i->Ky R zs p=Ky R zs (lo+i-1)) ?_ ?_ ⟨0,ys,rfl,rfl,hs,bN _,hd,λp h1 h2=>by rw [cb (Nat.le_sub_one_of_lt h2) h1]⟩) ?_)
  ·rintro i q st hi1 hi2 ⟨neq,zs,rfl,rfl,hs,hne,hd,ht⟩
   dsimp only
   have z1:∀{zs:Array Keyed} (p:Nat),lo+(i+1)-(0+1)<=p->p<lo+(i+1)->Ky R zs p=Ky R zs (lo+(i+1)-1):=λp h1 h2=>by rw [cb (Nat.le_sub_one_of_lt h2) h1]
   refine wpS_bind (F1 c (gs hs) (b1 hs hi2) (b2 hs hi2) (zr4 (λhlt=>T6 (λe=>?_) λe=>wpS_pure ⟨0,zs,rfl,rfl,hs,bN _,hd.succ (.inr (aY hlt)),z1⟩) λhlt=>wpS_bind (F1 c (gs hs) (b2 hs hi2) (b1 hs hi2) (zr4 (λhgt=>wpS_pure ⟨i,neq,zs,rfl,rfl,hs,aB (bN n) hi1,bI hi2,hne,hd,ht⟩) λhgt=>?_))))
   ·have ks:=zm1 (b3 hs (bI hi2)) ht
    exact wpS_bind (zo4 (wpS_pure ⟨0,_,rfl,rfl,hs.mir hz (by lia) (Nat.sub_le _ _) (lon (bI hi2)),bN _,DnS.succ (λi' j' h1 h2 h3=>by rw [ks,ks];exact hd i' j' h1 h2 h3) (.inr (by rw [ks,ks];exact aY hlt)),z1⟩))
   ·refine wpS_pure ⟨neq+1,zs,rfl,rfl,hs,Nat.succ_lt_succ hne,hd.succ (.inr (bq.mp hgt)),λp h1 h2=>?_⟩
    have ee:Ky R zs (lo+i-1)=Ky R zs (lo+i):=cP (bq.mp hlt) (bq.mp hgt)
    show _=Ky R zs (lo+i)
    by_cases e:p=lo+i
    ·rw [e]
    ·rw [ht p (by lia) (by lia),ee]
  ·rintro q st ⟨neq,zs,rfl,rfl,hs,hne,hd,ht⟩
   rw [dn hn3] at hne hd ht ⊢
   exact ⟨nrem,neq,zs,rfl,rfl,hs,h1,af _,hne,hd,ht⟩
  ·rintro q st ⟨n,neq,zs,rfl,rfl,hs,hn1,hn2,hne,hd,ht⟩
   extract_lets -underBinder +onlyGivenNames r1 s1 n1 q1
   dsimp -zeta only [r1,s1,n1,q1]
   extract_lets -underBinder +onlyGivenNames jp
   refine yw1 (f:=jp) (λst=>∃vs,st=Sx κ vs pd g/\Seg xs vs lo (lo+nrem)/\DnS R vs lo n) ?_ λJ=>?_
   ·rintro _ _ ⟨vs,rfl,hs,hd⟩
    dsimp -zeta only [jp]
    clear jp
    have hv:=b3 hs hn2
    have hs2:=hs.mir hz (af _) (bx _ _) (lon hn2)
    exact wpS_bind (zo4 (wpS_bind (yi3 c (gs hs2) (hzs hs2) hn1 hn2 (λi j hi hij hj=>by rw [D5 hv hi (bA hij hj),D5 hv (aB hi hij) hj];exact hd _ _ (by lia) (by lia) (by lia)) (λx n=>⟨_,rfl,rfl,rfl⟩) λm hm1 hm2 hum _=>wpS_pure (h m _ (aB hn1 hm1) hm2 hs2 hum))))
   ·clear_value jp
    refine T6 (λe=>?_) λe=>J _ _ ⟨zs,rfl,hs,hd⟩
    have ks:=zm1 (b3 hs hn2) ht
    exact wpS_bind (zo4 (J _ _ ⟨_,rfl,hs.mir hz (by lia) (Nat.sub_le _ _) (lon hn2),λi' j' h1 h2 h3=>by rw [ks,ks];exact hd i' j' h1 h2 h3⟩))
 ·clear_value jp
  refine T6 (λe2=>?_) λe2=>J _ _ ⟨xs,rfl,s0,DnS.succ (λi j hi hij hj=>by rw [show i=j by lia];exact bY _) (.inr (aY hlt))⟩
  refine wpS_bind (F1 c hG (b1 s0 h1) (b2 s0 hn3) (zr4 (λe3=>wpS_pure (h n xs hn1 hn2 s0 hu)) λe3=>wpS_bind (zo4 ?_)))
  have all:∀p,lo<=p->p<lo+n->Ky R xs p=Ky R xs (lo+n-1):=λp hp1 hp2=>cP (hu p (lo+n-1) hp1 (by lia) (by lia)) (bw (bq.mp e3) (hu lo p (af _) hp1 hp2))
  have ks:=zm1 (b3 s0 hn2) all
  exact J _ _ ⟨_,rfl,s0.mir hz (af _) (bx _ _) (lon hn2),DnS.succ (λi j hi hij hj=>by rw [ks,ks,all i hi (bA hij hj),all j (aB hi hij) hj];exact bY _) (.inr (by rw [ks,ks];exact aY hlt))⟩
theorem yx8 (c:Cmp M A E s κ G R){lo n ok:Nat}{Q:Bool->SortSt->Prop}(hG:∀x∈xs.toList,G x)(h1:1<=ok)(h2:ok<=n)(hz:lo+n<=xs.size)(hu:UpS R xs lo ok)
  (h:∀ys,Seg xs ys lo (lo+n)->UpS R ys lo n->Q true (Sx κ ys pd g)):wpS M A E s (binarySort' lo n ok) Q (Sx κ xs pd g):=by
 refine wpS_bind (wpS_mono (Q:=λq st=>q=(none,())/\∃ys,st=Sx κ ys pd g/\Seg xs ys lo (lo+n)/\UpS R ys lo n) (wpS_forRange (I:=λk q st=>q=(none,())/\∃ys,st=Sx κ ys pd g/\Seg xs ys lo (lo+n)/\UpS R ys lo k) ?_ ?_ ⟨rfl,xs,rfl,Seg.refl _ _ _,by rw [show max ok 1=ok by lia];exact hu⟩) ?_)
 ·rintro k q st hk1 hk2 ⟨rfl,ys,rfl,hs,hu⟩
  have hz':lo+n<=ys.size:=by rw [hs.size];exact hz
  have gy:∀x∈ys.toList,G x:=λx hx=>hG x (hs.perm.mem_iff.mp hx)
  dsimp only
  refine wpS_bind (wpS_mono (Q:=λq st=>∃l r,q=(none,l,r)/\st=Sx κ ys pd g/\l<=k/\(∀i,i<l->Ky R ys (lo+i)<=Ky R ys (lo+k))/\∀i,l<=i->i<k->Ky R ys (lo+k)<Ky R ys (lo+i)) (wpS_forRange (I:=λj q st=>∃l r,q=(none,l,r)/\st=Sx κ ys pd g/\l<=r/\r<=k/\r-l<=k-j/\(∀i,i<l->Ky R ys (lo+i)<=Ky R ys (lo+k))/\∀i,r<=i->i<k->Ky R ys (lo+k)<Ky R ys (lo+i)) ?_ ?_ ⟨0,k,rfl,rfl,by lia,by lia,by lia,λi hi=>absurd hi (bZ _),λi hi hi'=>absurd hi' (by lia)⟩) ?_)
  ·rintro j q st _ hj ⟨l,r,rfl,rfl,b1,b2,b3,b4,b5⟩
   dsimp only
   by_cases e:l ≥ r
   ·rw [if_pos e]
    exact wpS_pure ⟨l,r,rfl,rfl,by lia,b4,λi hi hi'=>b5 i (by lia) hi'⟩
   ·rw [if_neg e]
    refine wpS_bind (F1 c gy (by lia) (by lia) ?_)
    dsimp only
    by_cases hlt:Ky R ys (lo+k)<Ky R ys (lo+(l+r) / 2)
    ·rw [decide_eq_true hlt,if_pos rfl]
     exact wpS_pure ⟨l,_,rfl,rfl,by lia,by lia,by lia,b4,λi hi hi'=>by
      have:=hu (lo+(l+r) / 2) (lo+i) (by lia) (by lia) (by lia)
      lia⟩
    ·rw [decide_eq_false hlt,if_neg am]
     exact wpS_pure ⟨_,r,rfl,rfl,by lia,by lia,by lia,λi hi=>by
      have:=hu (lo+i) (lo+(l+r) / 2) (by lia) (by lia) (by lia)
      lia,b5⟩
  ·rintro q st ⟨l,r,rfl,rfl,b1,b2,b3,b4,b5⟩
   exact ⟨l,r,rfl,rfl,by lia,b4,λi hi hi'=>b5 i (by lia) hi'⟩
  ·rintro q st ⟨l,r,rfl,rfl,b1,b2,b3⟩
   dsimp only
   refine wpS_bind (ys8 (wpS_pure ⟨rfl,_,rfl,hs.trans ⟨bubble_size _ _ _,(bubble_perm _ _ _).toList,λp hp=>?_⟩,?_⟩))
   ·rw [getElem?_bubble (by lia) _ (by lia),if_neg (by lia),if_neg (by lia)]
   ·have kb:∀p,Ky R (bubble ys (lo+k) (lo+k-(lo+l))) p=if p=lo+l then Ky R ys (lo+k) else if lo+l<p/\p<=lo+k then Ky R ys (p-1) else Ky R ys p:=λp=>by
     have e:=getElem?_bubble (xs:=ys) (src:=lo+k) (by lia) (lo+k-(lo+l)) (by lia) p
     rw [show lo+k-(lo+k-(lo+l))=lo+l by lia] at e
     split
     ·rename_i hp
      rw [if_pos hp] at e
      exact F0 e
     ·rename_i hp
      rw [if_neg hp] at e
      split
      ·rename_i hp'
       rw [if_pos hp'] at e
       exact F0 e
      ·rename_i hp'
       rw [if_neg hp'] at e
       exact F0 e
    intro i j hi hij hj
    rw [kb,kb]
    have c1:∀q,lo<=q->q<lo+l->Ky R ys q<=Ky R ys (lo+k):=λq h1 h2=>by
     have:=b2 (q-lo) (by lia)
     rwa [show lo+(q-lo)=q by lia] at this
    have c2:∀q,lo+l<=q->q<lo+k->Ky R ys (lo+k)<Ky R ys q:=λq h1 h2=>by
     have:=b3 (q-lo) (by lia) (by lia)
     rwa [show lo+(q-lo)=q by lia] at this
    by_cases i1:i=lo+l
    ·rw [if_pos i1]
     by_cases j1:j=lo+l
     ·rw [if_pos j1];exact bY _
     ·rw [if_neg j1,if_pos (by lia)]
      exact aY (c2 _ (by lia) (by lia))
    ·rw [if_neg i1]
     by_cases i2:lo+l<i/\i<=lo+k
     ·rw [if_pos i2,if_neg (by lia),if_pos (by lia)]
      exact hu _ _ (by lia) (by lia) (by lia)
     ·rw [if_neg i2]
      by_cases j1:j=lo+l
      ·rw [if_pos j1]
       exact c1 _ hi (by lia)
      ·rw [if_neg j1]
       by_cases j2:lo+l<j/\j<=lo+k
       ·rw [if_pos j2]
        exact hu _ _ (by lia) (by lia) (by lia)
       ·rw [if_neg j2]
        exact hu _ _ (by lia) (by lia) (by lia)
 ·rintro q st ⟨rfl,ys,rfl,hs,hu⟩
  rw [show max (max ok 1) n=n by lia] at hu
  exact ⟨rfl,ys,rfl,hs,hu⟩
 ·rintro q st ⟨rfl,ys,rfl,hs,hu⟩
  exact wpS_pure (h ys hs hu)
end
end SortG
namespace SortG
open PySem PyProof.Rows
section
variable {M:Model}{A:Around}{E:Value->Shared->Prop}{s:Shared}{κ:SortKind}{G:Keyed->Prop}{R:Keyed->Int}{xs:Array Keyed}{pd:Array (Nat×Nat×Nat)}{g:Nat}
theorem xc1 {st st':SortSt}{Q:PUnit->SortSt->Prop}(h:Q ⟨⟩ st'):wpS M A E s (set st':StateT SortSt Sem PUnit) Q st:=by
 unfold wpS
 rw [StateT.run_set]
 exact wpAny_pure ⟨rfl,h⟩
theorem zu2 {o:Nat}:∀(m:List Keyed) (n:Nat) (xs:Array Keyed),o+n+m.length<=xs.size->((m.zipIdx n).foldl (λa (q:Keyed×Nat)=>a.setIfInBounds (o+q.2) q.1) xs).toList=xs.toList.take (o+n)++m++xs.toList.drop (o+n+m.length)
 | [],n,xs,h=>by simp
 | p::m,n,xs,h=>by
  rw [List.zipIdx_cons,cO,zu2 m (n+1) _ (by simp at h ⊢;lia)]
  rw [ag] at h
  have e:(xs.setIfInBounds (o+n) p).toList=xs.toList.take (o+n)++p::xs.toList.drop (o+n+1):=by
   rw [Array.toList_setIfInBounds,List.set_eq_take_append_cons_drop,if_pos (by simp;lia)]
  have hl:(xs.toList.take (o+n)).length=o+n:=by simp;lia
  have hd:xs.toList.drop (o+n+(m.length+1))=(xs.toList.drop (o+n+1)).drop m.length:=by rw [du];congr 1;lia
  rw [ag,hd]
  dsimp only
  rw [e]
  generalize xs.toList.take (o+n)=T at hl ⊢
  generalize xs.toList.drop (o+n+1)=D
  rw [show o+(n+1)+m.length=T.length+(m.length+1) by lia,show o+(n+1)=T.length+1 by lia,List.take_length_add_append,List.drop_length_add_append,List.drop_succ_cons]
  simp
theorem yq7 {lo hi:Nat}(hz:hi<=xs.size)(u:∀i j,lo<=i->i<=j->j<hi->Ky R xs i<=Ky R xs j):SL R (xs.extract lo hi).toList:=by
 unfold SL
 rw [bQ]
 intro i j hi' hj' hij
 have hj:j<hi-lo:=by rw [ak,Array.size_extract] at hj';lia
 have:=u (lo+i) (lo+j) (by lia) (by lia) (by lia)
 unfold Ky at this
 have e:∀k (h:k<(xs.extract lo hi).toList.length),(xs.extract lo hi).toList[k]=xs.getD (lo+k) dk:=λk h=>by
  have hk:k<hi-lo:=by rw [ak,Array.size_extract] at h;lia
  rw [Array.getElem_toList,Array.getElem_extract]
  simp [Array.getD,show lo+k<xs.size by lia]
 rw [e,e]
 exact this
theorem N2 {lo hi:Nat}(hz:hi<=xs.size){x:Keyed}(h:x∈(xs.extract lo hi).toList):∃j,lo<=j/\j<hi/\x=xs.getD j dk:=by
 rw [Array.toList_extract] at h
 simp only [List.extract] at h
 obtain ⟨j,h1,h2,rfl⟩:=E2 h
 exact ⟨lo+j,by lia,by lia,rfl⟩
theorem yb7 {lo hi k:Nat}(hz:hi<=xs.size)(hk:lo+k<hi):(xs.extract lo hi).getD k dk=xs.getD (lo+k) dk:=by
 have h:k<(xs.extract lo hi).size:=by rw [Array.size_extract];lia
 rw [Array.getD,dif_pos h,Array.getD,dif_pos (by lia)]
 exact Array.getElem_extract ..
theorem zy5 (c:Cmp M A E s κ G R){i sa na sb nb pw pw':Nat}{Q:Bool->SortSt->Prop}(hG:∀x∈xs.toList,G x)(hi:pd[i]?=some (sa,na,pw))(hi':pd[i+1]?=some (sb,nb,pw'))(e:sb=sa+na)(n0:0<na)(m0:0<nb)(hz:sb+nb<=xs.size)(u1:UpS R xs sa na)(u2:UpS R xs sb nb)
  (h:∀ys g',Seg xs ys sa (sb+nb)->UpS R ys sa (na+nb)->Q true (Sx κ ys ((pd.setIfInBounds i (sa,na+nb,pw)).eraseIdxIfInBounds (i+1)) g')):wpS M A E s (mergeAt' i) Q (Sx κ xs pd g):=by
 subst e
 refine wpS_bind (wpS_get ?_)
 dsimp only
 rw [show (pendingOf (Sx κ xs pd g))[i]?=some (sa,na,pw) from hi,show (pendingOf (Sx κ xs pd g))[i+1]?=some (sa+na,nb,pw') from hi']
 dsimp only
 refine wpS_bind (xc1 (wpS_bind (p6 (by lia) (wpS_bind (W3 c rfl (λi hi=>hG _ (r6 (by lia))) (hG _ (r6 (by lia))) (by lia) (by lia) (λi j hij hj=>u1 _ _ (by lia) (by lia) (by lia)) λk hpre=>?_)))))
 obtain ⟨hk1,hk2⟩:=hpre.no
 dsimp only
 generalize (pd.setIfInBounds i (sa,na+nb,pw)).eraseIdxIfInBounds (i+1)=pd' at h ⊢
 by_cases e1:na-k=0
 ·rw [if_pos (by simpa using e1)]
  refine wpS_pure (h xs g (Seg.refl _ _ _) λi j hi hij hj=>?_)
  by_cases h1:j<sa+na
  ·exact u1 i j hi hij h1
  ·by_cases h2:sa+na<=i
   ·exact u2 i j h2 hij (by lia)
   ·have a1:=(hk2 (i-sa) (by lia)).mpr (by lia)
    rw [show sa+(i-sa)=i by lia] at a1
    exact bw a1 (u2 _ j (af _) (by lia) (by lia))
 rw [if_neg (by simpa using e1)]
 refine wpS_bind (p6 (by lia) (wpS_bind (W3 c rfl (λi hi=>hG _ (r6 (by lia))) (hG _ (r6 (by lia))) (by lia) (by lia) (λi j hij hj=>u2 _ _ (by lia) (by lia) (by lia)) λk1 hpre1=>?_)))
 obtain ⟨hm1,hm2⟩:=hpre1.yes
 rw [show sa+k+(na-k)-1=sa+na-1 by lia] at hm2
 dsimp only
 by_cases e2:k1=0
 ·rw [if_pos (by simpa using e2)]
  refine wpS_pure (h xs g (Seg.refl _ _ _) λi j hi hij hj=>?_)
  by_cases h1:j<sa+na
  ·exact u1 i j hi hij h1
  ·by_cases h2:sa+na<=i
   ·exact u2 i j h2 hij (by lia)
   ·have a1:¬_:=λz=>absurd ((hm2 0 m0).mp z) (by lia)
    have a2:=u1 i (sa+na-1) hi (by lia) (by lia)
    exact bw a2 (bw (bq.mp a1) (u2 _ j (by lia) (by lia) (by lia)))
 rw [if_neg (by simpa using e2)]
 have hzx:sa+na<=xs.size:=by lia
 have hzy:sa+na+k1<=xs.size:=by lia
 have gx:∀x∈(xs.extract (sa+k) (sa+na)).toList,G x:=λx hx=>by
  obtain ⟨j,h1,h2,rfl⟩:=N2 hzx hx
  exact hG _ (r6 (by lia))
 have gy:∀x∈(xs.extract (sa+na) (sa+na+k1)).toList,G x:=λx hx=>by
  obtain ⟨j,h1,h2,rfl⟩:=N2 hzy hx
  exact hG _ (r6 (by lia))
 have ux:SL R (xs.extract (sa+k) (sa+na)).toList:=yq7 hzx λi j h1 h2 h3=>u1 i j (by lia) h2 h3
 have uy:SL R (xs.extract (sa+na) (sa+na+k1)).toList:=yq7 hzy λi j h1 h2 h3=>u2 i j h1 h2 (by lia)
 have sx:(xs.extract (sa+k) (sa+na)).size=na-k:=by rw [Array.size_extract];lia
 have sy:(xs.extract (sa+na) (sa+na+k1)).size=k1:=by rw [Array.size_extract];lia
 have hf:∀x∈(xs.extract (sa+k) (sa+na)).toList,R ((xs.extract (sa+na) (sa+na+k1)).getD 0 dk)<R x:=λx hx=>by
  obtain ⟨j,h1,h2,rfl⟩:=N2 hzx hx
  rw [yb7 hzy (by lia)]
  have a1:¬_:=λz=>absurd ((hk2 (j-sa) (by lia)).mp z) (by lia)
  rw [show sa+(j-sa)=j by lia] at a1
  exact Int.not_le.mp a1
 have hl:∀x∈(xs.extract (sa+na) (sa+na+k1)).toList,R x<R ((xs.extract (sa+k) (sa+na)).getD ((xs.extract (sa+k) (sa+na)).size-1) dk):=λx hx=>by
  obtain ⟨j,h1,h2,rfl⟩:=N2 hzy hx
  rw [sx,yb7 hzx (by lia),show sa+k+(na-k-1)=sa+na-1 by lia]
  have:=(hm2 (j-(sa+na)) (by lia)).mpr (by lia)
  rwa [show sa+na+(j-(sa+na))=j by lia] at this
 have fin:∀(out:Array Keyed) (st':SortSt),Sg (Sx κ xs pd' g) st'->out.toList.Perm ((xs.extract (sa+k) (sa+na)).toList++(xs.extract (sa+na) (sa+na+k1)).toList)->SL R out.toList->∃g',st'=Sx κ xs pd' g'/\Q true (Sx κ (out.toList.zipIdx.foldl (λa (q:Keyed×Nat)=>a.setIfInBounds (sa+k+q.2) q.1) xs) pd' g'):=λout st' sg hp hs=>by
  have hlen:out.toList.length=na-k+k1:=by rw [hp.length_eq,al,ak,ak,sx,sy]
  have hosz:out.size=na-k+k1:=by rw [←ak];exact hlen
  refine ⟨gallopOf st',?_,?_⟩
  ·obtain ⟨a1,a2,a3,a4⟩:=sg
   cases st'
   cases a1;cases a2;cases a3;cases a4
   rfl
  have epl:=zu2 (o:=sa+k) out.toList 0 xs (by rw [hlen];lia)
  rw [Nat.add_zero,hlen,show sa+k+(na-k+k1)=sa+na+k1 by lia] at epl
  generalize out.toList.zipIdx.foldl (λa (q:Keyed×Nat)=>a.setIfInBounds (sa+k+q.2) q.1) xs=ys at epl ⊢
  have hys:ys.size=xs.size:=by
   have:=congrArg List.length epl
   simp only [al,aP,bF,ak,hosz] at this
   lia
  have at_:∀p,ys[p]?=if p<sa+k then xs[p]? else if p<sa+na+k1 then out[p-(sa+k)]? else xs[p]?:=λp=>by
   rw [←aD,epl]
   have hl1:(xs.toList.take (sa+k)).length=sa+k:=by simp;lia
   by_cases p1:p<sa+k
   ·rw [if_pos p1,bn,aQ (by lia),cq p1,aD]
   ·rw [if_neg p1]
    by_cases p2:p<sa+na+k1
    ·rw [if_pos p2,aQ (by rw [al,hl1,hlen];lia),aU (by lia),hl1,aD]
    ·rw [if_neg p2,aU (by rw [al,hl1,hlen];lia),cG,al,hl1,hlen,aD]
     congr 1
     lia
  have mem:∀z∈out.toList,∃j,sa+k<=j/\j<sa+na+k1/\z=xs.getD j dk:=λz hz=>by
   rcases bf.mp (hp.mem_iff.mp hz) with q|q
   ·obtain ⟨j,h1,h2,rfl⟩:=N2 hzx q
    exact ⟨j,h1,by lia,rfl⟩
   ·obtain ⟨j,h1,h2,rfl⟩:=N2 hzy q
    exact ⟨j,by lia,h2,rfl⟩
  refine h ys _ ⟨hys,?_,λp hp'=>?_⟩ ?_
  ·rw [epl]
   have ex:xs.toList=xs.toList.take (sa+k)++((xs.extract (sa+k) (sa+na)).toList++(xs.extract (sa+na) (sa+na+k1)).toList)++xs.toList.drop (sa+na+k1):=by
    have q1:=K2 (a:=xs) (sa+k) (na-k)
    have q2:=K2 (a:=xs) (sa+na) k1
    rw [←zc3,show sa+k+(na-k)=sa+na by lia] at q1
    rw [←zc3] at q2
    rw [bn,bn,←q2,←q1,bd]
   conv=>rhs;rw [ex]
   exact List.Perm.append_right _ (List.Perm.append_left _ hp)
  ·rw [at_]
   split
   ·rfl
   ·rw [if_neg (by lia)]
  ·
   have lowk:∀i,sa<=i->i<sa+k->∀j,i<=j->j<sa+na+nb->Ky R xs i<=Ky R xs j:=λi h1 h2 j h3 h4=>by
    by_cases q:j<sa+na
    ·exact u1 i j h1 h3 q
    ·have a1:=(hk2 (i-sa) (by lia)).mpr (by lia)
     rw [show sa+(i-sa)=i by lia] at a1
     exact bw a1 (u2 _ j (af _) (by lia) (by lia))
   have highk:∀j,sa+na+k1<=j->j<sa+na+nb->∀i,sa<=i->i<=j->Ky R xs i<=Ky R xs j:=λj h1 h2 i h3 h4=>by
    by_cases q:sa+na<=i
    ·exact u2 i j q h4 (by lia)
    ·have a1:¬_:=λz=>absurd ((hm2 (j-(sa+na)) (by lia)).mp z) (by lia)
     rw [show sa+na+(j-(sa+na))=j by lia] at a1
     exact bw (u1 i (sa+na-1) h3 (by lia) (by lia)) (bq.mp a1)
   have kl:∀p,p<sa+k->Ky R ys p=Ky R xs p:=λp hp'=>F0 (by rw [at_,if_pos hp'])
   have kh:∀p,sa+na+k1<=p->Ky R ys p=Ky R xs p:=λp hp'=>F0 (by rw [at_,if_neg (by lia),if_neg (by lia)])
   have km:∀p,sa+k<=p->p<sa+na+k1->Ky R ys p=R (out.getD (p-(sa+k)) dk)/\out.getD (p-(sa+k)) dk∈out.toList:=λp h1 h2=>⟨F0 (R:=R) (xs:=out) (j:=p-(sa+k)) (by rw [at_,if_neg (by lia),if_pos h2]),r6 (by lia)⟩
   intro i j hi hij hj
   by_cases i1:i<sa+k
   ·rw [kl i i1]
    by_cases j1:j<sa+k
    ·rw [kl j j1]
     exact lowk i hi i1 j hij (by lia)
    ·by_cases j2:j<sa+na+k1
     ·obtain ⟨q1,q2⟩:=km j (by lia) j2
      obtain ⟨z,z1,z2,z3⟩:=mem _ q2
      rw [q1,z3]
      exact lowk i hi i1 z (by lia) (by lia)
     ·rw [kh j (by lia)]
      exact lowk i hi i1 j hij (by lia)
   ·by_cases i2:i<sa+na+k1
    ·obtain ⟨q1,q2⟩:=km i (by lia) i2
     by_cases j2:j<sa+na+k1
     ·obtain ⟨q3,q4⟩:=km j (by lia) j2
      rw [q1,q3]
      exact hs.get (by lia) (by lia)
     ·obtain ⟨z,z1,z2,z3⟩:=mem _ q2
      rw [q1,z3,kh j (by lia)]
      exact highk j (by lia) (by lia) z (by lia) (by lia)
    ·rw [kh i (by lia),kh j (by lia)]
     exact highk j (by lia) (by lia) i hi hij
 by_cases e3:na-k<=k1
 ·rw [if_pos e3]
  refine wpS_bind (zy7 c rfl gx gy ux uy (by lia) (by lia) (λx hx=>aY (hf x hx)) hl λout st' sg hp hs=>?_)
  obtain ⟨g',rfl,hq⟩:=fin out st' sg hp hs
  exact wpS_bind (wpS_modify (wpS_bind (wpS_get (wpS_pure hq))))
 ·rw [if_neg e3]
  refine wpS_bind (zy6 c rfl gx gy ux uy (by lia) (by lia) hf hl λout st' sg hp hs=>?_)
  obtain ⟨g',rfl,hq⟩:=fin out st' sg hp hs
  exact wpS_bind (wpS_modify (wpS_bind (wpS_get (wpS_pure hq))))
end
end SortG
namespace SortG
open PySem PyProof.Rows
section
variable {M:Model}{A:Around}{E:Value->Shared->Prop}{s:Shared}{κ:SortKind}{G:Keyed->Prop}{R:Keyed->Int}{xs ys:Array Keyed}{pd:Array (Nat×Nat×Nat)}{g:Nat}
def Y4 (R:Keyed->Int)(xs:Array Keyed):List (Nat×Nat×Nat)->Nat->Nat->Prop
 | [],a,b=>a=b
 | (st,n,_)::r,a,b=>st=a/\0<n/\UpS R xs a n/\Y4 R xs r (a+n) b
theorem Y4.le:∀{l:List (Nat×Nat×Nat)} {a b:Nat},Y4 R xs l a b->a+l.length<=b
 | [],a,b,h=>by cases h;exact af _
 | (st,n,_)::r,a,b,h=>by
  have:=Y4.le h.2.2.2
  have:=h.2.1
  rw [ag]
  lia
theorem P7:∀{l l':List (Nat×Nat×Nat)} {a b:Nat},Y4 R xs (l++l') a b↔∃m,Y4 R xs l a m/\Y4 R xs l' m b
 | [],l',a,b=>⟨λh=>⟨a,rfl,h⟩,λ⟨m,h1,h2⟩=>by cases h1;exact h2⟩
 | (st,n,p)::r,l',a,b=>by
  constructor
  ·rintro ⟨h1,h2,h3,h4⟩
   obtain ⟨m,h5,h6⟩:=P7.mp h4
   exact ⟨m,⟨h1,h2,h3,h5⟩,h6⟩
  ·rintro ⟨m,⟨h1,h2,h3,h5⟩,h6⟩
   exact ⟨h1,h2,h3,P7.mpr ⟨m,h5,h6⟩⟩
theorem UpS.seg {lo n l h:Nat}(u:UpS R xs lo n)(hs:Seg xs ys l h)(ho:lo+n<=l∨h<=lo):UpS R ys lo n:=λi j h1 h2 h3=>by
 rw [hs.ky (by lia),hs.ky (by lia)]
 exact u i j h1 h2 h3
theorem Y4.seg {l0 h0:Nat}(hs:Seg xs ys l0 h0):∀{l:List (Nat×Nat×Nat)} {a b:Nat},Y4 R xs l a b->(b<=l0∨h0<=a)->Y4 R ys l a b
 | [],a,b,h,_=>h
 | (st,n,_)::r,a,b,⟨h1,h2,h3,h4⟩,ho=>by
  have:=h4.le
  exact ⟨h1,h2,h3.seg hs (by lia),Y4.seg hs h4 (by lia)⟩
theorem F2 (c:Cmp M A E s κ G R){i lo:Nat}{Q:Bool->SortSt->Prop}(hG:∀x∈xs.toList,G x)(hr:Y4 R xs pd.toList 0 lo)(hlo:lo<=xs.size)(hi:i+1<pd.size)
  (h:∀ys pd' g',Seg xs ys 0 lo->Y4 R ys pd'.toList 0 lo->pd'.size+1=pd.size->Q true (Sx κ ys pd' g')):wpS M A E s (mergeAt' i) Q (Sx κ xs pd g):=by
 obtain ⟨l1,X,Y,l2,e,e1⟩:∃l1 X Y l2,pd.toList=l1++X::Y::l2/\l1.length=i:=by
  refine ⟨pd.toList.take i,pd[i],pd[i+1],pd.toList.drop (i+1+1),?_,by simp;lia⟩
  rw [←Array.getElem_toList,←Array.getElem_toList,←ck (by simp;lia),←ck (by simp;lia),bd]
 obtain ⟨sa,na,pw⟩:=X
 obtain ⟨sb,nb,pw'⟩:=Y
 rw [e] at hr
 obtain ⟨m,r1,a1,a2,a3,b1,b2,b3,r2⟩:=P7.mp hr
 subst a1 b1
 have hle:=r2.le
 have hl1:=r1.le
 have p1:pd[i]?=some (sa,na,pw):=by rw [←aD,e,←e1];simp
 have p2:pd[i+1]?=some (sa+na,nb,pw'):=by rw [←aD,e,←e1];simp
 refine zy5 c hG p1 p2 rfl a2 b2 (by lia) a3 b3 λys g' hs hu=>?_
 have e2:((pd.setIfInBounds i (sa,na+nb,pw)).eraseIdxIfInBounds (i+1)).toList=l1++(sa,na+nb,pw)::l2:=by
  rw [Array.toList_eraseIdxIfInBounds,Array.toList_setIfInBounds,e,←e1,List.set_append_right _ _ (af _),cH,List.set_cons_zero,List.eraseIdx_append_of_length_le (by lia),show l1.length+1-l1.length=1 by lia]
  rfl
 refine h ys _ g' (hs.mono (by lia) (by lia)) ?_ ?_
 ·rw [e2]
  exact P7.mpr ⟨sa,r1.seg hs (by lia),rfl,by lia,hu,by rw [show sa+(na+nb)=sa+na+nb by lia];exact r2.seg hs (by lia)⟩
 ·have:=congrArg List.length e2
  have h3:=congrArg List.length e
  simp only [al,ag,ak] at this h3
  lia
theorem yp3 {n:Nat}(hr:Y4 R xs pd.toList 0 n)(h:pd.size<=1):UpS R xs 0 n:=by
 cases e:pd.toList with
 | nil =>
  rw [e] at hr
  cases hr
  exact λi j h1 h2 h3=>absurd h3 (by lia)
 | cons x l =>
  have hl:l=[]:=List.eq_nil_of_length_eq_zero (by have:=congrArg List.length e;rw [ag,ak] at this;lia)
  rw [e,hl] at hr
  obtain ⟨st,m,p⟩:=x
  obtain ⟨h1,h2,h3,h4⟩:=hr
  cases h4
  rwa [br]
theorem zu4 {f:Nat×Nat×Nat->Nat×Nat×Nat}(hf:∀x,(f x).1=x.1/\(f x).2.1=x.2.1):∀{l:List (Nat×Nat×Nat)} {j a b:Nat},Y4 R xs l a b->Y4 R xs (l.modify j f) a b
 | [],j,a,b,h=>by simpa using h
 | x::l,0,a,b,h=>by
  obtain ⟨st,m,p⟩:=x
  rw [List.modify_zero_cons]
  obtain ⟨e1,e2⟩:=hf (st,m,p)
  generalize f (st,m,p)=y at e1 e2
  obtain ⟨st',m',p'⟩:=y
  cases e1
  cases e2
  exact h
 | x::l,j+1,a,b,h=>by
  obtain ⟨st,m,p⟩:=x
  rw [List.modify_succ_cons]
  exact ⟨h.1,h.2.1,h.2.2.1,zu4 hf h.2.2.2⟩
theorem sortRuns_ok (c:Cmp M A E s κ G R){Q:Unit->SortSt->Prop}(hG:∀x∈xs.toList,G x)
  (h:∀ys pd' g',ys.toList.Perm xs.toList->ys.size=xs.size->UpS R ys 0 xs.size->Q () (Sx κ ys pd' g')):wpS M A E s sortRuns' Q (Sx κ xs #[] g):=by
 rw [sortRuns'_eq]
 refine wpS_bind (wpS_get ?_)
 dsimp only
 rw [show (arrOf (Sx κ xs #[] g)).size=xs.size from rfl]
 generalize minRun' xs.size xs.size 0=mr
 refine wpS_bind (wpS_mono (Q:=λq st=>∃ys pd' g',q=(none,xs.size)/\st=Sx κ ys pd' g'/\Seg xs ys 0 xs.size/\Y4 R ys pd'.toList 0 xs.size) (wpS_forRange (I:=λj q st=>∃lo ys pd' g',q=(none,lo)/\st=Sx κ ys pd' g'/\Seg xs ys 0 xs.size/\Y4 R ys pd'.toList 0 lo/\lo<=xs.size/\j<=lo) ?_ ?_ ⟨0,xs,#[],g,rfl,rfl,Seg.refl _ _ _,rfl,ax _,af _⟩) ?_)
 ·rintro j q st _ hj ⟨lo,ys,pd',g',rfl,rfl,hs,hr,hlo,hjl⟩
  dsimp only
  by_cases e1:lo ≥ xs.size
  ·rw [if_pos e1]
   obtain rfl:lo=xs.size:=by lia
   exact wpS_pure ⟨ys,pd',g',rfl,rfl,hs,hr⟩
  rw [if_neg e1]
  have gy:∀{zs:Array Keyed},Seg xs zs 0 xs.size->∀x∈zs.toList,G x:=λhs x hx=>hG x (hs.perm.mem_iff.mp hx)
  refine wpS_bind (yi7 c (gy hs) (by lia) (by rw [hs.size];lia) λm zs hm1 hm2 hsz hum=>?_)
  have hs1:Seg xs zs 0 xs.size:=hs.trans (hsz.mono (by lia) (by lia))
  have hr1:Y4 R zs pd'.toList 0 lo:=hr.seg hsz (by lia)
  dsimp only
  rcases bP m mr with e2|e2
  all_goals first|rw [if_pos e2]|rw [if_neg (by lia)]
  all_goals first
   | (
     have e3:m<mr:=e2
     refine wpS_bind (N6 (wpS_bind (yx8 c (gy hs1) hm1 (by lia) (by rw [hs1.size];lia) hum λvs hv huv=>?_)))
     rw [if_neg (by simp)]
     have hs2:Seg xs vs 0 xs.size:=hs1.trans (hv.mono (by lia) (by lia))
     have hr2:Y4 R vs pd'.toList 0 lo:=hr1.seg hv (by lia)
     have hN:0<min (xs.size-lo) mr/\lo+min (xs.size-lo) mr<=xs.size:=by lia
     generalize min (xs.size-lo) mr=N at huv hN ⊢)
   | (
     obtain ⟨vs,evs⟩:∃vs,vs=zs:=⟨_,rfl⟩
     rw [←evs] at hs1 hr1 hum ⊢
     have hs2:=hs1
     have hr2:=hr1
     have hN:0<m/\lo+m<=xs.size:=by lia
     have huv:=hum
     generalize m=N at huv hN ⊢)
  all_goals
   refine wpS_bind (wpS_get ?_)
   have last:∀{us:Array Keyed} {pd2:Array (Nat×Nat×Nat)},Y4 R us pd2.toList 0 lo->UpS R us lo N->Y4 R us (pd2.push (lo,N,0)).toList 0 (lo+N):=λhr hu=>by
    rw [Array.toList_push]
    exact P7.mpr ⟨lo,hr,rfl,hN.1,hu,rfl⟩
   have eb:(pendingOf (Sx κ vs pd' g')).back?=pd'.back?:=rfl
   rw [eb]
   cases pd'.back? with
   | none=>exact wpS_bind (wpS_modify (wpS_pure ⟨_,_,_,_,rfl,rfl,hs2,last hr2 huv,hN.2,by lia⟩))
   | some x =>
    obtain ⟨s1,n1,x⟩:=x
    dsimp only
    generalize power' xs.size (2*s1+n1) (2*s1+n1+n1+N) xs.size=pw
    refine wpS_bind (wpS_mono (Q:=λq st=>q=(none,())/\∃us pd2 g2,st=Sx κ us pd2 g2/\Seg xs us 0 xs.size/\Y4 R us pd2.toList 0 lo/\UpS R us lo N) (wpS_forRange (I:=λ_ q st=>q=(none,())/\∃us pd2 g2,st=Sx κ us pd2 g2/\Seg xs us 0 xs.size/\Y4 R us pd2.toList 0 lo/\UpS R us lo N) ?_ ?_ ⟨rfl,vs,pd',g',rfl,hs2,hr2,huv⟩) ?_)
    ·rintro j2 q st _ _ ⟨rfl,us,pd2,g2,rfl,hsu,hru,huu⟩
     refine wpS_bind (wpS_get ?_)
     have ep:pendingOf (Sx κ us pd2 g2)=pd2:=rfl
     rw [ep]
     cases eo:(if pd2.size > 1 then pd2[pd2.size-2]? else none) with
     | none=>exact wpS_pure ⟨rfl,us,pd2,g2,rfl,hsu,hru,huu⟩
     | some y =>
      obtain ⟨y1,y2,y3⟩:=y
      have hp2:pd2.size > 1:=Classical.byContradiction λz=>by rw [if_neg z] at eo;cases eo
      dsimp only
      by_cases e5:y3<=pw
      ·rw [if_pos e5]
       exact wpS_pure ⟨rfl,us,pd2,g2,rfl,hsu,hru,huu⟩
      ·rw [if_neg e5]
       refine wpS_bind (F2 c (gy hsu) hru (by rw [hsu.size];lia) (by lia) λws pd3 g3 hsw hrw _=>?_)
       rw [if_neg (by simp)]
       exact wpS_pure ⟨rfl,ws,pd3,g3,rfl,hsu.trans (hsw.mono (by lia) (by lia)),hrw,huu.seg hsw (by lia)⟩
    ·rintro q st hq
     exact hq
    ·rintro q st ⟨rfl,us,pd2,g2,rfl,hsu,hru,huu⟩
     refine wpS_bind (wpS_modify (wpS_bind (wpS_modify (wpS_pure ⟨_,us,_,g2,rfl,rfl,hsu,last ?_ huu,hN.2,by lia⟩))))
     show Y4 R us (pd2.modify (pd2.size-1) _).toList 0 lo
     rw [Array.toList_modify]
     exact zu4 (f:=λx=>(x.1,x.2.1,pw)) (λx=>⟨rfl,rfl⟩) hru
 ·rintro q st ⟨lo,ys,pd',g',rfl,rfl,hs,hr,hlo,hjl⟩
  obtain rfl:lo=xs.size:=by lia
  exact ⟨ys,pd',g',rfl,rfl,hs,hr⟩
 ·rintro q st ⟨ys,pd',g',rfl,rfl,hs,hr⟩
  dsimp only
  have gy:∀{zs:Array Keyed},Seg xs zs 0 xs.size->∀x∈zs.toList,G x:=λhs x hx=>hG x (hs.perm.mem_iff.mp hx)
  have hlen:=hr.le
  rw [ak,br] at hlen
  refine wpS_bind (wpS_mono (Q:=λq st=>q=(none,())/\∃us pd2 g2,st=Sx κ us pd2 g2/\Seg xs us 0 xs.size/\Y4 R us pd2.toList 0 xs.size/\pd2.size<=1) (wpS_forRange (I:=λj q st=>q=(none,())/\∃us pd2 g2,st=Sx κ us pd2 g2/\Seg xs us 0 xs.size/\Y4 R us pd2.toList 0 xs.size/\pd2.size+j<=xs.size) ?_ ?_ ⟨rfl,ys,pd',g',rfl,hs,hr,by lia⟩) ?_)
  ·rintro j q st _ hj ⟨rfl,us,pd2,g2,rfl,hsu,hru,hle⟩
   refine wpS_bind (wpS_get ?_)
   have ep:pendingOf (Sx κ us pd2 g2)=pd2:=rfl
   rw [ep]
   by_cases e1:pd2.size<=1
   ·rw [if_pos e1]
    exact wpS_pure ⟨rfl,us,pd2,g2,rfl,hsu,hru,e1⟩
   rw [if_neg e1]
   obtain ⟨i,ei,hi⟩:∃i,(if Option.any (λx=>decide (x<(pd2[pd2.size-2+1]?.elim 0 λx=>x.snd.fst))) (if pd2.size-2 > 0 then Option.map (λx=>x.snd.fst) pd2[pd2.size-2-1]? else none)=true then pd2.size-2-1 else pd2.size-2)=i/\i+1<pd2.size:=by
    have ite:∀{p:Prop} [Decidable p] {a b n:Nat},a<n->b<n->(if p then a else b)<n:=λh1 h2=>by
     split
     ·exact h1
     ·exact h2
    exact ⟨_,rfl,Nat.add_lt_of_lt_sub (ite (by lia) (by lia))⟩
   rw [ei]
   refine wpS_bind (F2 c (gy hsu) hru (by rw [hsu.size];exact af _) hi λws pd3 g3 hsw hrw hsz=>?_)
   rw [if_neg (by simp)]
   exact wpS_pure ⟨rfl,ws,pd3,g3,rfl,hsu.trans hsw,hrw,by lia⟩
  ·rintro q st ⟨rfl,us,pd2,g2,rfl,hsu,hru,hle⟩
   exact ⟨rfl,us,pd2,g2,rfl,hsu,hru,by lia⟩
  ·rintro q st ⟨rfl,us,pd2,g2,rfl,hsu,hru,hle⟩
   exact wpS_pure (h us pd2 g2 hsu.perm hsu.size (yp3 hru hle))
end
end SortG
namespace L2
open PySem PySem.Spec PyProof.Rows
section
variable {prog:Program}{w:World}{A:Around}{E:Value->Shared->Prop}{s:Shared}
theorem yl6:∀{vs ws:List Value} {xs ys:List Int} {i:Nat} {Q:Bool->Shared->Prop} {fin:Bool},IntsAre vs xs->IntsAre ws ys->fin=decide (xs.length<ys.length)->Q (HT.lexLt xs ys) s->W.KatLex prog w A true fin Q (vs.zip ws) i s
 | _,_,_,_,i,Q,fin,.nil,.nil,hf,h=>by
  rw [hf]
  exact W.kat_nil h
 | _,_,_,_,i,Q,fin,.nil,.cons _ _ _,hf,h=>by
  rw [hf]
  exact W.kat_nil h
 | _,_,_,_,i,Q,fin,.cons _ _ _,.nil,hf,h=>by
  rw [hf]
  exact W.kat_nil h
 | _,_,_,_,i,Q,fin,.cons (ns:=xs) a t r,.cons (ns:=ys) b u r',hf,h=>by
  rw [HT.lexLt_cons] at h
  refine W.kat_cons (wpAny_eqBool_int (W.kat_go (λe1=>W.kat_yes ?_) (λe1=>W.kat_no ?_)))
  ·rw [beq_iff_eq] at e1
   rw [if_pos e1] at h
   exact yl6 r r' (by rw [hf];simp) h
  ·have e1':¬a=b:=by simpa using e1
   rw [if_neg e1'] at h
   cases i with
   | zero =>
    show wpAny (model prog w) A (oneLt' true _ _) Q _ s
    exact oneLt_int h
   | succ i =>
    show wpAny (model prog w) A (oneLt' false _ _) Q _ s
    exact W.kat_one _ _ (PyProof.Rows.lt_int h)
def U4 (h:Heap)(b:Addr)(x:List Int):Prop:=∃us:List Value,IsTup h b us.toArray/\IntsAre us x
theorem U4.at {h h':Heap}{b:Addr}{x:List Int}(p:U4 h b x)(k:∀o,h.get? b=some o->h'.get? b=some o):U4 h' b x:=by
 obtain ⟨us,⟨o,ho,r⟩,i⟩:=p
 exact ⟨us,⟨o,k o ho,r⟩,i⟩
theorem xe6 {b c:Addr}{x y:List Int}(hb:U4 s.heap b x)(hc:U4 s.heap c y){Q:Bool->Shared->Prop}(h:Q (HT.lexLt x y) s):wpAny (model prog w) A (keyLt' (tuples' true) (.ref b) (.ref c)) Q E s:=by
 obtain ⟨us,⟨o,ho,_,n,hd⟩,i⟩:=hb
 obtain ⟨us',⟨o',ho',_,n',hd'⟩,i'⟩:=hc
 refine W.kat_lt ho hd ho' hd' ?_
 rw [aN,aN]
 refine yl6 i i' ?_ h
 rw [ao,ao,i.length,i'.length]
def rkL (rs:List (List Int))(x:List Int):Int:=((rs.filter λy=>HT.lexLt y x).length:Nat)
theorem yf9 {x y z:List Int}(h1:HT.lexLt x y=true)(h2:HT.lexLt y z=true):HT.lexLt x z=true:=by
 cases h:HT.lexLt x z with
 | true=>rfl
 | false=>rw [zy1 (yl7 h2) h] at h1;cases h1
theorem xb8 (rs:List (List Int)){x y:List Int}(h:HT.lexLt y x=false):rkL rs x<=rkL rs y:=by
 unfold rkL
 refine Int.ofNat_le.mpr ?_
 induction rs with
 | nil=>exact af _
 | cons z rs ih =>
  rw [cv,cv]
  cases e:HT.lexLt z x with
  | false =>
   rw [if_neg am]
   split
   ·exact Nat.le_succ_of_le ih
   ·exact ih
  | true =>
   have:HT.lexLt z y=true:=by
    cases e':HT.lexLt z y with
    | true=>rfl
    | false=>rw [zy1 h e'] at e;cases e
   rw [if_pos rfl,if_pos this,ag,ag]
   lia
theorem yo8 (rs:List (List Int)){x y:List Int}(hx:x∈rs)(h:HT.lexLt x y=true):rkL rs x<rkL rs y:=by
 have key:∀l:List (List Int),(l.filter λz=>HT.lexLt z x).length<=(l.filter λz=>HT.lexLt z y).length/\(x∈l->(l.filter λz=>HT.lexLt z x).length<(l.filter λz=>HT.lexLt z y).length):=λl=>by
  induction l with
  | nil=>exact ⟨af _,λz=>by cases z⟩
  | cons z l ih =>
   rw [cv,cv]
   cases e:HT.lexLt z x with
   | true =>
    rw [if_pos rfl,if_pos (yf9 e h),ag,ag]
    refine ⟨by lia,λhz=>?_⟩
    rcases aw.mp hz with q|q
    ·rw [q,yc3] at e
     cases e
    ·have:=ih.2 q
     lia
   | false =>
    rw [if_neg am]
    by_cases e':HT.lexLt z y=true
    ·rw [if_pos e',ag]
     exact ⟨by lia,λ_=>by lia⟩
    ·rw [if_neg e']
     refine ⟨ih.1,λhz=>?_⟩
     rcases aw.mp hz with q|q
     ·rw [←q] at e'
      exact absurd h e'
     ·exact ih.2 q
 unfold rkL
 exact Int.ofNat_lt.mpr ((key rs).2 hx)
theorem yu4 (rs:List (List Int)){x y:List Int}(hx:x∈rs):decide (rkL rs x<rkL rs y)=HT.lexLt x y:=by
 cases h:HT.lexLt x y with
 | true=>exact decide_eq_true (yo8 rs hx h)
 | false=>exact decide_eq_false (bq.mpr (xb8 rs h))
theorem yg8 {h:Heap}{as:List Addr}{rs:List (List Int)}(hp:Paired (U4 h) as rs)(hne:∀r∈rs,r≠[]):∃fs,W.KatTups h (as.map Value.ref) fs/\fs.length=as.length/\∀v∈fs,∃i t,v=Value.int i t:=by
 induction hp with
 | nil=>exact ⟨[],trivial,rfl,λv h=>(by cases h)⟩
 | cons a _ ih =>
  obtain ⟨fs,h1,h2,h3⟩:=ih λr hr=>hne r (aj _ hr)
  obtain ⟨us,⟨o,ho,hc,n,hd⟩,i⟩:=a
  cases i with
  | nil=>exact absurd rfl (hne _ ap)
  | cons x t r =>
   refine ⟨Value.int x t::fs,W.KatTups.cons ho hc hd rfl h1,by rw [ag,ag,h2],λv hv=>?_⟩
   rcases aw.mp hv with z|z
   ·exact ⟨_,_,z⟩
   ·exact h3 v z
theorem zo5 {h h':Heap}{as:List Addr}{rs:List (List Int)}(hp:Paired (U4 h) as rs)(k:∀b∈as,∀o,h.get? b=some o->h'.get? b=some o):Paired (U4 h') as rs:=by
 induction hp with
 | nil=>exact .nil
 | cons f _ ih=>exact .cons (f.at λo eo=>k _ ap o eo) (ih λb hb'=>k b (aj _ hb'))
theorem G8:∀{us:List Value} {x y:List Int},IntsAre us x->IntsAre us y->x=y
 | _,_,_,.nil,.nil=>rfl
 | _,_,_,.cons a t r,.cons _ _ r'=>by rw [G8 r r']
theorem zi6 {h:Heap}{b:Addr}{x y:List Int}(hx:U4 h b x)(hy:U4 h b y):x=y:=by
 obtain ⟨us,⟨o,ho,_,n,hd⟩,i⟩:=hx
 obtain ⟨us',⟨o',ho',_,n',hd'⟩,i'⟩:=hy
 rw [ho] at ho'
 cases ho'
 rw [hd] at hd'
 cases hd'
 exact G8 i i'
def adr:Value->Addr
 | .ref a=>a
 | _=>0
theorem zf9 {a:Addr}{as:List Addr}{rs:List (List Int)}{n:Nat}{P:PySem.Fin->Shared->Prop}(ho:s.heap.get? a=some (seqObj "list" (as.map Value.ref).toArray n)) (hp:Paired (U4 s.heap) as rs) (hne:∀b∈as,b≠a) (hb:∀x∈rs,x≠[]) (h64:as.length<=400000)
  (q:∀(bs:List Addr) (qs:List (List Int)),bs.length=as.length->(∀b∈bs,b∈as)->Paired (U4 s.heap) bs qs->qs.Perm rs->qs.Pairwise (λx y=>HT.lexLt y x=false)->P (.done (.ret .none)) { s with heap:=sortedHeap s.heap a (as.map Value.ref) (bs.map Value.ref).toArray }) :
  wpAny (model prog w) A (Builtin.«list.sort» ⟨[.ref a],[]⟩) P E s:=by
 have hlen:as.length=rs.length:=Paired.length hp
 have h16:=sizeLine_eq
 have hvl:(as.map Value.ref).length=as.length:=aa _
 rw [list_sort_plain]
 have ha:a<s.heap.objs.size:=ai ho
 refine wpAny_bind (listItems_at ho rfl (wpAny_bind (listUpdate_at ho rfl ?_ (by rw [ao];lia) (ax _))))
 obtain ⟨e1,ho1⟩:∃e1,(s.heap.update a (Obj.mapSeq λ_=>#[])).get? a=some (seqObj "list" #[] e1):=⟨_,get?_update_seq ho (λ_=>#[])⟩
 refine wpAny_bind (seqEpoch_at ho1 rfl (wpAny_bind (wpAny_newTuple (wpAny_bind (wpAny_newList (wpAny_holding ?_) (ax _))) (by show (as.map Value.ref).length<=_;lia))))
 have keep:∀b o,b≠a->s.heap.get? b=some o->(((s.heap.update a (Obj.mapSeq λ_=>#[])).push (seqObj "tuple" (as.map Value.ref).toArray 0)).push (seqObj "list" #[] 0)).get? b=some o:=λb o nb eb =>
  ae _ (ae _ ((Heap.get?_update_other _ _ (Ne.symm nb)).trans eb))
 have ho6:(((s.heap.update a (Obj.mapSeq λ_=>#[])).push (seqObj "tuple" (as.map Value.ref).toArray 0)).push (seqObj "list" #[] 0)).get? a=some (seqObj "list" #[] e1):=ae _ (ae _ ho1)
 have hp6:Paired (U4 (((s.heap.update a (Obj.mapSeq λ_=>#[])).push (seqObj "tuple" (as.map Value.ref).toArray 0)).push (seqObj "list" #[] 0))) as rs:=zo5 hp λb hb' o eo=>keep b o (hne b hb') eo
 show wpAny (model prog w) A _ P E { s with heap:=((s.heap.update a (Obj.mapSeq λ_=>(#[]:Array Value))).push (seqObj "tuple" (as.map Value.ref).toArray 0)).push (seqObj "list" #[] 0) }
 dsimp only
 by_cases h2:(as.map Value.ref).toArray.size<2
 ·rw [if_pos h2,if_pos h2]
  refine wpAny_bind (wpAny_pure ?_)
  rw [StateT.run_pure]
  refine wpAny_bind (wpAny_pure ?_)
  dsimp only
  have hz:((as.map Value.ref).toArray.zip (as.map Value.ref).toArray).map (·.2)=(as.map Value.ref).toArray:=by
   apply dh.mp
   rw [cI,Array.toList_zip,aN]
   exact List.map_snd_zip (af _)
  refine wpAny_bind (seqEpoch_at ho6 rfl (wpAny_bind (listUpdate_at ho6 rfl ?_ (ax _) ?_)))
  ·simp only [bne_self_eq_false,bz,if_false]
   have hone:rs.Pairwise (λx y=>HT.lexLt y x=false):=by
    match rs,hlen with
    | [],_=>exact List.Pairwise.nil
    | [x],_=>exact List.pairwise_singleton _ _
    | _::_::r,hl =>
     rw [ao,hvl,hl,ag,ag] at h2
     lia
   have key:=q as rs rfl (λb hb=>hb) hp (List.Perm.refl _) hone
   have key2:∀o,o=(as.map Value.ref).toArray->P (.done (.ret .none)) { s with heap:=sortedHeap s.heap a (as.map Value.ref) o }:=λo e=>by rw [e];exact key
   exact wpAny_pure (key2 _ hz)
  ·show (((as.map Value.ref).toArray.zip (as.map Value.ref).toArray).map (·.2)).size<=_
   rw [hz,ao]
   lia
 ·rw [if_neg h2,if_neg h2]
  rw [ao,hvl] at h2
  obtain ⟨fs,t1,t2,t3⟩:=yg8 hp6 hb
  refine wpAny_bind (W.kat_kind (T:=.type "int") t1 (by lia) (λv hv=>?_) rfl ?_)
  ·obtain ⟨i,t,rfl⟩:=t3 v hv
   exact W.Looks.of_pure rfl
  show wpAny _ _ ((sortRuns').run (SortSt.mk' (tuples' true) _ _ _ _) >>= _) _ _ _
  obtain ⟨rowOf,hrow⟩:∃rowOf:Addr->List Int,∀i b,as[i]?=some b->rs[i]?=some (rowOf b):=by
   refine ⟨λb=>rs.getD (as.idxOf b) [],λi b hi=>?_⟩
   have hil:=(ar.mp hi).1
   have hbm:=ay hi
   have h0:as.idxOf b<as.length:=List.idxOf_lt_length_iff.mpr hbm
   have e0:as[as.idxOf b]?=some b:=by rw [ah h0];simp
   have q1:=h9 hp i b _ hi (ah (show i<rs.length by lia))
   have q2:=h9 hp _ b _ e0 (ah (show as.idxOf b<rs.length by lia))
   rw [ah (show i<rs.length by lia),zi6 q1 q2]
   simp [ah (show as.idxOf b<rs.length by lia)]
  have hat:∀b∈as,rowOf b∈rs/\U4 s.heap b (rowOf b)/\U4 (((s.heap.update a (Obj.mapSeq λ_=>#[])).push (seqObj "tuple" (as.map Value.ref).toArray 0)).push (seqObj "list" #[] 0)) b (rowOf b):=λb hb'=>by
   obtain ⟨i,hi⟩:=bL hb'
   have hr:=hrow i b hi
   exact ⟨ay hr,h9 hp i _ _ hi hr,h9 hp6 i _ _ hi hr⟩
  have hmap:as.map rowOf=rs:=cm λi=>by
   rw [au]
   cases e:as[i]? with
   | none=>rw [bB (by have:=cj.mp e;lia)];rfl
   | some b=>rw [hrow i b e];rfl
  have hxs:((as.map Value.ref).toArray.zip (as.map Value.ref).toArray).toList=as.map λb=>((Value.ref b,Value.ref b):Keyed):=by
   rw [Array.toList_zip,aN]
   clear hp hlen ho hne hb q hp6 t1 t2 hrow hat hmap keep ho1 ho6 hvl h64 h2
   induction as with
   | nil=>rfl
   | cons b as ih=>rw [aE,aE,cF,ih]
  have cmp:SortG.Cmp (model prog w) A E ({ s with heap:=((s.heap.update a (Obj.mapSeq λ_=>(#[]:Array Value))).push (seqObj "tuple" (as.map Value.ref).toArray 0)).push (seqObj "list" #[] 0) }:Shared) (tuples' true) (λx=>∃b∈as,x=(Value.ref b,Value.ref b)) (λx=>rkL rs (rowOf (adr x.1))):=by
   refine ⟨?_⟩
   rintro x y st Q ⟨b,hb',rfl⟩ ⟨b',hb'',rfl⟩ hk hq
   rw [lt'_eq]
   refine wpS_bind (wpS_get ?_)
   rw [hk]
   refine wpS_bind (wpS_lift (wpAny_attempt (xe6 (hat b hb').2.2 (hat b' hb'').2.2 ⟨rfl,wpS_pure ?_⟩)))
   have e:=yu4 rs (hat b hb').1 (y:=rowOf b')
   have hq:Q (some (decide (rkL rs (rowOf b)<rkL rs (rowOf b')))) st:=hq
   rw [e] at hq
   exact hq
  refine wpAny_bind (wpAny_mono (SortG.sortRuns_ok cmp (λx hx=>?_) (Q:=λ_ st'=>∃(bs:List Addr) (qs:List (List Int)),(arrOf st').map (·.2)=(bs.map Value.ref).toArray/\failedOf st'=none/\bs.length=as.length/\(∀b∈bs,b∈as)/\Paired (U4 s.heap) bs qs/\qs.Perm rs/\qs.Pairwise (λx y=>HT.lexLt y x=false)) λys pd' g' hperm hsz hup=>?_) ?_ λ_ _ e=>e)
  ·rw [hxs] at hx
   obtain ⟨b,hb',rfl⟩:=aI.mp hx
   exact ⟨b,hb',rfl⟩
  ·rw [hxs] at hperm
   have form:∀x∈ys.toList,∃b∈as,x=(Value.ref b,Value.ref b):=λx hx=>by
    obtain ⟨b,hb',e⟩:=aI.mp (hperm.mem_iff.mp hx)
    exact ⟨b,hb',e.symm⟩
   have hbp:(ys.toList.map λx=>adr x.1).Perm as:=by
    have:=hperm.map λx=>adr x.1
    rw [aW,show (List.map ((λx:Keyed=>adr x.1) ∘ λb=>(Value.ref b,Value.ref b)) as)=as from (ba λb _=>rfl).trans (bX as)] at this
    exact this
   have hmem:∀b∈ys.toList.map λx=>adr x.1,b∈as:=λb hb'=>hbp.mem_iff.mp hb'
   refine ⟨ys.toList.map λx=>adr x.1,(ys.toList.map λx=>adr x.1).map rowOf,?_,rfl,hbp.length_eq,hmem,?_,?_,?_⟩
   ·apply dh.mp
    rw [cI,aN,aW]
    refine ba λx hx=>?_
    obtain ⟨b,_,rfl⟩:=form x hx
    rfl
   ·have:∀l:List Addr,(∀b∈l,b∈as)->Paired (U4 s.heap) l (l.map rowOf):=λl=>by
     induction l with
     | nil=>exact λ_=>.nil
     | cons b l ih=>exact λhl=>.cons (hat b (hl b ap)).2.1 (ih λc hc=>hl c (aj _ hc))
    exact this _ hmem
   ·have:=hbp.map rowOf
    rwa [hmap] at this
   ·rw [aW]
    refine aH.mpr (bQ.mpr λi j hi hj hij=>?_)
    rw [ak] at hi hj
    have h4:=hup i j (ax _) (bI hij) (by rw [br,←hsz];exact hj)
    have e:∀k (hk:k<ys.size),ys.getD k SortG.dk=ys.toList[k]'(by simpa using hk):=λk hk=>by simp [Array.getD,hk]
    unfold SortG.Ky at h4
    rw [e i hi,e j hj] at h4
    have hm:(rowOf (adr (ys.toList[j]'(by simpa using hj)).1))∈rs:=by
     obtain ⟨b,hb',e'⟩:=form _ (List.getElem_mem (by simpa using hj))
     rw [e']
     exact (hat b hb').1
    cases e2:HT.lexLt (rowOf (adr (ys.toList[j]'(by simpa using hj)).1)) (rowOf (adr (ys.toList[i]'(by simpa using hi)).1)) with
    | false=>exact e2
    | true =>
     exact absurd (yo8 rs hm e2) (bq.mpr h4)
  ·rintro ⟨⟨⟩,st'⟩ s' ⟨rfl,bs,qs,hout,hf,hbl,hbm,hpq,hqp,hqs⟩
   dsimp only
   have hol:((arrOf st').map (·.2)).size<=sizeLine:=by
    rw [hout,ao,aa]
    lia
   refine wpAny_bind (seqEpoch_at ho6 rfl (wpAny_bind (listUpdate_at ho6 rfl ?_ (ax _) (Nat.le_succ_of_le hol))))
   rw [hf]
   simp only [bne_self_eq_false,bz,if_false]
   have key:=q bs qs hbl hbm hpq hqp hqs
   have key2:∀o,o=(bs.map Value.ref).toArray->P (.done (.ret .none)) { s with heap:=sortedHeap s.heap a (as.map Value.ref) o }:=λo e=>by rw [e];exact key
   exact wpAny_pure (key2 _ hout)
theorem ya0 {l:Addr}{as:List Addr}{rs:List (List Int)}{R:Value->Shared->Prop}(hl:s.heap.IsList l (as.map Value.ref).toArray)(hp:Paired (U4 s.heap) as rs)(hb:∀x∈rs,x≠[])(h64:as.length<=400000)
  (q:∀(bs:List Addr) (qs:List (List Int)),bs.length=as.length->(∀b∈bs,b∈as)->Paired (U4 s.heap) bs qs->qs.Perm rs->qs.Pairwise (λx y=>HT.lexLt y x=false)->R (.ref (gat s.heap (as.map Value.ref)).objs.size) { s with heap:=sortedHeap ((gat s.heap (as.map Value.ref)).push (seqObj "list" (as.map Value.ref).toArray 0)) (gat s.heap (as.map Value.ref)).objs.size (as.map Value.ref) (bs.map Value.ref).toArray }) :
  wpAny (model prog w) A (call (.builtin "sorted") [.ref l]) R E s:=by
 have h16:=sizeLine_eq
 have hvl:(as.map Value.ref).length=as.length:=aa _
 have hn:((gat s.heap (as.map Value.ref)).push (seqObj "list" (as.map Value.ref).toArray 0)).get? (gat s.heap (as.map Value.ref)).objs.size=some (seqObj "list" (as.map Value.ref).toArray 0):=aq _ rfl
 have lt:∀b∈as,b<s.heap.objs.size/\∃o,s.heap.get? b=some o:=λb hb'=>by
  obtain ⟨i,hi⟩:=bL hb'
  have hi2:=(ar.mp hi).1
  obtain ⟨us,⟨o,ho,_⟩,_⟩:=h9 hp i b _ hi (ah (by rw [←Paired.length hp];exact hi2))
  exact ⟨ai ho,o,ho⟩
 refine Calls.call_function_entry kind_sorted plain_sorted entry_sorted (args_sorted1 (.ref l)) ?_
 unfold Builtin.«sorted»
 refine wpAny_bind (m:=checkCount "sorted" 1 1 _) (wpAny_pure (wpAny_bind (collect_list hl (wpAny_bind (wpAny_newList ?_ (by lia))) (by lia))))
 show wpAny _ _ _ _ _ { s with heap:=(gat s.heap (as.map Value.ref)).push (seqObj "list" (as.map Value.ref).toArray 0) }
 refine wpAny_bind (wpAny_holding (wpAny_call_entry slot_list_sort ⟨_,hn,rfl⟩ entry_list_sort (zf9 (s:={ s with heap:=(gat s.heap (as.map Value.ref)).push (seqObj "list" (as.map Value.ref).toArray 0) }) hn (zo5 hp λb hb' o eo=>ae _ (za7 eo)) (λb hb' z=>?_) hb h64 λbs qs a1 a2 a3 a4 a5=>⟨_,rfl,wpAny_pure ⟨_,rfl,q bs qs a1 a2 (zo5 a3 λb hb' o eo=>?_) a4 a5⟩⟩) (args_list_sort _)))
 ·have h5:=(lt b hb').1
  have h6:=zc6 s.heap (as.map Value.ref)
  have h7:b=(gat s.heap (as.map Value.ref)).objs.size:=z
  rw [h7,h6] at h5
  exact aF _ (Nat.lt_of_succ_lt h5)
 ·obtain ⟨_,o',ho'⟩:=lt b (a2 b hb')
  have:=ae (seqObj "list" (as.map Value.ref).toArray 0) (za7 (vs:=as.map Value.ref) ho')
  rw [show ((gat s.heap (as.map Value.ref)).push (seqObj "list" (as.map Value.ref).toArray 0)).get? b=some o from eo] at this
  rw [ho',this]
end
section
variable {X:Cx}
theorem G1:k9 X (.builtin "sorted") (λxs H Q=>∃(p:Addr) (as:List Addr) (rs:List (List Int)),xs=[.ref p]/\SqL X.K H p (as.map V.ref)/\Paired (λa x=>H a=some (.tup (x.map V.int))) as rs/\(∀x∈rs,x≠[])/\rs.length<=400000 /\
  ∀(l:Addr) (bs:List Addr) (qs:List (List Int)),H l=none->qs.Perm rs->qs.Pairwise (λx y=>HT.lexLt y x=false)->Paired (λa x=>H a=some (.tup (x.map V.int))) bs qs->Q (.ref l) (upd H l (.lst (bs.map V.ref)))):=by
 intro pins s σ H xs us Q I r h
 obtain ⟨p,as,rs,rfl,hq,hp,hb,h64,q⟩:=h
 obtain ⟨u,rfl,rx⟩:=X8 r
 cases rx
 obtain ⟨its,r1,p1,hz⟩:=I.list hq
 have hits:=N9 r1
 subst hits
 have hlen:as.length=rs.length:=Paired.length hp
 have row:∀b x,H b=some (.tup (x.map V.int))->U4 s.heap b x:=λb x hx=>by
  obtain ⟨us,r2,p2,_⟩:=I.tuple (SqT.of hx)
  exact ⟨us,p2,W7 r2⟩
 have hpr:Paired (U4 s.heap) as rs:=Paired.imp' (λb x hx=>row b x hx) hp
 refine ya0 p1.isList hpr hb (by lia) λbs qs a1 a2 a3 a4 a5=>?_
 have hsz:=zc6 s.heap (as.map Value.ref)
 obtain ⟨e,he⟩:=sortedHeap_at (vs:=as.map Value.ref) (out:=(bs.map Value.ref).toArray) (n:=0) (show ((gat s.heap (as.map Value.ref)).push (seqObj "list" (as.map Value.ref).toArray 0)).get? (gat s.heap (as.map Value.ref)).objs.size=some (seqObj "list" (as.map Value.ref).toArray 0) from aq _ rfl)
 have hold:∀b o,s.heap.get? b=some o->(sortedHeap ((gat s.heap (as.map Value.ref)).push (seqObj "list" (as.map Value.ref).toArray 0)) (gat s.heap (as.map Value.ref)).objs.size (as.map Value.ref) (bs.map Value.ref).toArray).get? b=some o:=λb o z=>by
  have hlt:=ai z
  have h1:b<(gat s.heap (as.map Value.ref)).objs.size:=hsz.symm ▸ aT hlt
  rw [sortedHeap_old (av h1) (by rw [size_push'];exact aT h1),Heap.get?_push_ne _ _ _ (av h1)]
  exact za7 z
 have hz2:=p7
 refine ⟨.ref (gat s.heap (as.map Value.ref)).objs.size,_,I.laid (t':=s.toks) hold (by lia) (show p4 X.prog X.w _ _ _ (.lst (bs.map V.ref)) from ⟨by rw [aa];lia,bs.map Value.ref,e,?_,he⟩),rfl,q _ bs qs (I.hok.fresh (by lia)) a4 a5 ?_⟩
 ·clear a1 a2 a3 he hold
  induction bs with
  | nil=>exact .nil
  | cons b r ih=>exact .cons rfl ih
 ·
  clear a4 a5 he hold a1
  induction a3 with
  | nil=>exact .nil
  | @cons b x bs qs f _ ih =>
   refine .cons ?_ (ih λc hc=>a2 c (aj _ hc))
   obtain ⟨i,hi⟩:=bL (a2 b ap)
   have hi2:=(ar.mp hi).1
   have hx:=h9 hp i b _ hi (ah (show i<rs.length by lia))
   rw [zi6 f (row b _ hx)]
   exact hx
end
section
variable {X:Cx}{e st:Expr}{te:TE}{ts:TO}{pos p2:Pos}
end
section
variable {X:Cx}{iter elt:Expr}{scope:Scope}{pos:Pos}{wi:TI}{te:CT TE}
end
section
variable {X:Cx}
end
section
variable {X:Cx}
theorem yo6 {i:Nat}{y:Str}{C:Addr}{k j:Nat}{m:Str}{ps:List Str}{sp:Sp}{o e:Expr}{es:List Expr}{ta:TE}{t:TA}{apos cpos pos pos':Pos}{pl:Sem Bool}(c:Cls X.K C)(kn:ye1 X.prog X.w X.K X.mg X.base k C m ps sp)(hr:Z2 j X.A)(ho:PE X.nox o ta)(ha:PA X.nox (e::es) t)(hN:X.N.Nodup)(hi:X.N[i]?=some y)(hx:Loc X.env.scope y)(hj:k<=j:=by decide)
  (hst:starEach (e::es) X.env=(false,eval e X.env)::starEach es X.env:=by rfl) (hpl:(backTo cpos (starEach es X.env)).any (·.1)=false:=by rfl)
  (ht:eval (.Call (.Attribute o m apos) (e::es) [] cpos) X.env=(do
   let v ←eval o X.env
   standAt apos.atName
   let (f,first) ←holding [v] (getMethod v m pl)
   callWith cpos f first (backTo cpos (starEach (e::es) X.env)) (backToKw cpos (keywordEach [] X.env))):=by rfl)
  (hs:swapsWith (.Call (.Attribute o m apos) (e::es) [] cpos) (some (.Name y pos')) pos.line X.env=pure false:=by rfl)
  (hf:X.fn y=true∨X.env.scope.names.lookup y=some .local:=by first|exact .inl rfl|exact .inr rfl|assumption) :
  QS X (.Assign [.Name y pos'] (.Call (.Attribute o m apos) (e::es) [] cpos) pos) (λEX D σ H=>ta σ H λx H1=>∃a dx fs,x=.ref a/\H1 a=some (.ins C dx fs)/\fs.lookup m=none/\t σ H1 λvs H2=>sp (x::vs) H2 (λv H3=>D.nx (σ.set i (some v)) H3) (EX σ)):=by
 intro pins s σ H D EX I h
 obtain ⟨f,fd,G,hm,hb⟩:=kn
 refine wpAny_Assign_Name (W.methodCall_KW (pl:=pl) (wpAny_mono (ho pins s σ H _ (I.wish _) h) (λu s1 ⟨x,H1,I1,rx,a,dx,fs,ex,ea,l,q⟩=>?_) λ_ _ z=>z.elim) ht) hs
 subst ex
 obtain rfl:u=Value.ref a:=rx
 have I1':Inv X pins σ H1 s1:=I1.unwish
 refine zc7 I1' ea c hm l ?_
 refine W.callWith_K (first:=[.ref a]) (h₀:=X.base) I.ok.mod.kin hm.kp (wpAny_mono (ha cpos pins s1 σ H1 _ (I1'.wish _) q) (λus s2 ⟨vs,H2,I2,r,q2⟩=>⟨I2.kIn,?_⟩) λ_ _ z=>z.elim) hst hpl
 have I2':Inv X pins σ H2 s2:=I2.unwish
 have r2:t9 (V.ref a::vs) (Value.ref a::us):=.cons rfl r
 have hl:((Value.ref a::us)++[]).length=ps.length:=by rw [bu,←r2.length];exact G.len _ _ _ _ q2
 have bb:=hb s2 (Value.ref a::us) I2'.kIn hl
 rw [bu] at bb
 refine wpAny_call (codeAny_mono (G.run X.A X.stack s2 H2 ⟨Value.ref a::us,[]⟩ (Value.ref a::us) (V.ref a::vs) _ (EX σ) (hr.mono hj) I2'.env0 bb r2 q2) λrr s' hq=>?_)
 cases rr with
 | error ex=>exact ⟨σ,H2,s2,I2',hq⟩
 | ok fl =>
  cases fl with
  | ret u =>
   obtain ⟨v,H',I3,r3,q3⟩:=I2'.after hq
   exact zf3 I3 hN hi hx r3 (λs4 I4=>⟨_,H',I4,q3⟩) hf
  | next=>exact False.elim hq
  | brk=>exact False.elim hq
  | cont=>exact False.elim hq
theorem zl7:IxR X (λx y H Q=>∃p xs i v,x=.ref p/\y=.int i/\(SqL X.K H p xs∨SqT X.K H p xs)/\atI xs i=some v/\Q v H):=by
 intro value slice pins s σ H x y v u Q I rx ry h e
 obtain ⟨p,xs,i,w',e1,e2,hs,ha,q⟩:=h
 rcases hs with hs|hs
 ·exact W0 value slice pins s σ H x y v u Q I rx ry ⟨p,xs,i,w',e1,e2,hs,ha,q⟩ e
 ·exact zx8 value slice pins s σ H x y v u Q I rx ry ⟨p,xs,i,w',e1,e2,hs,ha,q⟩ e
theorem zx0 (hc:X.calm=true)(hu:X.A.units+64<cLine):k9 X (.type "set") (λxs H Q=>∃(p:Addr) (as:List Addr) (kss:List (List Key)),xs=[.ref p]/\SqL X.K H p (as.map V.ref)/\Paired (λa ks=>H a=some (.tup (ks.map kV))) as kss/\kss.length<=306 /\
  ∀(l:Addr) (n:Nat),H l=none->n<=kss.length->(n=kss.length↔kss.Nodup)->Q (.ref l) (upd H l (zw8 l n))):=by
 intro pins s σ H xs us Q I r h
 obtain ⟨p,as,kss,rfl,hq,hp,hle,q⟩:=h
 obtain ⟨u,rfl,rx⟩:=X8 r
 cases rx
 obtain ⟨its,r1,p1,hz⟩:=I.list hq
 have hl:as.length=kss.length:=Paired.length hp
 have hits:=N9 r1
 obtain ⟨z1,z2⟩:=zp6 (as:=kss) (bs:=as) hl.symm
 have hzl:(kss.zip as).length=kss.length:=by
  have:=congrArg List.length z1
  rwa [aa] at this
 refine M7 (knd:=c8 X.prog X.w) (kss.zip as) (I.ok.hd hc) (by lia) p1.isList ?_ (λx hx=>?_) (by lia) λh' tk n hS hn hnd kp=>?_
 ·rw [aN,hits]
  conv=>lhs;rw [←z2]
  rw [aW]
  rfl
 ·have e:=zp5 hp x hx
  obtain ⟨_,it,rv,o,ho,hcl,n,hd⟩:=I.hok _ _ e
  exact ⟨o,it.toArray,n,ho,hcl,hd.1,by rw [aN];exact D3 rv⟩
 ·rw [z1,hzl] at hnd
  have hS':=hS
  obtain ⟨o,es,ep,t,ho,_⟩:=hS'
  refine ⟨.ref s.heap.objs.size,_,I.laid (t':=tk) kp (af _) (show p4 X.prog X.w _ h' _ (zw8 s.heap.objs.size n) from ⟨hS,⟨o,ho⟩,λh1 h2 ⟨o,es,ep,t,ho,rr⟩ k=>⟨o,es,ep,t,k o ho,rr⟩⟩),rfl,q _ n (I.hok.fresh (af _)) (by lia) hnd⟩
theorem zq0 {g:Value}{r1 r2:List V->Hp->VK->Prop}(h1:k9 X g r1)(h2:k9 X g r2):k9 X g (λxs H Q=>r1 xs H Q∨r2 xs H Q):=by
 intro pins s σ H xs us Q I r h
 rcases h with h|h
 ·exact h1 pins s σ H xs us Q I r h
 ·exact h2 pins s σ H xs us Q I r h
end
section
variable {X:Cx}
theorem yz8 {g:Value->Value->Sem Value}{r1 r2:R2}(h1:OpR X g r1)(h2:OpR X g r2):OpR X g (λx y H Q=>r1 x y H Q∨r2 x y H Q):=by
 intro pins s σ H x y v u Q I rx ry h
 rcases h with h|h
 ·exact h1 pins s σ H x y v u Q I rx ry h
 ·exact h2 pins s σ H x y v u Q I rx ry h
theorem yt6 (hu:X.A.units+64<cLine):OpR X (compareOp .NotEq) (λx y H Q=>∃a b kvs,x=.ref a/\y=.ref b/\H a=some (.dK kvs)/\H b=some (.dK kvs)/\(kvs=[]∨∃k i,kvs=[(k,.int i)])/\Q (.bl false) H):=by
 intro pins s σ H x y v u Q I rx ry h
 obtain ⟨a,b,kvs,rfl,rfl,ha,hb,hk,q⟩:=h
 cases rx
 cases ry
 obtain ⟨z1,n1,vs1,r1,d1⟩:=yj1 I.hok ha
 obtain ⟨z2,n2,vs2,r2,d2⟩:=yj1 I.hok hb
 rcases hk with rfl|⟨k,i,rfl⟩
 ·cases r1
  cases r2
  exact W.keq_ne n1 n2 d1 d2 (by lia) (λ_=>.nil) ⟨.bl _,H,I,rfl,q⟩
 ·cases r1 with
  | cons e1 r1 =>
  cases r1
  cases r2 with
  | cons e2 r2 =>
  cases r2
  rename_i x1 x2
  obtain ⟨k1,v1⟩:=x1
  obtain ⟨k2,v2⟩:=x2
  obtain ⟨f1,g1⟩:=e1
  obtain ⟨f2,g2⟩:=e2
  dsimp only at f1 f2 g1 g2
  subst f1 f2
  obtain ⟨t1,rfl⟩:=(show ∃t,v1=Value.int i t from g1)
  obtain ⟨t2,rfl⟩:=(show ∃t,v2=Value.int i t from g2)
  refine W.keq_ne (r:=(i==i)&&true) n1 n2 d1 d2 (by lia) (λ_=>.hit (by unfold valueAt;rw [List.find?_cons_of_pos (by exact decide_eq_true rfl)];rfl) (PySem.SeqAt.EqAt.int_int _ _ _ _) .nil) ?_
  rw [beq_self_eq_true]
  exact ⟨.bl _,H,I,rfl,q⟩
end
end L2
namespace TM
def IsT (n:Nat)(t:List Nat):Prop:=t.Perm (List.range n)
theorem IsT.length {n:Nat}{t:List Nat}(h:IsT n t):t.length=n:=by rw [List.Perm.length_eq h,aS]
theorem IsT.nodup {n:Nat}{t:List Nat}(h:IsT n t):t.Nodup:=(List.Perm.nodup_iff h).mpr cr
theorem IsT.range (n:Nat):IsT n (List.range n):=List.Perm.refl _
theorem B9:∀{t l:List Nat},t.Nodup->(∀x∈t,x∈l)->l.length<=t.length->t.Perm l
 | [],l,_,_,h=>by
  have e:l=[]:=bR.mp (Nat.le_zero.mp h)
  subst e
  exact List.Perm.refl _
 | a::r,l,hn,hs,h=>by
  obtain ⟨h1,h2⟩:=bD.mp hn
  have ha:a∈l:=hs a ap
  have p:=List.perm_cons_erase ha
  have ih:r.Perm (l.erase a):=B9 h2 (λx hx=>by
   have hx':=hs x (aj _ hx)
   have ne:x≠a:=λe=>h1 (e ▸ hx)
   rcases aw.mp ((List.Perm.mem_iff p).mp hx') with e|e
   ·exact absurd e ne
   ·exact e) (by rw [cV ha];simp only [ag] at h;lia)
  exact (List.Perm.cons a ih).trans p.symm
theorem isT_of {n:Nat}{t:List Nat}(hl:t.length=n)(hn:t.Nodup)(hlt:∀x∈t,x<n):IsT n t :=
 B9 hn (λx hx=>aR.mpr (hlt x hx)) (by rw [hl,aS];exact af _)
theorem zc2 {α:Type}:∀(l:List α) (i:Nat) (x:α),l[i]?=some x->(x::l.eraseIdx i).Perm l
 | [],_,_,h=>by cases h
 | a::r,0,x,h=>by
  cases h
  exact List.Perm.refl _
 | a::r,i+1,x,h=>by
  have ih:=zc2 r i x (by simpa using h)
  rw [List.eraseIdx_cons_succ]
  exact (List.Perm.swap a x _).trans (List.Perm.cons a ih)
theorem draw_perm {n:Nat}{row left:List Nat}{i x:Nat}(h:IsT n (row++left))(hx:left[i]?=some x):IsT n ((row++[x])++left.eraseIdx i):=by
 refine List.Perm.trans ?_ h
 rw [bn]
 exact List.Perm.append_left row (zc2 left i x hx)
end TM
namespace TM
end TM
namespace TM
def it (t:List Nat):Nat->Nat->Nat
 | 0,x=>x
 | k+1,x=>t.getD (it t k x) 0
section
variable {n:Nat}{t:List Nat}(h:IsT n t)
include h
end
def per (t:List Nat)(x:Nat):Nat:=((List.range t.length).find? λj=>it t (j+1) x==x).getD 0+1
section
variable {n:Nat}{t:List Nat}(h:IsT n t)
include h
end
def cyc (t:List Nat)(x:Nat):List Nat:=(List.range (per t x)).map λj=>it t j x
section
variable {n:Nat}{t:List Nat}(h:IsT n t)
include h
end
def Met (t:List Nat)(k x:Nat):Prop:=∃y,y<k/\x∈cyc t y
def pw (t:List Nat)(m:Int)(x:Nat):Nat:=it t (m % (per t x:Int)).toNat x
end TM
namespace TM
section
variable {n:Nat}{t:List Nat}(hT:IsT n t)
include hT
end
end TM
namespace TM
section
variable {n:Nat}{t:List Nat}(hT:IsT n t)
include hT
end
end TM
namespace TM
end TM
namespace TM
section
variable {n:Nat}{t:List Nat}(hT:IsT n t)
include hT
end
section
variable {n:Nat}{t b c:List Nat}(hT:IsT n t)(hB:IsT n b)
include hT hB
end
end TM
namespace TM
section
variable {n a b:Nat}{t u:List Nat}(hT:IsT n t)(hU:IsT n u)
include hT hU
end
section
variable {n:Nat}{t:List Nat}(hT:IsT n t)
include hT
end
end TM
namespace TM
inductive Ln where
 | still|told (k:Nat)|behind (i j:Nat)|back (i:Nat)
 deriving DecidableEq
def Ln.refs:Ln->List Nat
 | .still=>[]
 | .told _=>[]
 | .behind i j=>[i,j]
 | .back i=>[i]
def Ln.Ok (c p:Nat):Ln->Prop
 | .still=>True
 | .told k=>k<c
 | .behind i j=>i<p/\j<p
 | .back i=>i<p
def Rec (c:Nat)(ls:List Ln):Prop:=∀(p:Nat) (l:Ln),ls[p]?=some l->l.Ok c p
inductive yb0 (ls:List Ln):Nat->Nat->Prop
 | self (p:Nat):yb0 ls p p
 | by {p r q:Nat} {l:Ln}:ls[p]?=some l->r∈l.refs->yb0 ls r q->yb0 ls p q
open Classical in
noncomputable def nb (ls:List Ln) (q:Nat):Bool:=decide (yb0 ls (ls.length-1) q)
def pos (b:Nat->Bool)(r:Nat):Nat:=((List.range r).filter b).length
def Ln.ren (f:Nat->Nat):Ln->Ln
 | .still=>.still
 | .told k=>.told k
 | .behind i j=>.behind (f i) (f j)
 | .back i=>.back (f i)
def few (b:Nat->Bool)(ls:List Ln)(k:Nat):List Ln:=((List.range k).filter b).map λp=>(ls.getD p .still).ren (pos b)
section
variable {c:Nat}{ls:List Ln}(hR:Rec c ls)(hne:ls≠[])
include hR hne
noncomputable def stay (ls:List Ln):List Ln:=few (nb ls) ls ls.length
end
def bkT (n:Nat)(t:List Nat):List Nat:=(List.range n).map λy=>t.idxOf y
def xh3 (s t:List Nat):List Nat:=s.map λx=>t.getD x 0
def Ln.mk (n:Nat)(ms:List (List Nat))(made:List (List Nat)):Ln->List Nat
 | .still=>List.range n
 | .told k=>ms.getD k []
 | .behind i j=>xh3 (made.getD i []) (made.getD j [])
 | .back i=>bkT n (made.getD i [])
end TM
namespace TM
section
variable {α:Type}
def Loc (d:α)(g:Ln->List α->α):Prop:=∀(l:Ln) (m1 m2:List α) (f:Nat->Nat),(∀r∈l.refs,m1.getD r d=m2.getD (f r) d)->g l m1=g (l.ren f) m2
end
def step (n:Nat)(ms:List (List Nat))(x:Int):List Nat:=if 0<=x then ms.getD x.toNat [] else bkT n (ms.getD (-1-x).toNat [])
section
variable {n:Nat}
variable {ms:List (List Nat)}(hms:∀t∈ms,IsT n t)
include hms
end
end TM
namespace Tb
open PySem L2
def tI (t:List Nat):List V:=t.map λ(x:Nat)=>V.int x
theorem i8 (t:List Nat):(tI t).length=t.length:=aa _
theorem yq1 (t:List Nat)(i:Nat):(tI t)[i]?=(t[i]?).map λ(x:Nat)=>V.int x:=au ..
theorem yv0 {t:List Nat}{i:Nat}{x:V}(h:(tI t)[i]?=some x):∃p,t[i]?=some p/\x=V.int p:=by
 rw [yq1] at h
 cases q:t[i]? with
 | none=>rw [q] at h;cases h
 | some p=>rw [q] at h;exact ⟨p,rfl,(Option.some.inj h).symm⟩
theorem yw7 {t:List Nat}{i p:Nat}(h:t[i]?=some p):(tI t)[i]?=some (V.int p):=by rw [yq1,h];rfl
theorem zk1 (s t:List Nat):tI (s++t)=tI s++tI t:=bo
theorem zv7:∀(t:List Nat) (i:Nat),(tI t).eraseIdx i=tI (t.eraseIdx i)
 | [],_=>rfl
 | _::_,0=>rfl
 | a::r,i+1=>by
  have ih:=zv7 r i
  show V.int a::(tI r).eraseIdx i=V.int a::tI (r.eraseIdx i)
  rw [ih]
theorem yq2:∀(t:List Nat) (i x:Nat),(tI t).set i (V.int x)=tI (t.set i x)
 | [],_,_=>rfl
 | _::_,0,_=>rfl
 | a::r,i+1,x=>by
  have ih:=yq2 r i x
  show V.int a::(tI r).set i (V.int x)=V.int a::tI (r.set i x)
  rw [ih]
theorem zv8 (n:Nat):W8 0 n=tI (List.range n):=by
 unfold W8 tI
 apply ba
 intro x _
 rw [dB]
theorem yv1 (t:List Nat)(n:Nat):(tI t).take n=tI (t.take n):=(cU ..).symm
theorem ze8 {n:Nat}(h:n<=1000):n<=sizeLine:=bI (W5 h)
theorem G9 {n i:Nat}(h:i<n):ixN n ((i:Nat):Int)=some i:=by
 unfold ixN
 rw [if_pos (Int.natCast_nonneg i),if_pos (by lia)]
 rfl
theorem yu8 {n i:Nat}(h:i<n):seqIndex? ((i:Nat):Int) n=some i:=(zl6 (G9 h)).1
theorem z6 {H:Hp}{p:Addr}(h:H p=none)(o:HO):z9 H (upd H p o):=λb u q=>by rw [u9 (u8 q h)];exact q
theorem n8 {H H':Hp}{p:Addr}(s:z9 H H')(h:H p=none)(o:HO):z9 H (upd H' p o):=λb u q=>by rw [u9 (u8 q h)];exact s b u q
def i6 (T U:String):Option Bool:=if (Value.type T==Value.type U)=true then some true else if W.kitMeta U=true then (PySem.fastBuiltinMro T).map (·.contains (Value.type U)) else none
theorem W9 {K:W.Frag}{T U:String}{b:Bool}(h:i6 T U=some b):W.kitOne K (.type T) (.type U)=some b:=h
theorem t7 {i j:Int}:decide (V.int i=V.int j)=decide (i=j):=decide_eq_decide.mpr ⟨λz=>by injection z,λz=>by rw [z]⟩
theorem P4:i6 "tuple" "tuple"=some true:=by decide +kernel
structure Blt (mg:Str->Option Value):Prop where
 len:mg "len"=none
 range:mg "range"=none
 list:mg "list"=none
 tuple:mg "tuple"=none
 isinstance:mg "isinstance"=none
 int:mg "int"=none
 bool:mg "bool"=none
 str:mg "str"=none
 enumerate:mg "enumerate"=none
 sorted:mg "sorted"=none
 sum:mg "sum"=none
 all:mg "all"=none
 set:mg "set"=none
 reversed:mg "reversed"=none
 divmod:mg "divmod"=none
 max:mg "max"=none
 min:mg "min"=none
theorem i5:bootBuiltins "len"=some (.builtin "len"):=by decide +kernel
theorem zp9:bootBuiltins "range"=some (.type "range"):=by decide +kernel
theorem G0:bootBuiltins "list"=some (.type "list"):=by decide +kernel
theorem l6:bootBuiltins "tuple"=some (.type "tuple"):=by decide +kernel
theorem u5:bootBuiltins "isinstance"=some (.builtin "isinstance"):=by decide +kernel
theorem yi4:bootBuiltins "int"=some (.type "int"):=by decide +kernel
theorem yb3:bootBuiltins "bool"=some (.type "bool"):=by decide +kernel
theorem N0:bootBuiltins "sorted"=some (.builtin "sorted"):=by decide +kernel
theorem zw9:bootBuiltins "all"=some (.builtin "all"):=by decide +kernel
theorem zk6:bootBuiltins "set"=some (.type "set"):=by decide +kernel
theorem zi1:bootBuiltins "divmod"=some (.builtin "divmod"):=by decide +kernel
theorem yx9:bootBuiltins "max"=some (.builtin "max"):=by decide +kernel
theorem yy0:bootBuiltins "min"=some (.builtin "min"):=by decide +kernel
def zp7 (mg:Str->Option Value)(x:Str)(v:V):Prop:=∃u,mg x=some u/\o6 v u
theorem yc6 {X:Cx}{x:Str}{v:V}{pos:Pos}(g:zp7 X.mg x v)(hg:Gl X x)(hd:(x==("__debug__":Str))=false:=by decide):PE X (.Name x pos) (tC v):=by
 obtain ⟨u,hm,r⟩:=g
 exact F6 hg hm r hd
def p5 (P:Program)(w:World)(K:W.Frag)(mg:Str->Option Value)(base:Heap)(k:Nat)(x:Str)(ps:List Str)(sp:Sp):Prop :=
 ∃f fd,r8 P w K mg base CX0 k f fd ps sp/\W.keepIn K (.ref f)=true/\mg x=some (.ref f)/\V5 K fd ps []
structure Def (K:W.Frag) (mg:Str->Option Value) (x:Str) (st:Stmt) (ps:List Str) (f:Addr) (fd:FuncData):Prop where
 F:Fun K x x st f fd
 b:V5 K fd ps []
 m:mg x=some (.ref f)
theorem Def.known {P:Program}{w:World}{K:W.Frag}{mg:Str->Option Value}{base:Heap}{x:Str}{st:Stmt}{ps:List Str}{f:Addr}{fd:FuncData}{k:Nat}{sp:Sp}(D:Def K mg x st ps f fd)(G:r8 P w K mg base CX0 k f fd ps sp):p5 P w K mg base k x ps sp :=
 ⟨f,fd,G,D.F.kp,D.m,D.b⟩
section
variable {X:Cx}{x:Str}{p pos:Pos}{e:Expr}{es:List Expr}{t:TA}{ps:List Str}{sp:Sp}{k j:Nat}
theorem o9 (kn:p5 X.prog X.w X.K X.mg X.base k x ps sp)(hr:Z2 j X.A)(hg:Gl X x)(ha:PA X (e::es) t)(hj:k<=j:=by decide)(hdb:(x==("__debug__":Str))=false:=by decide)
  (he:starEach (e::es) X.env=(false,eval e X.env)::starEach es X.env:=by rfl) (hpl:(backTo pos (starEach es X.env)).any (·.1)=false:=by rfl):PE X (.Call (.Name x p) (e::es) [] pos) (yd8 sp [] E0 t):=by
 obtain ⟨f,fd,G,hk,hm,hb⟩:=kn
 exact zn6 G (hr.mono hj) hg hm hk hb .nil yw3 ha hdb he hpl
end
theorem zd1 {z:Int}{k:Nat}(h:0<k):∃m:Nat,z % (k:Int)=(m:Int)/\m<k:=by
 have h1:=bg z (show (k:Int)≠0 by lia)
 have h2:=bC z (show (0:Int)<(k:Int) by lia)
 exact ⟨(z % (k:Int)).toNat,by lia,by lia⟩
theorem ys7 (z:Int):∃n:Nat,1+z % 60=(n:Int)/\1<=n/\n<=60:=by
 have h1:=bg z (show (60:Int)≠0 by decide)
 have h2:=bC z (show (0:Int)<60 by decide)
 exact ⟨(1+z % 60).toNat,by lia,by lia,by lia⟩
theorem U3 (t:List Nat):tI t=(t.map λ(x:Nat)=>(x:Int)).map V.int:=by
 unfold tI
 rw [aW]
 rfl
def yd3 (K:W.Frag):Sp:=λvs H Q _=>∃(a:Addr) (ns:List Int),vs=[.ref a]/\SqL K H a (ns.map V.int)/\ns.length<=63/\(∀z∈ns,Builtin.Int.intBits z<=2 ^ 20)/\∀H',Q (.bl true) H'
theorem walk {l:W.OpenLaw}{q:Program}{loose:List Str}{XP:(Str->Option Value)->Heap->Prop}{YP:World->Heap->Prop}{d:DefRec}{K:Params->W.Frag}{k:Nat}{x:Str}(hn:l.most=some 63)(hdf:d.params.defaults=[])(hr:Z2 k callerA)
  (hY:∀(w:World) (h:Heap),YP w h->(K w.params).In h)
  (F:∀(w:World) (mg:Str->Option Value) (fa:Addr) (h:Heap),(K w.params).In h->h.Ns mainGlobals mg->mg d.name=some (.ref fa) ->
   ∃fd:FuncData,(∀(s:Shared) (u:Value),BindsTo s fd ⟨[u],[]⟩ [(x,u)])/\∀base:Heap,(K w.params).In base->base.Ns mainGlobals mg->r8 l.prog w (K w.params) mg base CX0 k fa fd [x] (yd3 (K w.params))) :
  W.WalkO q loose XP YP l.row.toRowW d [] (λf vs=>PySem.call f vs) :=
 L2.walk_ofB (n:=63) (k:=k) (x:=x) (CX:=CX0) (sp:=yd3) hn (by decide) hdf hr hY F (λ_ _ a ns hl hb _ hS=>⟨a,ns,rfl,hS,hl,hb,λ_=>rfl⟩) λ_ _ _ _ z=>z
theorem h9 {α β:Type}{F:α->β->Prop}:∀{as:List α} {bs:List β},Paired F as bs->∀(i:Nat) (a:α),as[i]?=some a->∃b,bs[i]?=some b/\F a b
 | _,_,.nil,i,a,h=>by cases i <;> cases h
 | _,_,.cons f _,0,a,h=>by
  cases h
  exact ⟨_,rfl,f⟩
 | _,_,.cons _ r,i+1,a,h=>by
  obtain ⟨b,hb,f⟩:=h9 r i a (by simpa using h)
  exact ⟨b,by simpa using hb,f⟩
end Tb
namespace Tb
open PySem L2
def top (i:Nat):Stmt:=PySem.Challenge.pw_turnbase_k41_acts_look.main.body.getD i (.Pass ⟨0,0,0,0⟩)
abbrev J7:Stmt:=top 9
abbrev Q2:Stmt:=top 10
abbrev Z8:Stmt:=top 11
abbrev J6:Stmt:=top 12
abbrev X5:Stmt:=top 13
abbrev J8:Stmt:=top 17
abbrev Q3:Stmt:=top 18
abbrev V4:Stmt:=top 19
abbrev i7:Stmt:=top 20
abbrev X6:Stmt:=top 21
abbrev ze5:Stmt:=top 22
abbrev T3:Stmt:=top 23
abbrev P8:Stmt:=top 31
abbrev Q1:Stmt:=top 32
abbrev W2:Stmt:=top 33
abbrev R8:Stmt:=top 34
abbrev J4:Stmt:=top 39
abbrev J5:Stmt:=top 35
abbrev Y5:Stmt:=top 36
abbrev R9:Stmt:=top 37
abbrev Z7:Stmt:=top 38
abbrev Q0:Stmt:=top 40
abbrev T2:Stmt:=top 41
abbrev J3:Stmt:=top 42
abbrev J2:Stmt:=top 43
abbrev J1:Stmt:=top 44
abbrev P9:Stmt:=top 45
abbrev R7:Stmt:=top 46
abbrev A0:Stmt:=top 47
def zc9 (i j:Nat):Stmt:=match top i with | .ClassDef _ _ _ b _ _ _ _ _ _ _=>b.getD j (.Pass ⟨0,0,0,0⟩)|s=>s
abbrev n4:Stmt:=zc9 24 0
abbrev R6:Stmt:=zc9 24 1
abbrev X4:Stmt:=zc9 25 0
abbrev V2:Stmt:=zc9 26 0
abbrev T1:Stmt:=zc9 27 0
abbrev T0:Stmt:=zc9 28 0
abbrev V3:Stmt:=zc9 29 0
section
variable {P:Program}{w:World}{K:W.Frag}{mg:Str->Option Value}{base:Heap}{f:Addr}{fd:FuncData}
def yy5:PyData->Bool
 | .int _=>true
 | .bool _=>true
 | _=>false
def ys5:PyData->Bool
 | .bool _=>true
 | _=>false
def yy6:PyData->Bool
 | .tuple _=>true
 | _=>false
def isW:PyData->Bool
 | .int _=>true
 | _=>false
theorem yk9:∀d:PyData,i6 (tyD d) "int"=some (yy5 d)
 | .none=>(by decide +kernel:i6 "NoneType" "int"=some false)
 | .bool _=>(by decide +kernel:i6 "bool" "int"=some true)
 | .int _=>(by decide +kernel:i6 "int" "int"=some true)
 | .str _=>(by decide +kernel:i6 "str" "int"=some false)
 | .list _=>(by decide +kernel:i6 "list" "int"=some false)
 | .tuple _=>(by decide +kernel:i6 "tuple" "int"=some false)
 | .dict _=>(by decide +kernel:i6 "dict" "int"=some false)
theorem za8:∀d:PyData,i6 (tyD d) "bool"=some (ys5 d)
 | .none=>(by decide +kernel:i6 "NoneType" "bool"=some false)
 | .bool _=>(by decide +kernel:i6 "bool" "bool"=some true)
 | .int _=>(by decide +kernel:i6 "int" "bool"=some false)
 | .str _=>(by decide +kernel:i6 "str" "bool"=some false)
 | .list _=>(by decide +kernel:i6 "list" "bool"=some false)
 | .tuple _=>(by decide +kernel:i6 "tuple" "bool"=some false)
 | .dict _=>(by decide +kernel:i6 "dict" "bool"=some false)
theorem yl0:∀d:PyData,i6 (tyD d) "tuple"=some (yy6 d)
 | .none=>(by decide +kernel:i6 "NoneType" "tuple"=some false)
 | .bool _=>(by decide +kernel:i6 "bool" "tuple"=some false)
 | .int _=>(by decide +kernel:i6 "int" "tuple"=some false)
 | .str _=>(by decide +kernel:i6 "str" "tuple"=some false)
 | .list _=>(by decide +kernel:i6 "list" "tuple"=some false)
 | .tuple _=>(by decide +kernel:i6 "tuple" "tuple"=some true)
 | .dict _=>(by decide +kernel:i6 "dict" "tuple"=some false)
theorem scq {N P:List Str}{sc:Scope}(a:sc.kind=.function:=by rfl)(b:sc.isCoroutine=false:=by rfl)(c:sc.isGenerator=false:=by rfl)(d:N.Nodup:=by decide +kernel)(e:N.take P.length=P:=by rfl)(f:∀x∈P,sc.names.lookup x=some .local∨sc.names.lookup x=some .cell:=by decide +kernel)(g:∀y∈sc.names,y.2≠.free:=by decide +kernel):v9 N P sc:=⟨a,b,c,d,e,f,g⟩
theorem zu8:v9 ["thing"] ["thing"] (y0 J7):=scq
def Z9:Sp:=λvs H Q _=>∃(x:V) (d:PyData),vs=[x]/\Dt H x d/\Q (.bl (isW d)) H
theorem zs8 (D:Def K mg "is_whole" J7 ["thing"] f fd) (B:Blt mg):r8 P w K mg base CX0 1 f fd ["thing"] Z9:=by
 refine D.F.ok zu8 (λvs H Q E h=>?_) (λcdv A outer s H vs Q E hr h=>?_)
 ·obtain ⟨x,d,rfl,_⟩:=h
  rfl
 obtain ⟨x,d,rfl,hd,q⟩:=h
 refine ⟨_,z7 (y8 (K5 (y6 d7 rfl B.isinstance u5 (z0 (pv 0) (z0 (e9 (v:=.ty "int") rfl B.int yi4 rfl) z4)))
  (C1 (zz2 (y6 d7 rfl B.isinstance u5 (z0 (pv 0) (z0 (e9 (v:=.ty "bool") rfl B.bool yb3 rfl) z4))))))),?_⟩
 refine ⟨_,rfl,_,_,_,_,rfl,hd.ty,W9 (yk9 d),_,rfl,?_⟩
 cases d with
 | int i=>exact u4 ⟨_,rfl,_,_,_,_,rfl,hd.ty,W9 (za8 _),_,rfl,q⟩
 | bool b=>exact u4 ⟨_,rfl,_,_,_,_,rfl,hd.ty,W9 (za8 _),_,rfl,q⟩
 | none=>exact w6 q
 | str _=>exact w6 q
 | list _=>exact w6 q
 | tuple _=>exact w6 q
 | dict _=>exact w6 q
def Y2:List PyData->List Int
 | .int i::r=>i::Y2 r
 | _::r=>Y2 r
 | []=>[]
def zv1 (l:List Int):List Int:=l.mergeSort λa b=>decide (a<=b)
theorem zv2 {l m:List Int}(p:m.Perm l)(h:m.Pairwise (·<=·)):m=zv1 l:=by
 refine List.Perm.eq_of_pairwise (λa b _ _ h1 h2=>cP h1 h2) h ?_ (p.trans (da l _).symm)
 exact (List.pairwise_mergeSort (le:=λa b:Int=>decide (a<=b)) (λa b c h1 h2=>decide_eq_true (bw (of_decide_eq_true h1) (of_decide_eq_true h2))) (λa b=>by
  show (decide (a<=b) || decide (b<=a))=true
  rw [Bool.or_eq_true,decide_eq_true_eq,decide_eq_true_eq]
  exact Int.le_total a b) l).imp λh=>of_decide_eq_true h
def za1 (n:Nat):List Int:=(List.range n).map λ(i:Nat)=>(i:Int)
theorem xb9 (n:Nat):tI (List.range n)=(za1 n).map V.int:=U3 _
theorem B4:∀(ms rs:List Int),PyData.eqvAll (ms.map PyData.int) (rs.map PyData.int)=decide (ms=rs)
 | [],[]=>by simp [PyData.eqvAll]
 | [],_::_=>by simp [PyData.eqvAll]
 | _::_,[]=>by simp [PyData.eqvAll]
 | a::as,b::bs=>by
  rw [aE,aE,PyData.eqvAll,B4 as bs]
  by_cases h:a=b
  ·subst h;simp [PyData.eqv]
  ·simp [PyData.eqv,h]
theorem yf1 (ms rs:List Int):PyData.eqv (.list (ms.map PyData.int)) (.list (rs.map PyData.int))=decide (ms=rs):=by rw [PyData.eqv,B4]
theorem zr6:∀ns:List Int,PyData.canLayAll0 (ns.map PyData.int)=true/\PyData.depthAll (ns.map PyData.int)<=1
 | []=>by simp [PyData.canLayAll0,PyData.depthAll]
 | n::r=>by
  obtain ⟨h1,h2⟩:=zr6 r
  refine ⟨by simp [PyData.canLayAll0,PyData.canLay0,h1],?_⟩
  simp only [aE,PyData.depthAll,PyData.depth]
  lia
theorem A2 (ns:List Int):PySem.SeqAt.shaped (.list (ns.map PyData.int))=true:=by
 obtain ⟨h1,h2⟩:=zr6 ns
 unfold PySem.SeqAt.shaped
 rw [aG]
 refine ⟨by simp only [PyData.canLay0];exact h1,decide_eq_true ?_⟩
 simp only [PyData.depth]
 lia
def m7:PyData->Bool
 | .tuple ds=>(decide (1<=ds.length)&&decide (ds.length<=60))&&(ds.all isW&&decide (zv1 (Y2 ds)=za1 ds.length))
 | _=>false
theorem yc2 {H:Hp}:∀{xs:List V} {ds:List PyData},Dts H xs ds->ds.all isW=true->xs=(Y2 ds).map V.int/\(Y2 ds).length=ds.length
 | _,_,.nil,_=>⟨rfl,rfl⟩
 | _,_,.cons h r,e=>by
  rw [cW,aG] at e
  obtain ⟨h1,h2⟩:=yc2 r e.2
  cases h with
  | int i=>exact ⟨by rw [h1];rfl,by show (i::Y2 _).length=_;rw [ag,h2];rfl⟩
  | non=>cases e.1
  | bl _=>cases e.1
  | str _=>cases e.1
  | lst _ _=>cases e.1
  | tup _ _=>cases e.1
  | dct _=>cases e.1
def yd7:Sp:=λvs H Q _=>∃(x:V) (d:PyData),vs=[x]/\Dt H x d/\(∀ds,d=.tuple ds->ds.length<=1000)/\∀H':Hp,z9 H H'->Q (.bl (m7 d)) H'
theorem zh3:v9 ["thing"] ["thing"] (y0 Q2):=scq
theorem zg7 (D:Def K mg "is_turning" Q2 ["thing"] f fd) (B:Blt mg) (KW:p5 P w K mg base 1 "is_whole" ["thing"] Z9) (GM:zp7 mg "MOST_PLACES" (.int 60)):r8 P w K mg base CX0 2 f fd ["thing"] yd7:=by
 refine D.F.ok zh3 (λvs H Q E h=>?_) (λcdv A outer s H vs Q E hr h=>?_)
 ·obtain ⟨x,d,rfl,_⟩:=h
  rfl
 obtain ⟨x,d,rfl,hd,hlen,q⟩:=h
 refine ⟨_,v8 (t8 (PW.pt (L0 (d8 (f8 (y6 d7 rfl B.isinstance u5 (z0 (pv 0) (z0 (e9 (v:=.ty "tuple") rfl B.tuple l6 rfl) z4))))) (R5 (d8 (zu0 zt1 zt1 z8 (y6 u7 rfl B.len i5 (z0 (pv 0) z4)) (yc6 GM rfl)))))) (z7 (y8 Y3)) y9)
  (v8 (t8 (d8 (f8 (y6 (E7 rfl) rfl B.all zw9 (z0 (ze0 [] ["place"] rfl (yn9 (pv 0)) (λ_ _ _ _=>o9 KW hr rfl (z0 (pv 0) z4))) z4)))) (z7 (y8 Y3)) y9)
  (z7 (y8 (N5 (yz9 hr.units) (y6 S4 rfl B.sorted N0 (z0 (pv 0) z4)) (p8 (M6 rfl) rfl B.list G0 (z0 (p8 zi2 rfl B.range zp9 (z0 (y6 u7 rfl B.len i5 (z0 (pv 0) z4)) z4)) z4)) (w8 _))))),?_⟩
 refine ⟨_,rfl,_,_,_,_,rfl,hd.ty,W9 (yl0 d),_,rfl,?_⟩
 cases hd with
 | non=>exact u4 (q H (z9.refl _))
 | bl b=>exact u4 (q H (z9.refl _))
 | int i=>exact u4 (q H (z9.refl _))
 | str t=>exact u4 (q H (z9.refl _))
 | lst _ _=>exact u4 (q H (z9.refl _))
 | dct _=>exact u4 (q H (z9.refl _))
 | @tup b xs ds hb hs =>
 have hxl:=hs.length
 have hl100:=hlen ds rfl
 refine w6 ⟨_,rfl,b,_,rfl,.inr (SqT.of hb),_,_,rfl,rfl,_,rfl,?_⟩
 by_cases h1:1<=ds.length
 case neg =>
  rw [decide_eq_false (show ¬(1:Int)<=((xs.length:Nat):Int) by lia)]
  refine w6 ⟨_,rfl,u4 ?_⟩
  have e:m7 (.tuple ds)=false:=by simp only [m7];rw [decide_eq_false h1];rfl
  exact e ▸ q H (z9.refl _)
 rw [decide_eq_true (show (1:Int)<=((xs.length:Nat):Int) by lia)]
 refine u4 ⟨_,_,rfl,rfl,_,rfl,?_⟩
 by_cases h2:ds.length<=60
 case neg =>
  rw [decide_eq_false (show ¬((xs.length:Nat):Int)<=(60:Int) by lia)]
  refine u4 ?_
  have e:m7 (.tuple ds)=false:=by simp only [m7];rw [decide_eq_false h2,dv];rfl
  exact e ▸ q H (z9.refl _)
 rw [decide_eq_true (show ((xs.length:Nat):Int)<=(60:Int) by lia)]
 refine w6 ?_
 refine ⟨_,rfl,b,rfl,⟨_,SqT.of hb⟩,zb8 (SqT.of hb) ((ds.map isW).map V.bl) (by rw [aa,aa,hxl]) (by rw [hxl];exact ze8 (by lia)) ?_ ?_⟩
 ·intro j H' x hx s' _ _ _ _
  obtain ⟨dj,hdj,hxj⟩:=hs.get hx
  refine ⟨_,rfl,_,dj,rfl,hxj.same s',z9.refl _,?_⟩
  rw [au,au,hdj]
  rfl
 intro nm H4 _ s4 hnm
 refine ⟨nm,_,rfl,SqL.of hnm,_,rfl,?_⟩
 have eall:(ds.map isW).all id=ds.all isW:=by rw [dz];rfl
 rw [eall]
 cases hall:ds.all isW with
 | false =>
  have e:m7 (.tuple ds)=false:=by simp only [m7];rw [hall,cR,dv]
  exact u4 (e ▸ q H4 s4)
 | true =>
  refine w6 ?_
  obtain ⟨ex,el⟩:=yc2 hs hall
  have hb4:=s4 _ _ hb
  refine ⟨_,rfl,b,Y2 ds,rfl,SqT.of (by rw [←ex];exact hb4),by lia,λl ms hl hp hw=>?_⟩
  have s5:=z6 hl (.lst (ms.map V.int))
  have e5:(upd H4 l (.lst (ms.map V.int))) l=some (.lst (ms.map V.int)):=z5
  generalize upd H4 l (.lst (ms.map V.int))=H5 at s5 e5 ⊢
  refine ⟨_,rfl,b,_,rfl,.inr (SqT.of (s5 _ _ hb4)),_,rfl,λp hp'=>⟨p,0,_,rfl,z5,⟨by lia,by lia,by lia,by lia,by lia⟩,λr hr'=>?_⟩⟩
  have s6:z9 H5 (upd (upd H5 p (.rng 0 ((xs.length:Nat):Int))) r (.lst (W8 0 (((xs.length:Nat):Int)-0).toNat))):=(z6 hp' _).trans (z6 hr' _)
  have e6:(upd (upd H5 p (.rng 0 ((xs.length:Nat):Int))) r (.lst (W8 0 (((xs.length:Nat):Int)-0).toNat))) r=some (.lst ((za1 ds.length).map V.int)):=by
   rw [z5,show (((xs.length:Nat):Int)-0).toNat=ds.length by lia,zv8,xb9]
  generalize upd (upd H5 p (.rng 0 ((xs.length:Nat):Int))) r (.lst (W8 0 (((xs.length:Nat):Int)-0).toNat))=H6 at s6 e6 ⊢
  refine ⟨.list (ms.map PyData.int),.list ((za1 ds.length).map PyData.int),.lst (SqL.of (s6 _ _ e5)) (L8.ints _),.lst (SqL.of e6) (L8.ints _),A2 _,A2 _,?_⟩
  have e:m7 (.tuple ds)=PyData.eqv (.list (ms.map PyData.int)) (.list ((za1 ds.length).map PyData.int)):=by
   simp only [m7]
   rw [yf1,hall,decide_eq_true h1,decide_eq_true h2,zv2 hp hw]
   rfl
  rw [←e]
  exact q H6 (s4.trans (s5.trans s6))
def O7 (K:W.Frag):Sp:=λvs H Q _=>∃(p:Addr) (ns:List Int),vs=[.ref p]/\(SqL K H p (ns.map V.int)∨SqT K H p (ns.map V.int))/\ns.length<=1000/\∀H',z9 H H'->Q (.bl (decide ns.Nodup)) H'
theorem zl0 (ns:List Int):(Y9 ns).length<=ns.length:=by
 have e:(List.range ns.length).map (λi=>ns.getD i 0)=ns:=ym1 ns 0
 unfold Y9 PyProof.Rows.firstMet
 rw [e]
 have:=(N1 ns []).2
 rw [aO,br] at this
 exact this
theorem Q9:v9 ["things"] ["things"] (y0 Z8):=scq
theorem yu7 {K:W.Frag}{H H':Hp}{p:Addr}{xs:List V}(s:z9 H H')(h:SqL K H p xs∨SqT K H p xs):SqL K H' p xs∨SqT K H' p xs:=h.elim (λe=>.inl (s.seq e)) λe=>.inr (s.seqT e)
theorem A9 (D:Def K mg "is_each_once" Z8 ["things"] f fd) (B:Blt mg):r8 P w K mg base CX0 1 f fd ["things"] (O7 K):=by
 refine D.F.ok Q9 (λvs H Q E h=>?_) (λcdv A outer s H vs Q E hr h=>?_)
 ·obtain ⟨p,ns,rfl,_⟩:=h
  rfl
 obtain ⟨p,ns,rfl,hS,hle,q⟩:=h
 refine ⟨_,z7 (y8 (N5 n6 (y6 M4 rfl B.len i5 (z0 (p8 (zb6 rfl) rfl B.set zk6 (z0 (pv 0) z4)) z4)) (y6 u7 rfl B.len i5 (z0 (pv 0) z4)) (w8 _))),?_⟩
 have hdl:(Y9 ns).length<=1000:=aB (zl0 ns) hle
 refine ⟨_,rfl,p,ns,rfl,hS,hle,λl hl=>⟨l,_,_,rfl,z5,by omega,_,rfl,p,_,rfl,yu7 (z6 hl _) hS,rfl,?_⟩⟩
 rw [t7,aa]
 rw [show decide ((((Y9 ns).length:Nat):Int)=((ns.length:Nat):Int))=decide ns.Nodup from decide_eq_decide.mpr (by rw [←zb9];omega)]
 exact q _ (z6 hl _)
def pV (x:Nat×Nat):List V:=[.int (x.1:Int),.int (x.2:Int)]
def pK (x:Nat×Nat):List Key:=[Sum.inl (x.1:Int),Sum.inl (x.2:Int)]
theorem xa9 {x y:Nat×Nat}(h:pK x=pK y):x=y:=by
 have h1:=Sum.inl.inj (List.cons.inj h).1
 have h2:=Sum.inl.inj (List.cons.inj (List.cons.inj h).2).1
 exact Prod.ext (by omega) (by omega)
abbrev X2 (H:Hp) (as:List Addr) (ps:List (Nat×Nat)):Prop:=Paired (λa x=>H a=some (.tup (pV x))) as ps
theorem X2.same {H H':Hp}{as:List Addr}{ps:List (Nat×Nat)}(h:X2 H as ps)(s:z9 H H'):X2 H' as ps:=by
 induction h with
 | nil=>exact .nil
 | cons a _ ih=>exact .cons (s _ _ a) ih
theorem X2.len {H:Hp}{as:List Addr}{ps:List (Nat×Nat)}(h:X2 H as ps):as.length=ps.length:=Paired.length h
theorem X2.keys {H:Hp}{as:List Addr}{ps:List (Nat×Nat)}(h:X2 H as ps):Paired (λa (ks:List Key)=>H a=some (.tup (ks.map kV))) as (ps.map pK):=by
 induction h with
 | nil=>exact .nil
 | cons a _ ih=>exact .cons a ih
theorem zs1 {ps:List (Nat×Nat)}:(ps.map pK).Nodup↔ps.Nodup :=
 ⟨λh=>(aH.mp h).imp λhne z=>hne (by rw [z]),λh=>aH.mpr (List.Pairwise.imp (λhne z=>hne (xa9 z)) h)⟩
def O6 (K:W.Frag):Sp:=λvs H Q _=>∃(p:Addr) (as:List Addr) (ps:List (Nat×Nat)),vs=[.ref p]/\SqL K H p (as.map V.ref)/\X2 H as ps/\ps.length<=306/\∀H',z9 H H'->Q (.bl (decide ps.Nodup)) H'
theorem F4 (D:Def K mg "is_each_once" Z8 ["things"] f fd) (B:Blt mg):r8 P w K mg base CX0 1 f fd ["things"] (O6 K):=by
 refine D.F.ok Q9 (λvs H Q E h=>?_) (λcdv A outer s H vs Q E hr h=>?_)
 ·obtain ⟨p,as,ps,rfl,_⟩:=h
  rfl
 obtain ⟨p,as,ps,rfl,hS,hP,hle,q⟩:=h
 refine ⟨_,z7 (y8 (N5 n6 (y6 M5 rfl B.len i5 (z0 (p8 (ye7 rfl hr.units) rfl B.set zk6 (z0 (pv 0) z4)) z4)) (y6 u7 rfl B.len i5 (z0 (pv 0) z4)) (w8 _))),?_⟩
 refine ⟨_,rfl,p,as,ps.map pK,rfl,hS,hP.keys,by rw [aa];exact hle,λl n hl hn hnd=>⟨l,n,rfl,z5,by omega,_,rfl,p,_,rfl,.inl ((z6 hl _).seq hS),rfl,?_⟩⟩
 rw [aa,zs1] at hnd
 rw [t7,aa,hP.len]
 rw [show decide ((n:Int)=((ps.length:Nat):Int))=decide ps.Nodup from decide_eq_decide.mpr (by rw [←hnd];omega)]
 exact q _ (z6 hl _)
theorem t0 {t1 u:TS}{D:L6}{σ:St}{H:Hp}(h:∀N:St->Hp->Prop,(∀σ H,u D σ H->N σ H)->t1 { D with nx:=N } σ H):yv3 t1 u D σ H:=h (λσ H=>u D σ H) λ_ _ h=>h
theorem d9 {X:Cx}{st:List Stmt}{R:TS->Prop}{t:TS}(h:DSs X st t)(r:R t):∃t,PSs X st t/\R t:=⟨t,h.h,r⟩
def U6 (t:List Nat):PyData:=.tuple (t.map λ(x:Nat)=>PyData.int x)
def plD (n:Nat):PyData->Option Nat
 | .int i=>if 0<=i/\i<(n:Int) then some i.toNat else none
 | _=>none
def M3:PyData->Option (List PyData)
 | .list ds=>some ds
 | .tuple ds=>some ds
 | _=>none
def R1 (n:Nat):List PyData->Option (List Nat)
 | []=>some []
 | d::ds=>(plD n d).bind λx=>(R1 n ds).map λl=>x::l
def Y0 (m n:Nat)(d:PyData):Option (List Nat):=(M3 d).bind λds=>if ds.length<=m then R1 n ds else none
def yn3:List Nat->Option (Nat×Nat)
 | [x,y]=>if x=y then none else some (min x y,max x y)
 | _=>none
def prD (n:Nat)(d:PyData):Option (Nat×Nat):=(Y0 2 n d).bind yn3
def K9 (n:Nat):List PyData->Option (List (Nat×Nat))
 | []=>some []
 | d::ds=>(prD n d).bind λx=>(K9 n ds).map λl=>x::l
theorem R0 {n:Nat}{i:Int}:plD n (.int i)=if 0<=i/\i<(n:Int) then some i.toNat else none:=rfl
theorem zo1 {n x:Nat}{d:PyData}(h:plD n d=some x):d=.int x/\x<n:=by
 cases d with
 | int i =>
  rw [R0] at h
  by_cases hi:0<=i/\i<(n:Int)
  ·rw [if_pos hi] at h
   cases h
   exact ⟨by rw [Int.toNat_of_nonneg hi.1],by lia⟩
  ·rw [if_neg hi] at h
   cases h
 | _=>cases h
theorem V9 {n:Nat}:∀{ds:List PyData} {l:List Nat},R1 n ds=some l->l.length=ds.length/\ds=l.map (λ(x:Nat)=>PyData.int x)/\∀x∈l,x<n
 | [],l,h=>by
  cases h
  exact ⟨rfl,rfl,λx hx=>by cases hx⟩
 | d::ds,l,h=>by
  obtain ⟨x,hx,h⟩:=Option.bind_eq_some_iff.mp h
  obtain ⟨l',hl,rfl⟩:=bG.mp h
  obtain ⟨e,hn⟩:=zo1 hx
  obtain ⟨a,b,c⟩:=V9 hl
  exact ⟨by rw [ag,ag,a],by rw [e,aE,←b],λy hy=>(aw.mp hy).elim (λq=>q ▸ hn) (c y)⟩
theorem K3 {H:Hp}:∀l:List Nat,Dts H (tI l) (l.map λ(x:Nat)=>PyData.int x)
 | []=>.nil
 | x::l=>.cons (.int _) (K3 l)
theorem G3 {H:Hp}{xs:List V}{l:List Nat}(h:Dts H xs (l.map λ(x:Nat)=>PyData.int x)):xs=tI l:=by
 induction l generalizing xs with
 | nil=>cases h;rfl
 | cons x l ih =>
  cases h with
  | cons h1 h2 =>
   cases h1
   rw [ih h2]
   rfl
def ze9:Sp:=λvs H Q _=>∃(x:V) (d:PyData) (n:Nat),vs=[x,.int n]/\Dt H x d/\Q (.bl (plD n d).isSome) H
theorem zu7:v9 ["thing","many"] ["thing","many"] (y0 J6):=scq
theorem zs7 (D:Def K mg "is_place" J6 ["thing","many"] f fd) (B:Blt mg) (KW:p5 P w K mg base 1 "is_whole" ["thing"] Z9):r8 P w K mg base CX0 2 f fd ["thing","many"] ze9:=by
 refine D.F.ok zu7 (λvs H Q E h=>?_) (λcdv A outer s H vs Q E hr h=>?_)
 ·obtain ⟨x,d,n,rfl,_⟩:=h
  rfl
 obtain ⟨x,d,n,rfl,hd,q⟩:=h
 refine ⟨_,z7 (y8 (K5 (o9 KW hr rfl (z0 (pv 0) z4)) (C1 (zt4 zt1 B8 z8 (pv 0) (pv 1))))),?_⟩
 refine ⟨_,rfl,_,d,rfl,hd,_,rfl,?_⟩
 by_cases hw:isW d=true
 ·cases hd with
  | int i =>
   refine u4 ⟨_,rfl,_,_,rfl,rfl,_,rfl,?_⟩
   rw [R0] at q
   by_cases h0:0<=i
   ·rw [decide_eq_true h0]
    refine u4 ⟨_,rfl,_,_,rfl,rfl,?_⟩
    by_cases h1:i<(n:Int)
    ·rw [if_pos ⟨h0,h1⟩] at q
     show Q (.bl (decide (i<(n:Int)))) H
     rw [decide_eq_true h1]
     exact q
    ·rw [if_neg λz=>h1 z.2] at q
     show Q (.bl (decide (i<(n:Int)))) H
     rw [decide_eq_false h1]
     exact q
   ·rw [decide_eq_false h0]
    rw [if_neg λz=>h0 z.1] at q
    exact w6 q
  | _=>cases hw
 ·have hf:isW d=false:=by simpa using hw
  rw [hf]
  have:(plD n d).isSome=false:=by cases d <;> first|rfl|cases hf
  rw [this] at q
  exact w6 q
def Q6 (C:Addr):Sp:=λvs H Q E=>∃(x:V) (d:PyData) (m:Nat),vs=[x,.int m]/\Dt H x d/\((∃ds,M3 d=some ds/\ds.length<=m)->∀H',z9 H H'->Q .non H')/\((∀ds,M3 d=some ds->m<ds.length)->∀H',z9 H H'->E (.ref C) none H')
theorem zu9:v9 ["thing","most"] ["thing","most"] (y0 J8):=scq
theorem zs9 (D:Def K mg "need_row" J8 ["thing","most"] f fd) (B:Blt mg) {TE C:Addr} (EA:V6 K mg TE "NoThing" C) (kS:∀d,W.kitAny K (.type (tyD d)) [.type "list",.type "tuple"]=some (M3 d).isSome):i4 P w K mg base 1 "need_row" ["thing","most"] (Q6 C):=by
 refine ⟨f,fd,?_,D.F.kp,D.m,D.b⟩
 refine D.F.okX zu9 (λvs H Q E h=>?_) (λcdv A outer s H vs Q E hr h=>?_)
 ·obtain ⟨x,d,m,rfl,_⟩:=h
  rfl
 obtain ⟨x,d,m,rfl,hd,q,qx⟩:=h
 refine ⟨_,z7 (t8 (PW.pt (L0 (d8 (f8 (y6 S3 rfl B.isinstance u5 (z0 (pv 0) (z0 (S9 (z0 (e9 (v:=.ty "list") rfl B.list G0 rfl) (z0 (e9 (v:=.ty "tuple") rfl B.tuple l6 rfl) z4))) z4))))) (R5 (w4 zj2 (y6 u7 rfl B.len i5 (z0 (pv 0) z4)) (pv 1) (w8 _))))) (z7 (V0 EA.m EA.c PySem.F.excBase_ValueError rfl rfl (z0 o8 z4))) y9),?_⟩
 refine ⟨_,rfl,ze8 (show 2<=1000 by decide),λp hp=>?_⟩
 have s1:=z6 hp (.tup [V.ty "list",V.ty "tuple"])
 have ep:(upd H p (.tup [V.ty "list",V.ty "tuple"])) p=some (.tup (["list","tuple"].map V.ty)):=z5
 generalize upd H p (.tup [V.ty "list",V.ty "tuple"])=H1 at s1 ep ⊢
 have hd1:=hd.same s1
 refine ⟨_,d,p,["list","tuple"],_,rfl,hd1,SqT.of ep,kS d,_,rfl,?_⟩
 cases hd1 with
 | @lst a xs ds e hs =>
  refine w6 ⟨_,rfl,a,_,rfl,.inl (SqL.of e),_,rfl,_,_,rfl,rfl,_,rfl,?_⟩
  rw [hs.length]
  rcases bP m ds.length with hl|hl
  ·rw [decide_eq_true (show ((ds.length:Nat):Int) > (m:Int) by lia)]
   exact u4 ⟨by decide,qx (λds' h=>by cases h;exact hl) H1 s1⟩
  ·rw [decide_eq_false (show ¬((ds.length:Nat):Int) > (m:Int) by lia)]
   exact w6 (q ⟨ds,rfl,hl⟩ H1 s1)
 | @tup a xs ds e hs =>
  refine w6 ⟨_,rfl,a,_,rfl,.inr (SqT.of e),_,rfl,_,_,rfl,rfl,_,rfl,?_⟩
  rw [hs.length]
  rcases bP m ds.length with hl|hl
  ·rw [decide_eq_true (show ((ds.length:Nat):Int) > (m:Int) by lia)]
   exact u4 ⟨by decide,qx (λds' h=>by cases h;exact hl) H1 s1⟩
  ·rw [decide_eq_false (show ¬((ds.length:Nat):Int) > (m:Int) by lia)]
   exact w6 (q ⟨ds,rfl,hl⟩ H1 s1)
 | _=>exact u4 ⟨by decide,qx (λds' h=>by cases h) H1 s1⟩
def Q5 (C:Addr):Sp:=λvs H Q E=>∃(x:V) (d:PyData) (n:Nat),vs=[x,.int n]/\Dt H x d/\(∀y,plD n d=some y->Q .non H)/\(plD n d=none->E (.ref C) none H)
theorem zh4:v9 ["thing","many"] ["thing","many"] (y0 Q3):=scq
theorem zg8 (D:Def K mg "need_place" Q3 ["thing","many"] f fd) (B:Blt mg) (KP:p5 P w K mg base 2 "is_place" ["thing","many"] ze9) {TE C:Addr} (EA:V6 K mg TE "NoThing" C):i4 P w K mg base 3 "need_place" ["thing","many"] (Q5 C):=by
 refine ⟨f,fd,?_,D.F.kp,D.m,D.b⟩
 refine D.F.okX zh4 (λvs H Q E h=>?_) (λcdv A outer s H vs Q E hr h=>?_)
 ·obtain ⟨x,d,n,rfl,_⟩:=h
  rfl
 obtain ⟨x,d,n,rfl,hd,q,qx⟩:=h
 refine ⟨_,z7 (t8 (d8 (f8 (o9 KP hr rfl (z0 (pv 0) (z0 (pv 1) z4))))) (z7 (V0 EA.m EA.c PySem.F.excBase_ValueError rfl rfl (z0 o8 z4))) y9),?_⟩
 refine ⟨_,rfl,_,rfl,x,d,n,rfl,hd,_,rfl,?_⟩
 cases e:plD n d with
 | some y=>exact w6 (q y e)
 | none=>exact u4 ⟨by decide,qx e⟩
def zp2 (C:Addr):Sp:=λvs H Q E=>∃(x:V) (d:PyData) (m n:Nat),vs=[x,.int m,.int n]/\Dt H x d/\m<=1000/\(∀l,Y0 m n d=some l->∀(r:Addr) (H':Hp),z9 H H'->H' r=some (.tup (tI l))->Q (.ref r) H')/\(Y0 m n d=none->∀H',z9 H H'->E (.ref C) none H')
theorem T9:v9 ["thing","most","many","place"] ["thing","most","many"] (y0 X6):=scq
theorem C2 {n:Nat}:∀{ds:List PyData} {i:Nat} {d:PyData},ds[i]?=some d->plD n d=none->R1 n ds=none
 | d::ds,0,d',h,hd=>by
  cases h
  unfold R1
  rw [hd]
  rfl
 | d::ds,i+1,d',h,hd=>by
  have:=C2 (ds:=ds) (i:=i) h hd
  unfold R1
  rw [this]
  cases plD n d <;> rfl
theorem C3 {n:Nat}:∀{ds:List PyData},(∀(i:Nat) (d:PyData),ds[i]?=some d->∃x,plD n d=some x)->∃l,R1 n ds=some l
 | [],_=>⟨[],rfl⟩
 | d::ds,h=>by
  obtain ⟨x,hx⟩:=h 0 d rfl
  obtain ⟨l,hl⟩:=C3 (ds:=ds) λi d' hi=>h (i+1) d' hi
  exact ⟨x::l,by unfold R1;rw [hx,hl];rfl⟩
theorem S5 {H:Hp}:∀{xs:List V} {ds:List PyData},Dts H xs ds->∀(i:Nat) (x:V),xs[i]?=some x->∃d,ds[i]?=some d/\Dt H x d
 | _,_,.nil,i,x,hx=>by cases hx
 | _,_,.cons h1 h2,0,x,hx=>by cases hx;exact ⟨_,rfl,h1⟩
 | _,_,.cons h1 h2,i+1,x,hx=>S5 h2 i x hx
theorem D8 (D:Def K mg "row_of_places" X6 ["thing","most","many"] f fd) (B:Blt mg) {C:Addr} (KR:i4 P w K mg base 1 "need_row" ["thing","most"] (Q6 C)) (KP:i4 P w K mg base 3 "need_place" ["thing","many"] (Q5 C)):i4 P w K mg base 4 "row_of_places" ["thing","most","many"] (zp2 C):=by
 refine ⟨f,fd,?_,D.F.kp,D.m,D.b⟩
 refine D.F.okX T9 (λvs H Q E h=>?_) (λcdv A outer s H vs Q E hr h=>?_)
 ·obtain ⟨x,d,m,n,rfl,_⟩:=h
  rfl
 obtain ⟨x,d,m,n,rfl,hd,hm,q,qx⟩:=h
 refine ⟨_,v8 (c9 (U9 KR hr rfl (z0 (pv 0) (z0 (pv 1) z4))))
  (v8 (R3 PassesOwn.leaving rfl (zn9 (pv 0)) (k8 (i:=3) T9.nd rfl (Or.inl rfl)) (z7 (c9 (U9 KP hr rfl (z0 (pv 3) (z0 (pv 2) z4))))))
  (z7 (y8 (p8 m9 rfl B.tuple l6 (z0 (pv 0) z4))))),?_⟩
 refine ⟨_,rfl,_,rfl,x,d,m,rfl,hd,λ⟨ds,hds,hl⟩ H1 s1=>?_,λhno H1 s1=>qx ?_ H1 s1⟩
 ·have er:Y0 m n d=R1 n ds:=by unfold Y0;rw [hds];exact if_pos hl
  have hd1:=hd.same s1
  cases hd1 with
  | @lst a xs ds' e hs =>
   cases hds
   refine ⟨_,rfl,a,rfl,.inl ⟨⟨_,SqL.of e⟩,G6 (K:=K) (a:=a) (xs:=xs) (λi σ H2=>(∃v:Option V,σ=[some (.ref a),some (.int m),some (.int n),v]/\H2=H1)/\∀(j:Nat) (d:PyData),j<i->ds[j]?=some d->∃x,plD n d=some x) ⟨⟨none,rfl,rfl⟩,λj d hj=>absurd hj (bZ _)⟩ (λi σ H2 _ ⟨⟨_,_,e2⟩,_⟩=>by rw [e2];exact SqL.of e) ?_ ?_⟩⟩
   ·rintro i y σ H2 hi ⟨⟨v,rfl,rfl⟩,hall⟩
    obtain ⟨d',hd',hy⟩:=S5 hs i y hi
    refine ⟨_,rfl,_,rfl,y,d',n,rfl,hy,λz hz=>⟨⟨_,rfl,rfl⟩,λj d2 hj hd2=>?_⟩,λhz=>qx (by rw [er];exact C2 hd' hz) _ s1⟩
    rcases Nat.lt_succ_iff_lt_or_eq.mp hj with h|h
    ·exact hall j d2 h hd2
    ·subst h
     rw [hd'] at hd2
     cases hd2
     exact ⟨z,hz⟩
   ·rintro σ H2 ⟨⟨v,rfl,rfl⟩,hall⟩
    obtain ⟨l,hl'⟩:=C3 (n:=n) (ds:=ds) λi d hi=>hall i d (by rw [hs.length];exact (ar.mp hi).1) hi
    have ex:xs=tI l:=by
     rw [(V9 hl').2.1] at hs
     exact G3 hs
    refine ⟨_,rfl,a,_,rfl,.inl ⟨SqL.of e,λr hr'=>q l (er.trans hl') r _ (s1.trans (z6 hr' _)) ?_⟩⟩
    rw [z5,ex]
  | @tup a xs ds' e hs =>
   cases hds
   refine ⟨_,rfl,a,rfl,.inr ⟨⟨_,SqT.of e⟩,ys2 (K:=K) (a:=a) (xs:=xs) (λi σ H2=>(∃v:Option V,σ=[some (.ref a),some (.int m),some (.int n),v]/\H2=H1)/\∀(j:Nat) (d:PyData),j<i->ds[j]?=some d->∃x,plD n d=some x) ⟨⟨none,rfl,rfl⟩,λj d hj=>absurd hj (bZ _)⟩ (λi σ H2 _ ⟨⟨_,_,e2⟩,_⟩=>by rw [e2];exact SqT.of e) ?_ ?_⟩⟩
   ·rintro i y σ H2 hi ⟨⟨v,rfl,rfl⟩,hall⟩
    obtain ⟨d',hd',hy⟩:=S5 hs i y hi
    refine ⟨_,rfl,_,rfl,y,d',n,rfl,hy,λz hz=>⟨⟨_,rfl,rfl⟩,λj d2 hj hd2=>?_⟩,λhz=>qx (by rw [er];exact C2 hd' hz) _ s1⟩
    rcases Nat.lt_succ_iff_lt_or_eq.mp hj with h|h
    ·exact hall j d2 h hd2
    ·subst h
     rw [hd'] at hd2
     cases hd2
     exact ⟨z,hz⟩
   ·rintro σ H2 ⟨⟨v,rfl,rfl⟩,hall⟩
    obtain ⟨l,hl'⟩:=C3 (n:=n) (ds:=ds) λi d hi=>hall i d (by rw [hs.length];exact (ar.mp hi).1) hi
    have ex:xs=tI l:=by
     rw [(V9 hl').2.1] at hs
     exact G3 hs
    exact ⟨_,rfl,a,_,rfl,.inr ⟨SqT.of e,q l (er.trans hl') a _ s1 (by rw [←ex];exact e)⟩⟩
  | _=>cases hds
 ·unfold Y0
  cases e:M3 d with
  | none=>rfl
  | some ds=>exact if_neg (Nat.not_le.mpr (hno ds e))
def zf2:Sp:=λvs H Q _=>∃(x:V) (d:PyData) (n:Nat),vs=[x,.int n]/\Dt H x d/\(∀ds,d=.tuple ds->ds.length<=1000)/\∀H':Hp,z9 H H'->Q (.bl (m7 d&&match d with | .tuple ds=>decide (ds.length=n)|_=>false)) H'
theorem C7:v9 ["thing","many"] ["thing","many"] (y0 X5):=scq
theorem yh5 {d:PyData}(h:m7 d=true):∃ds,d=.tuple ds:=by
 cases d with
 | tuple ds=>exact ⟨ds,rfl⟩
 | _=>cases h
theorem D7 (D:Def K mg "is_turning_of" X5 ["thing","many"] f fd) (B:Blt mg) (KT:p5 P w K mg base 2 "is_turning" ["thing"] yd7):r8 P w K mg base CX0 3 f fd ["thing","many"] zf2:=by
 refine D.F.ok C7 (λvs H Q E h=>?_) (λcdv A outer s H vs Q E hr h=>?_)
 ·obtain ⟨x,d,n,rfl,_⟩:=h
  rfl
 obtain ⟨x,d,n,rfl,hd,hl,q⟩:=h
 refine ⟨_,z7 (y8 (K5 (o9 KT hr rfl (z0 (pv 0) z4)) (C1 (N5 n6 (y6 u7 rfl B.len i5 (z0 (pv 0) z4)) (pv 1) (w8 _))))),?_⟩
 refine ⟨_,rfl,x,d,rfl,hd,hl,λH1 s1=>?_⟩
 cases ht:m7 d with
 | false =>
  have:=q H1 s1
  rw [ht,cR] at this
  exact ⟨_,rfl,w6 this⟩
 | true =>
  obtain ⟨ds,rfl⟩:=yh5 ht
  have q':=q H1 s1
  rw [ht,Bool.true_and] at q'
  have hd1:=hd.same s1
  cases hd1 with
  | @tup a xs _ e r =>
   refine ⟨_,rfl,u4 ⟨_,rfl,a,_,rfl,.inr (SqT.of e),_,rfl,rfl,?_⟩⟩
   rw [t7,r.length]
   rw [show decide (((ds.length:Nat):Int)=(n:Int))=decide (ds.length=n) from decide_eq_decide.mpr (by lia)]
   exact q'
theorem yh4 {n:Nat}{t:List Nat}(h:TM.IsT n t)(h1:1<=n)(h60:n<=60):m7 (.tuple (t.map λ(x:Nat)=>PyData.int x))=true:=by
 have hl:=h.length
 have e1:Y2 (t.map λ(x:Nat)=>PyData.int x)=t.map λ(x:Nat)=>(x:Int):=by
  clear h hl
  induction t with
  | nil=>rfl
  | cons x r ih =>
   show (x:Int)::Y2 (r.map λ(x:Nat)=>PyData.int x)=(x:Int)::r.map λ(x:Nat)=>(x:Int)
   rw [ih]
 have e2:zv1 (t.map λ(x:Nat)=>(x:Int))=za1 n:=by
  refine (zv2 ?_ ?_).symm
  ·exact (List.Perm.map (λ(x:Nat)=>(x:Int)) (show t.Perm (List.range n) from h)).symm
  ·unfold za1
   exact aH.mpr ((cX (n:=n)).imp λh=>by lia)
 have e3:(t.map λ(x:Nat)=>PyData.int x).all isW=true:=by
  rw [dz]
  exact aX.mpr λ_ _=>rfl
 show ((decide (1<=(t.map λ(x:Nat)=>PyData.int x).length)&&decide ((t.map λ(x:Nat)=>PyData.int x).length<=60))&&((t.map λ(x:Nat)=>PyData.int x).all isW&&decide (zv1 (Y2 (t.map λ(x:Nat)=>PyData.int x))=za1 (t.map λ(x:Nat)=>PyData.int x).length)))=true
 rw [e1,e2,e3,aa,hl,decide_eq_true h1,decide_eq_true h60,decide_eq_true rfl]
 rfl
theorem zp8:∀{ds:List PyData},ds.all isW=true->ds=(Y2 ds).map PyData.int
 | [],_=>rfl
 | .int i::ds,h=>by
  rw [cW,aG] at h
  show PyData.int i::ds=PyData.int i::(Y2 ds).map PyData.int
  rw [←zp8 h.2]
 | .none::_,h=>by cases h
 | .bool _::_,h=>by cases h
 | .str _::_,h=>by cases h
 | .list _::_,h=>by cases h
 | .tuple _::_,h=>by cases h
 | .dict _::_,h=>by cases h
theorem yq4 {n:Nat}{ds:List PyData}(h:m7 (.tuple ds)=true)(hl:ds.length=n):∃t,PyData.tuple ds=U6 t/\TM.IsT n t:=by
 have h:((decide (1<=ds.length)&&decide (ds.length<=60))&&(ds.all isW&&decide (zv1 (Y2 ds)=za1 ds.length)))=true:=h
 rw [aG,aG,aG] at h
 obtain ⟨_,hw,hs⟩:=h
 have hs:=of_decide_eq_true hs
 have hp:(Y2 ds).Perm (za1 n):=by
  rw [←hl,←hs]
  exact (da _ _).symm
 have e:Y2 ds=((Y2 ds).map Int.toNat).map λ(x:Nat)=>(x:Int):=by
  rw [aW]
  conv=>lhs;rw [←bX (Y2 ds)]
  refine ba λx hx=>?_
  obtain ⟨y,_,rfl⟩:=aI.mp (hp.mem_iff.mp hx)
  rfl
 refine ⟨(Y2 ds).map Int.toNat,?_,?_⟩
 ·unfold U6
  congr 1
  conv=>lhs;rw [zp8 hw,e]
  rw [aW]
  rfl
 ·have h2:=hp.map Int.toNat
  have e2:(za1 n).map Int.toNat=List.range n:=by
   unfold za1
   rw [aW]
   conv=>rhs;rw [←bX (List.range n)]
   exact ba λx _=>aJ x
  rw [e2] at h2
  exact h2
def zb1 (n:Nat)(d:PyData):Bool:=m7 d&&match d with | .tuple ds=>decide (ds.length=n)|_=>false
theorem ya6 {n:Nat}{d:PyData}(h1:1<=n)(hn:n<=60)(h:∃t,d=U6 t/\TM.IsT n t):zb1 n d=true:=by
 obtain ⟨t,rfl,tT⟩:=h
 show (m7 (U6 t)&&decide ((t.map λ(x:Nat)=>PyData.int x).length=n))=true
 rw [show m7 (U6 t)=true from yh4 tT h1 hn,aa,tT.length,decide_eq_true rfl]
 rfl
theorem yh6 {n:Nat}{d:PyData}(h:¬∃t,d=U6 t/\TM.IsT n t):zb1 n d=false:=by
 cases d with
 | tuple ds =>
  show (m7 (.tuple ds)&&decide (ds.length=n))=false
  rw [Bool.and_eq_false_iff]
  by_cases h2:m7 (.tuple ds)=true
  ·exact .inr (decide_eq_false λe=>h (yq4 h2 e))
  ·exact .inl (by simpa using h2)
 | _=>rfl
theorem za5:v9 ["thing","many"] ["thing","many"] (y0 V4):=scq
def A3 (C:Addr):Sp:=λvs H Q E=>∃(x:V) (d:PyData) (n:Nat),vs=[x,.int n]/\Dt H x d/\(∀ds,d=.tuple ds->ds.length<=1000)/\1<=n/\n<=60/\((∃t,d=U6 t/\TM.IsT n t)->∀H',z9 H H'->Q .non H')/\((∀t,d=U6 t->¬TM.IsT n t)->∀H',z9 H H'->E (.ref C) none H')
theorem za0 (D:Def K mg "need_turning" V4 ["thing","many"] f fd) (B:Blt mg) (KT:p5 P w K mg base 3 "is_turning_of" ["thing","many"] zf2) {TE C:Addr} (EA:V6 K mg TE "NoThing" C):i4 P w K mg base 4 "need_turning" ["thing","many"] (A3 C):=by
 refine ⟨f,fd,?_,D.F.kp,D.m,D.b⟩
 refine D.F.okX za5 (λvs H Q E h=>?_) (λcdv A outer s H vs Q E hr h=>?_)
 ·obtain ⟨x,d,n,rfl,_⟩:=h
  rfl
 obtain ⟨x,d,n,rfl,hd,hlen,h1,hn,q,qx⟩:=h
 refine ⟨_,z7 (t8 (d8 (f8 (o9 KT hr rfl (z0 (pv 0) (z0 (pv 1) z4))))) (z7 (V0 EA.m EA.c PySem.F.excBase_ValueError rfl rfl (z0 o8 z4))) y9),?_⟩
 refine ⟨_,rfl,_,rfl,x,d,n,rfl,hd,hlen,λH1 s1=>⟨zb1 n d,rfl,?_⟩⟩
 show if (!zb1 n d)=true then _ else _
 by_cases hT:∃t,d=U6 t/\TM.IsT n t
 ·rw [ya6 h1 hn hT]
  exact w6 (q hT H1 s1)
 ·rw [yh6 hT]
  exact u4 ⟨by decide,qx (λt e tT=>hT ⟨t,e,tT⟩) H1 s1⟩
def zp1 (K:W.Frag)(C:Addr):Sp:=λvs H Q E=>(∃(p:Addr) (l:List Nat),vs=[.ref p]/\H p=some (.tup (tI l))/\l.length<=1000/\(l.Nodup->∀H',z9 H H'->Q .non H')/\(¬l.Nodup->∀H',z9 H H'->E (.ref C) none H')) ∨
 ∃(p:Addr) (as:List Addr) (ps:List (Nat×Nat)),vs=[.ref p]/\H p=some (.lst (as.map V.ref))/\X2 H as ps/\ps.length<=306/\(ps.Nodup->∀H',z9 H H'->Q .non H')/\(¬ps.Nodup->∀H',z9 H H'->E (.ref C) none H')
theorem U1:v9 ["things"] ["things"] (y0 i7):=scq
theorem M1 (D:Def K mg "need_each_once" i7 ["things"] f fd) (B:Blt mg) {TE C:Addr} (KR:p5 P w K mg base 1 "is_each_once" ["things"] (O7 K)) (EA:V6 K mg TE "NoThing" C):r8 P w K mg base (CX1 P w) 2 f fd ["things"] (λvs H Q E=>∃(p:Addr) (l:List Nat),vs=[.ref p]/\H p=some (.tup (tI l))/\l.length<=1000/\(l.Nodup->∀H',z9 H H'->Q .non H')/\(¬l.Nodup->∀H',z9 H H'->E (.ref C) none H')):=by
 refine D.F.okX U1 (λvs H Q E h=>?_) (λcdv A outer s H vs Q E hr h=>?_)
 ·obtain ⟨p,l,rfl,_⟩:=h
  rfl
 obtain ⟨p,l,rfl,hp,hl,q,qx⟩:=h
 refine ⟨_,z7 (t8 (d8 (f8 (o9 KR hr rfl (z0 (pv 0) z4)))) (z7 (V0 EA.m EA.c PySem.F.excBase_ValueError rfl rfl (z0 o8 z4))) y9),?_⟩
 have hnd:(l.map λ(x:Nat)=>(x:Int)).Nodup↔l.Nodup:=⟨λh=>(aH.mp h).imp λhne z=>hne (by rw [z]),λh=>aH.mpr (List.Pairwise.imp (λhne z=>hne (by lia)) h)⟩
 refine ⟨_,rfl,p,l.map λ(x:Nat)=>(x:Int),rfl,.inr (SqT.of (by rw [←U3];exact hp)),by rw [aa];exact hl,λH1 s1=>⟨_,rfl,?_⟩⟩
 by_cases h:l.Nodup
 ·rw [decide_eq_true (hnd.mpr h)]
  exact w6 (q h H1 s1)
 ·rw [decide_eq_false λz=>h (hnd.mp z)]
  exact u4 ⟨by decide,qx h H1 s1⟩
theorem M0 (D:Def K mg "need_each_once" i7 ["things"] f fd) (B:Blt mg) {TE C:Addr} (KR:p5 P w K mg base 1 "is_each_once" ["things"] (O6 K)) (EA:V6 K mg TE "NoThing" C):r8 P w K mg base (CX1 P w) 2 f fd ["things"] (λvs H Q E=>∃(p:Addr) (as:List Addr) (ps:List (Nat×Nat)),vs=[.ref p]/\H p=some (.lst (as.map V.ref))/\X2 H as ps/\ps.length<=306/\(ps.Nodup->∀H',z9 H H'->Q .non H')/\(¬ps.Nodup->∀H',z9 H H'->E (.ref C) none H')):=by
 refine D.F.okX U1 (λvs H Q E h=>?_) (λcdv A outer s H vs Q E hr h=>?_)
 ·obtain ⟨p,as,ps,rfl,_⟩:=h
  rfl
 obtain ⟨p,as,ps,rfl,hp,hP,hl,q,qx⟩:=h
 refine ⟨_,z7 (t8 (d8 (f8 (o9 KR hr rfl (z0 (pv 0) z4)))) (z7 (V0 EA.m EA.c PySem.F.excBase_ValueError rfl rfl (z0 o8 z4))) y9),?_⟩
 refine ⟨_,rfl,p,as,ps,rfl,SqL.of hp,hP,hl,λH1 s1=>⟨_,rfl,?_⟩⟩
 by_cases h:ps.Nodup
 ·rw [decide_eq_true h]
  exact w6 (q h H1 s1)
 ·rw [decide_eq_false h]
  exact u4 ⟨by decide,qx h H1 s1⟩
theorem r8.orX {P:Program}{w:World}{K:W.Frag}{mg:Str->Option Value}{base:Heap}{CX:CXT}{k:Nat}{f:Addr}{fd:FuncData}{ps:List Str}{sp sp':Sp}(a:r8 P w K mg base CX k f fd ps sp)(b:r8 P w K mg base CX k f fd ps sp'):r8 P w K mg base CX k f fd ps (λvs H Q E=>sp vs H Q E∨sp' vs H Q E) where
 len:=λvs H Q E h=>h.elim (a.len vs H Q E) (b.len vs H Q E)
 run:=λA outer s H args us vs Q E hr I hb r h=>h.elim (a.run A outer s H args us vs Q E hr I hb r) (b.run A outer s H args us vs Q E hr I hb r)
theorem F5 (D:Def K mg "need_each_once" i7 ["things"] f fd) (B:Blt mg) {TE C:Addr} (KR:p5 P w K mg base 1 "is_each_once" ["things"] (O7 K)) (KP:p5 P w K mg base 1 "is_each_once" ["things"] (O6 K)) (EA:V6 K mg TE "NoThing" C):i4 P w K mg base 2 "need_each_once" ["things"] (zp1 K C) :=
 ⟨f,fd,r8.orX (M1 D B KR EA) (M0 D B KP EA),D.F.kp,D.m,D.b⟩
def yr1 (l:List Nat):Prop:=l.Pairwise (·<=·)
def pI (x:Nat×Nat):List Int:=[(x.1:Int),(x.2:Int)]
def yr2 (l:List (Nat×Nat)):Prop:=l.Pairwise λx y=>HT.lexLt (pI y) (pI x)=false
def S0:Sp:=λvs H Q _=>(∃(a:Addr) (l:List Nat),vs=[.ref a]/\H a=some (.tup (tI l))/\l.length<64/\∀(m:List Nat) (r:Addr) (H':Hp),m.Perm l->yr1 m->z9 H H'->H' r=some (.tup (tI m))->Q (.ref r) H') ∨
 ∃(a:Addr) (as:List Addr) (ps:List (Nat×Nat)),vs=[.ref a]/\H a=some (.lst (as.map V.ref))/\X2 H as ps/\ps.length<=1000/\∀(qs:List (Nat×Nat)) (bs:List Addr) (r:Addr) (H':Hp),qs.Perm ps->yr2 qs->z9 H H'->H' r=some (.tup (bs.map V.ref))->X2 H' bs qs->Q (.ref r) H'
theorem yg9:v9 ["things"] ["things"] (y0 ze5):=scq
theorem yc4 {l:List Nat}{ms:List Int}(h:ms.Perm (l.map λ(x:Nat)=>(x:Int)))(hs:ms.Pairwise (·<=·)):∃m:List Nat,ms.map V.int=tI m/\m.Perm l/\yr1 m:=by
 have e:ms=(ms.map Int.toNat).map λ(x:Nat)=>(x:Int):=by
  rw [aW]
  conv=>lhs;rw [←bX ms]
  refine ba λx hx=>?_
  obtain ⟨y,_,rfl⟩:=aI.mp (h.mem_iff.mp hx)
  show (y:Int)=((y:Int).toNat:Int)
  lia
 refine ⟨ms.map Int.toNat,?_,?_,?_⟩
 ·rw [U3]
  exact congrArg _ e
 ·have h2:=h.map Int.toNat
  rw [aW] at h2
  have e2:l.map (Int.toNat ∘ λ(x:Nat)=>(x:Int))=l:=by
   conv=>rhs;rw [←bX l]
   exact ba λx _=>aJ x
  rw [e2] at h2
  exact h2
 ·exact aH.mpr (hs.imp λh=>by lia)
theorem zt2 {rs:List (List Int)}{ps:List (Nat×Nat)}(h:rs.Perm (ps.map pI)):∃qs:List (Nat×Nat),rs=qs.map pI/\qs.Perm ps:=by
 have e:rs=(rs.map λr=>((r.getD 0 0).toNat,(r.getD 1 0).toNat)).map pI:=by
  rw [aW]
  conv=>lhs;rw [←bX rs]
  refine ba λx hx=>?_
  obtain ⟨y,_,rfl⟩:=aI.mp (h.mem_iff.mp hx)
  rfl
 refine ⟨_,e,?_⟩
 have h2:=h.map λr=>((r.getD 0 0).toNat,(r.getD 1 0).toNat)
 rw [aW] at h2
 have e2:ps.map ((λr:List Int=>((r.getD 0 0).toNat,(r.getD 1 0).toNat)) ∘ pI)=ps:=by
  conv=>rhs;rw [←bX ps]
  exact ba λx _=>rfl
 rw [e2] at h2
 exact h2
theorem X2.rows {H:Hp}{as:List Addr}{ps:List (Nat×Nat)}(h:X2 H as ps):Paired (λa (x:List Int)=>H a=some (.tup (x.map V.int))) as (ps.map pI):=by
 induction h with
 | nil=>exact .nil
 | cons a _ ih=>exact .cons a ih
theorem X2.of {H:Hp}:∀{bs:List Addr} {qs:List (Nat×Nat)},Paired (λa (x:List Int)=>H a=some (.tup (x.map V.int))) bs (qs.map pI)->X2 H bs qs
 | [],[],_=>.nil
 | _::_,_::_,.cons a h=>.cons a (X2.of h)
theorem yg3 (D:Def K mg "rising" ze5 ["things"] f fd) (B:Blt mg):r8 P w K mg base CX0 1 f fd ["things"] S0:=by
 refine D.F.ok yg9 (λvs H Q E h=>?_) (λcdv A outer s H vs Q E hr h=>?_)
 ·rcases h with ⟨a,l,rfl,_⟩|⟨a,as,ps,rfl,_⟩
  ·rfl
  ·rfl
 refine ⟨_,z7 (y8 (p8 m9 rfl B.tuple l6 (z0 (y6 (zq0 S4 G1) rfl B.sorted N0 (z0 (pv 0) z4)) z4))),?_⟩
 rcases h with ⟨a,l,rfl,ha,hl,q⟩|⟨a,as,ps,rfl,ha,hP,hl,q⟩
 ·refine ⟨_,rfl,.inl ⟨a,l.map λ(x:Nat)=>(x:Int),rfl,SqT.of (by rw [←U3];exact ha),by rw [aa];exact hl,λp ms hp hpm hso=>?_⟩⟩
  obtain ⟨m,em,h1,h2⟩:=yc4 hpm hso
  rw [em]
  have s1:=z6 hp (.lst (tI m))
  have e1:(upd H p (.lst (tI m))) p=some (.lst (tI m)):=z5
  generalize upd H p (.lst (tI m))=H1 at s1 e1 ⊢
  exact ⟨p,_,rfl,.inl ⟨SqL.of e1,λr hr'=>q m r _ h1 h2 (s1.trans (z6 hr' _)) z5⟩⟩
 ·refine ⟨_,rfl,.inr ⟨a,as,ps.map pI,rfl,SqL.of ha,hP.rows,λx hx=>?_,by rw [aa];lia,λp bs rs hp hpm hso hbs=>?_⟩⟩
  ·obtain ⟨y,_,rfl⟩:=aI.mp hx
   intro z
   cases z
  obtain ⟨qs,rfl,hq⟩:=zt2 hpm
  have s1:=z6 hp (.lst (bs.map V.ref))
  have e1:(upd H p (.lst (bs.map V.ref))) p=some (.lst (bs.map V.ref)):=z5
  have b1:=(X2.of hbs).same s1
  generalize upd H p (.lst (bs.map V.ref))=H1 at s1 e1 b1 ⊢
  refine ⟨p,_,rfl,.inl ⟨SqL.of e1,λr hr'=>q qs bs r _ hq (aH.mp hso) (s1.trans (z6 hr' _)) z5 (b1.same (z6 hr' _))⟩⟩
def zf1 (C:Addr):Sp:=λvs H Q E=>∃(x:V) (d:PyData) (n:Nat),vs=[x,.int n]/\Dt H x d/\(∀y,prD n d=some y->∀(r:Addr) (H':Hp),z9 H H'->H' r=some (.tup (pV y))->Q (.ref r) H')/\(prD n d=none->∀H',z9 H H'->E (.ref C) none H')
theorem O5:v9 ["thing","many","pair"] ["thing","many"] (y0 T3):=scq
theorem yq5 {x y:Nat}{m:List Nat}(hp:m.Perm [x,y])(hr:yr1 m):m=[min x y,max x y]:=by
 have hl:=hp.length_eq
 match m,hl with
 | [a,b],_ =>
  have hab:a<=b:=(List.pairwise_cons.mp hr).1 b ap
  have ha:a=x∨a=y:=by simpa using hp.mem_iff.mp (show a∈[a,b] by simp)
  have hb:b=x∨b=y:=by simpa using hp.mem_iff.mp (show b∈[a,b] by simp)
  have hc:x=a∨x=b:=by simpa using hp.mem_iff.mpr (show x∈[x,y] by simp)
  have hd:y=a∨y=b:=by simpa using hp.mem_iff.mpr (show y∈[x,y] by simp)
  rw [show a=min x y by lia,show b=max x y by lia]
theorem zd7 (D:Def K mg "rising_pair" T3 ["thing","many"] f fd) (B:Blt mg) {TE C:Addr} (EA:V6 K mg TE "NoThing" C) (KR:i4 P w K mg base 4 "row_of_places" ["thing","most","many"] (zp2 C)) (KS:p5 P w K mg base 1 "rising" ["things"] S0):i4 P w K mg base 5 "rising_pair" ["thing","many"] (zf1 C):=by
 refine ⟨f,fd,?_,D.F.kp,D.m,D.b⟩
 refine D.F.okX O5 (λvs H Q E h=>?_) (λcdv A outer s H vs Q E hr h=>?_)
 ·obtain ⟨x,d,n,rfl,_⟩:=h
  rfl
 obtain ⟨x,d,n,rfl,hd,q,qx⟩:=h
 refine ⟨_,v8 (n3 (i:=2) O5.nd rfl (Or.inl rfl) (U9 KR hr rfl (z0 (pv 0) (z0 z8 (z0 (pv 1) z4)))))
  (v8 (t8 (PW.pt (L0 (w4 yn1 (y6 u7 rfl B.len i5 (z0 (pv 2) z4)) z8 (w8 _)) (R5 (w4 n6 (V7 zx8 (pv 2) z8 (λ_ _=>rfl)) (V7 zx8 (pv 2) z8 (λ_ _=>rfl)) (w8 _))))) (z7 (V0 EA.m EA.c PySem.F.excBase_ValueError rfl rfl (z0 o8 z4))) y9)
  (z7 (y8 (o9 KS hr rfl (z0 (pv 2) z4))))),?_⟩
 refine ⟨_,rfl,_,rfl,x,d,2,n,rfl,hd,by decide,λl hl r H1 s1 hr1=>?_,λhno H1 s1=>qx (by unfold prD;rw [hno];rfl) H1 s1⟩
 have ep:prD n d=yn3 l:=by unfold prD;rw [hl];rfl
 have hl2:l.length<=2:=by
  unfold Y0 at hl
  obtain ⟨ds,_,h⟩:=Option.bind_eq_some_iff.mp hl
  by_cases hle:ds.length<=2
  ·rw [if_pos hle] at h
   rw [(V9 h).1]
   exact hle
  ·rw [if_neg hle] at h
   cases h
 refine ⟨_,rfl,r,_,rfl,.inr (SqT.of hr1),rfl,_,rfl,?_⟩
 rw [t7,i8]
 match l,hl2 with
 | [],_=>exact u4 ⟨by decide,qx (by rw [ep];rfl) H1 s1⟩
 | [_],_=>exact u4 ⟨by decide,qx (by rw [ep];rfl) H1 s1⟩
 | [y,z],_ =>
  refine w6 ⟨_,rfl,r,_,_,_,rfl,rfl,SqT.of hr1,Z3 (j:=0) rfl,_,rfl,r,_,_,_,rfl,rfl,SqT.of hr1,Z3 (j:=1) rfl,rfl,_,rfl,?_⟩
  show if decide (V.int y=V.int z)=true then _ else _
  by_cases e:y=z
  ·rw [decide_eq_true (by rw [e])]
   exact u4 ⟨by decide,qx (by rw [ep];exact if_pos e) H1 s1⟩
  ·rw [decide_eq_false λz'=>e (by injection z' with z';lia)]
   refine w6 ⟨_,rfl,.inl ⟨r,[y,z],rfl,hr1,by show 2<64;decide,λm r2 H2 hpm hri s2 hrr2=>?_⟩⟩
   rw [yq5 hpm hri] at hrr2
   exact q (min y z,max y z) (by rw [ep];exact if_neg e) r2 H2 (s1.trans s2) hrr2
structure zf6 (K:W.Frag) (C:Addr):Prop where
 cls:Cls K C
 no:P2 K C "many"
def zb2 (H:Hp)(a C:Addr)(n:Nat):Prop:=∃dx,H a=some (.ins C dx [("many",.int n)])
theorem zb2.same {H H':Hp}{a C:Addr}{n:Nat}(h:zb2 H a C n)(s:z9 H H'):zb2 H' a C n:=h.imp λ_ e=>s _ _ e
def O8 (K:W.Frag):Sp:=λvs H Q _=>∃(x dx C:Addr) (n:Nat),vs=[.ref x,.int n]/\H x=some (.ins C dx [])/\zf6 K C/\Q .non (upd H x (.ins C dx [("many",.int n)]))
theorem za2:v9 ["self","many"] ["self","many"] (y0 n4):=scq
theorem Z1 (F:Fun K "__init__" "Act.__init__" n4 f fd):r8 P w K mg base CX0 1 f fd ["self","many"] (O8 K):=by
 refine F.ok za2 (λvs H Q E h=>?_) (λcdv A outer s H vs Q E hr h=>?_)
 ·obtain ⟨x,dx,C,n,rfl,_⟩:=h
  rfl
 obtain ⟨x,dx,C,n,rfl,hx,hC,q⟩:=h
 refine ⟨_,z7 (xb5 (pv 0) (pv 1) rfl),?_⟩
 exact ⟨_,rfl,_,rfl,x,C,dx,[],rfl,hx,hC.cls,hC.no,by decide,q⟩
inductive Kd|pl|ls|st|nt|tn|no
def dPr (x:Nat×Nat):PyData:=.tuple [.int (x.1:Int),.int (x.2:Int)]
def E6 (W:Kd)(n:Nat)(d:PyData)(e:PyData):Prop:=match W with
 | .pl=>∃x,plD n d=some x/\e=d
 | .ls=>∃l,Y0 60 n d=some l/\e=U6 l
 | .st=>∃l m,Y0 60 n d=some l/\l.Nodup/\m.Perm l/\yr1 m/\e=U6 m
 | .nt=>∃ds ps qs,M3 d=some ds/\ds.length<=200/\K9 n ds=some ps/\ps.Nodup/\qs.Perm ps/\yr2 qs/\e=.tuple (qs.map dPr)
 | .tn=>∃t,d=U6 t/\TM.IsT n t/\e=d
 | .no=>False
def S1 (W:Kd)(n:Nat)(d:PyData):Prop:=match W with
 | .pl=>plD n d=none
 | .ls=>Y0 60 n d=none
 | .st=>∀l,Y0 60 n d=some l->¬l.Nodup
 | .nt=>∀ds ps,M3 d=some ds->ds.length<=200->K9 n ds=some ps->¬ps.Nodup
 | .tn=>∀t,d=U6 t->¬TM.IsT n t
 | .no=>True
def Q4 (W:Kd)(K:PySem.W.Frag)(X:Addr):Sp:=λvs H Q E=>∃(a C:Addr) (n:Nat) (x:V) (d:PyData),vs=[.ref a,x]/\zb2 H a C n/\zf6 K C/\1<=n/\n<=60/\Dt H x d/\(∀ds,M3 d=some ds->ds.length<=1000)/\(∀e,E6 W n d e->∀(v:V) (H':Hp),z9 H H'->Dt H' v e->Q v H')/\(S1 W n d->∀H',z9 H H'->E (.ref X) none H')
theorem D2 {H:Hp}{r:Addr}{l:List Nat}(h:H r=some (.tup (tI l))):Dt H (.ref r) (U6 l):=.tup h (K3 l)
theorem zh0:v9 ["self","thing"] ["self","thing"] (y0 R6):=scq
theorem zg0 (F:Fun K "looked" "Act.looked" R6 f fd) {TE X:Addr} (EA:V6 K mg TE "NoThing" X):r8 P w K mg base (CX1 P w) 6 f fd ["self","thing"] (Q4 .no K X):=by
 refine F.okX zh0 (λvs H Q E h=>?_) (λcdv A outer s H vs Q E hr h=>?_)
 ·obtain ⟨a,C,n,x,d,rfl,_⟩:=h
  rfl
 obtain ⟨a,C,n,x,d,rfl,_,_,_,_,_,_,_,qx⟩:=h
 exact ⟨_,z7 (V0 EA.m EA.c PySem.F.excBase_ValueError rfl rfl (z0 o8 z4)),⟨by decide,qx trivial H (z9.refl H)⟩⟩
theorem C6:v9 ["self","thing"] ["self","thing"] (y0 X4):=scq
theorem D6 (F:Fun K "looked" "Places.looked" X4 f fd) {X:Addr} (KP:i4 P w K mg base 3 "need_place" ["thing","many"] (Q5 X)):r8 P w K mg base (CX1 P w) 6 f fd ["self","thing"] (Q4 .pl K X):=by
 refine F.okX C6 (λvs H Q E h=>?_) (λcdv A outer s H vs Q E hr h=>?_)
 ·obtain ⟨a,C,n,x,d,rfl,_⟩:=h
  rfl
 obtain ⟨a,C,n,x,d,rfl,⟨dx,ha⟩,hC,h1,hn,hd,_,q,qx⟩:=h
 refine ⟨_,v8 (c9 (U9 KP hr rfl (z0 (pv 1) (z0 (K6 (pv 0) rfl) z4)))) (z7 (y8 (pv 1))),?_⟩
 exact ⟨_,rfl,_,rfl,a,C,dx,_,_,rfl,ha,hC.cls,hC.no,rfl,x,d,n,rfl,hd,λy hy=>⟨_,rfl,q d ⟨y,hy,rfl⟩ x H (z9.refl H) hd⟩,λz=>qx z H (z9.refl H)⟩
theorem za3:v9 ["self","thing"] ["self","thing"] (y0 V2):=scq
theorem A7 (F:Fun K "looked" "Lists.looked" V2 f fd) {X:Addr} (KR:i4 P w K mg base 4 "row_of_places" ["thing","most","many"] (zp2 X)) (GM:zp7 mg "MOST_IN_ROW" (.int 60)):r8 P w K mg base (CX1 P w) 6 f fd ["self","thing"] (Q4 .ls K X):=by
 refine F.okX za3 (λvs H Q E h=>?_) (λcdv A outer s H vs Q E hr h=>?_)
 ·obtain ⟨a,C,n,x,d,rfl,_⟩:=h
  rfl
 obtain ⟨a,C,n,x,d,rfl,⟨dx,ha⟩,hC,h1,hn,hd,_,q,qx⟩:=h
 refine ⟨_,z7 (y8 (U9 KR hr rfl (z0 (pv 1) (z0 (yc6 GM rfl) (z0 (K6 (pv 0) rfl) z4))))),?_⟩
 exact ⟨_,rfl,_,rfl,a,C,dx,_,_,rfl,ha,hC.cls,hC.no,rfl,x,d,60,n,rfl,hd,by decide,λl hl r H1 s1 hr1=>q _ ⟨l,hl,rfl⟩ _ H1 s1 (D2 hr1),qx⟩
theorem O1:v9 ["self","thing","places"] ["self","thing"] (y0 T1):=scq
theorem V1 {m n:Nat}{d:PyData}{l:List Nat}(h:Y0 m n d=some l):l.length<=m:=by
 unfold Y0 at h
 obtain ⟨ds,_,h⟩:=Option.bind_eq_some_iff.mp h
 by_cases hle:ds.length<=m
 ·rw [if_pos hle] at h
  rw [(V9 h).1]
  exact hle
 ·rw [if_neg hle] at h
  cases h
theorem zd5 (F:Fun K "looked" "Sets.looked" T1 f fd) {X:Addr} (KR:i4 P w K mg base 4 "row_of_places" ["thing","most","many"] (zp2 X)) (KO:i4 P w K mg base 2 "need_each_once" ["things"] (zp1 K X)) (KS:p5 P w K mg base 1 "rising" ["things"] S0) (GM:zp7 mg "MOST_IN_ROW" (.int 60)):r8 P w K mg base (CX1 P w) 6 f fd ["self","thing"] (Q4 .st K X):=by
 refine F.okX O1 (λvs H Q E h=>?_) (λcdv A outer s H vs Q E hr h=>?_)
 ·obtain ⟨a,C,n,x,d,rfl,_⟩:=h
  rfl
 obtain ⟨a,C,n,x,d,rfl,⟨dx,ha⟩,hC,h1,hn,hd,_,q,qx⟩:=h
 refine ⟨_,v8 (n3 (i:=2) O1.nd rfl (Or.inl rfl) (U9 KR hr rfl (z0 (pv 1) (z0 (yc6 GM rfl) (z0 (K6 (pv 0) rfl) z4)))))
  (v8 (c9 (U9 KO hr rfl (z0 (pv 2) z4)))
  (z7 (y8 (o9 KS hr rfl (z0 (pv 2) z4))))),?_⟩
 refine ⟨_,rfl,_,rfl,a,C,dx,_,_,rfl,ha,hC.cls,hC.no,rfl,x,d,60,n,rfl,hd,by decide,λl hl r H1 s1 hr1=>?_,λz H1 s1=>qx (λl hl=>by rw [z] at hl;cases hl) H1 s1⟩
 have hll:=V1 hl
 refine ⟨_,rfl,.inl ⟨r,l,rfl,hr1,by lia,λhnd H2 s2=>?_,λhnd H2 s2=>qx (λl' hl'=>by rw [hl] at hl';cases hl';exact hnd) H2 (s1.trans s2)⟩⟩
 exact ⟨_,rfl,.inl ⟨r,l,rfl,s2 _ _ hr1,by lia,λm r2 H3 hpm hri s3 hrr2=>q _ ⟨l,m,hl,hnd,hpm,hri,rfl⟩ _ H3 (s1.trans (s2.trans s3)) (D2 hrr2)⟩⟩
theorem za4:v9 ["self","thing"] ["self","thing"] (y0 V3):=scq
theorem A8 (F:Fun K "looked" "Turns.looked" V3 f fd) {X:Addr} (KT:i4 P w K mg base 4 "need_turning" ["thing","many"] (A3 X)):r8 P w K mg base (CX1 P w) 6 f fd ["self","thing"] (Q4 .tn K X):=by
 refine F.okX za4 (λvs H Q E h=>?_) (λcdv A outer s H vs Q E hr h=>?_)
 ·obtain ⟨a,C,n,x,d,rfl,_⟩:=h
  rfl
 obtain ⟨a,C,n,x,d,rfl,⟨dx,ha⟩,hC,h1,hn,hd,hlen,q,qx⟩:=h
 refine ⟨_,v8 (c9 (U9 KT hr rfl (z0 (pv 1) (z0 (K6 (pv 0) rfl) z4)))) (z7 (y8 (pv 1))),?_⟩
 exact ⟨_,rfl,_,rfl,a,C,dx,_,_,rfl,ha,hC.cls,hC.no,rfl,x,d,n,rfl,hd,λds e=>hlen ds (by rw [e];rfl),h1,hn,λ⟨t,e,hT⟩ H1 s1=>⟨_,rfl,q d ⟨t,e,hT,rfl⟩ x H1 s1 (hd.same s1)⟩,qx⟩
theorem zx1 {J:It}{fr:List Nat}{te:CT TE}{σ:St}{H1:Hp}{Q:Addr->Hp->Prop}(j:Nat)(hz:j<sizeLine)(hgo:∀i H,i<=j->z9 H1 H->J.go i H)
  (turn:∀(i:Nat) H x H2,i<=j->z9 H1 H->J.yld i H x H2->H2=H/\∀C₀ s₀ H₀ fp,te C₀ s₀ H₀ fp (some x::fr.map λj=>(σ[j]?).getD none) H λ_ H4=>z9 H H4/\i<j) :
  ∀D,H1 D=none->∃W:Nat->Nat->St->Hp->Prop,(∃m,W 0 m (Q7 1 fr σ) (upd H1 D (.lst [])))/\∀i m σ' H',W i m σ' H' ->
  (J.stop i H'/\Q D H')∨(J.go i H'/\∀x H2,J.yld i H' x H2->∀C₀ s₀ H₀ fp,Y1 0 x σ' H2 λσ3 H3=>∃N:VK,te C₀ s₀ H₀ fp σ3 H3 N/\∀y H4,N y H4 ->
   ∃ys m',H4 D=some (.lst ys)/\ys.length<sizeLine/\m'<m/\W (i+1) m' σ3 (upd H4 D (.lst (ys++[y])))):=by
 intro D hD
 refine ⟨λi m σ' H'=>m=j+1-i/\i<=j/\z9 H1 H'/\(∃ys:List V,H' D=some (.lst ys)/\ys.length=i)/\∃z,σ'=z::fr.map λj=>(σ[j]?).getD none,⟨j+1,rfl,ax _,z6 hD _,⟨[],z5,rfl⟩,none,rfl⟩,?_⟩
 rintro i m σ' H' ⟨rfl,hi,sm,⟨ys,hl,hyl⟩,z,rfl⟩
 refine .inr ⟨hgo i H' hi sm,λx H2 yl C₀ s₀ H₀ fp=>?_⟩
 obtain ⟨e,tn⟩:=turn i H' x H2 hi sm yl
 subst e
 refine ⟨_,tn C₀ s₀ H₀ fp,λy H4 ⟨s4,hlt⟩=>⟨ys,j+1-(i+1),s4 _ _ hl,by lia,by lia,rfl,hlt,?_,⟨ys++[y],z5,by rw [al,hyl];rfl⟩,_,rfl⟩⟩
 intro b u e
 rw [u9 (u8 e hD)]
 exact s4 _ _ (sm _ _ e)
theorem yf0 {J:It}{fr:List Nat}{te:CT TE}{σ:St}{H1:Hp}{Q:Addr->Hp->Prop}{β:Type}(adr:β->Addr)(val:β->List V)(Pr:Nat->β->Prop){n:Nat}(hz:n<=sizeLine)(hstop:∀H,z9 H1 H->J.stop n H)(hgo:∀i H,i<n->z9 H1 H->J.go i H)
  (turn:∀(i:Nat) H x H2,i<n->z9 H1 H->J.yld i H x H2->H2=H/\∀C₀ s₀ H₀ fp,te C₀ s₀ H₀ fp (some x::fr.map λj=>(σ[j]?).getD none) H λv H4=>z9 H H4/\∃b,v=.ref (adr b)/\H4 (adr b)=some (.tup (val b))/\Pr i b)
  (fin:∀D H (bs:List β),H1 D=none->z9 H1 H->H D=some (.lst (bs.map λb=>V.ref (adr b)))->bs.length=n->(∀i b,bs[i]?=some b->H (adr b)=some (.tup (val b))/\Pr i b)->Q D H) :
  ∀D,H1 D=none->∃W:Nat->Nat->St->Hp->Prop,(∃m,W 0 m (Q7 1 fr σ) (upd H1 D (.lst [])))/\∀i m σ' H',W i m σ' H' ->
  (J.stop i H'/\Q D H')∨(J.go i H'/\∀x H2,J.yld i H' x H2->∀C₀ s₀ H₀ fp,Y1 0 x σ' H2 λσ3 H3=>∃N:VK,te C₀ s₀ H₀ fp σ3 H3 N/\∀y H4,N y H4 ->
   ∃ys m',H4 D=some (.lst ys)/\ys.length<sizeLine/\m'<m/\W (i+1) m' σ3 (upd H4 D (.lst (ys++[y])))):=by
 intro D hD
 refine ⟨λi m σ' H'=>m=n-i/\i<=n/\z9 H1 H'/\(∃bs:List β,H' D=some (.lst (bs.map λb=>V.ref (adr b)))/\bs.length=i/\∀k b,bs[k]?=some b->H' (adr b)=some (.tup (val b))/\Pr k b)/\∃z,σ'=z::fr.map λj=>(σ[j]?).getD none,
  ⟨n,rfl,ax _,z6 hD _,⟨[],z5,rfl,λk b h=>(by simp at h)⟩,none,rfl⟩,?_⟩
 rintro i m σ' H' ⟨rfl,hi,sm,⟨bs,hl,hbl,hRs⟩,z,rfl⟩
 by_cases hlt:i<n
 ·refine .inr ⟨hgo i H' hlt sm,λx H2 yl C₀ s₀ H₀ fp=>?_⟩
  obtain ⟨e,tn⟩:=turn i H' x H2 hlt sm yl
  subst e
  refine ⟨_,tn C₀ s₀ H₀ fp,?_⟩
  rintro y H4 ⟨s4,b,rfl,hb,hp⟩
  have hne:∀{c:Addr} {vs:List V},H4 c=some (.tup vs)->c≠D:=λh e'=>by rw [e',s4 _ _ hl] at h;cases h
  refine ⟨_,n-(i+1),s4 _ _ hl,by rw [aa];lia,by lia,rfl,hlt,λc u hc=>by rw [u9 (u8 hc hD)];exact s4 _ _ (sm _ _ hc),⟨bs++[b],by rw [z5,bo];rfl,by rw [al,hbl];rfl,λk c hk=>?_⟩,_,rfl⟩
  have hc:H4 (adr c)=some (.tup (val c))/\Pr k c:=by
   rcases bP k bs.length with h|h
   ·rw [aQ h] at hk
    obtain ⟨h1,h2⟩:=hRs k c hk
    exact ⟨s4 _ _ h1,h2⟩
   ·rw [aU h] at hk
    have hk0:k-bs.length=0:=by
     have:=(ar.mp hk).1
     simp at this
     lia
    rw [hk0] at hk
    cases hk
    rw [show k=i by lia]
    exact ⟨hb,hp⟩
  exact ⟨by rw [u9 (hne hc.1)];exact hc.1,hc.2⟩
 ·have e:i=n:=by lia
  subst e
  exact .inl ⟨hstop H' sm,fin D H' bs hD sm hl hbl hRs⟩
theorem zj4 {n:Nat}:∀{ds:List PyData},K9 n ds=none->∃(j:Nat) (d:PyData),ds[j]?=some d/\prD n d=none
 | [],h=>by cases h
 | d::ds,h=>by
  cases e:prD n d with
  | none=>exact ⟨0,d,rfl,e⟩
  | some x =>
   unfold K9 at h
   rw [e] at h
   cases e':K9 n ds with
   | none =>
    obtain ⟨j,d',h1,h2⟩:=zj4 e'
    exact ⟨j+1,d',h1,h2⟩
   | some l=>rw [e'] at h;cases h
theorem Y6 {n:Nat}:∀{ds:List PyData} {ps:List (Nat×Nat)},K9 n ds=some ps->ps.length=ds.length/\∀(i:Nat) (d:PyData),ds[i]?=some d->∃x,ps[i]?=some x/\prD n d=some x
 | [],ps,h=>by
  cases h
  exact ⟨rfl,λi d h=>by cases h⟩
 | d::ds,ps,h=>by
  obtain ⟨x,hx,h⟩:=Option.bind_eq_some_iff.mp h
  obtain ⟨l,hl,rfl⟩:=bG.mp h
  obtain ⟨a,b⟩:=Y6 hl
  refine ⟨by rw [ag,ag,a],λi d' hi=>?_⟩
  cases i with
  | zero=>cases hi;exact ⟨x,rfl,hx⟩
  | succ i=>exact b i d' hi
theorem zx2 {H:Hp}:∀{bs:List Addr} {qs:List (Nat×Nat)},X2 H bs qs->Dts H (bs.map V.ref) (qs.map dPr)
 | [],[],_=>.nil
 | _::_,_::_,.cons a h=>.cons (.tup a (.cons (.int _) (.cons (.int _) .nil))) (zx2 h)
theorem O0:v9 ["self","thing","pairs"] ["self","thing"] (y0 T0):=scq
theorem zd4 (F:Fun K "looked" "Nets.looked" T0 f fd) {X:Addr} (KR:i4 P w K mg base 1 "need_row" ["thing","most"] (Q6 X)) (KP:i4 P w K mg base 5 "rising_pair" ["thing","many"] (zf1 X)) (KO:i4 P w K mg base 2 "need_each_once" ["things"] (zp1 K X)) (KS:p5 P w K mg base 1 "rising" ["things"] S0) (GM:zp7 mg "MOST_PAIRS" (.int 200)):r8 P w K mg base (CX1 P w) 6 f fd ["self","thing"] (Q4 .nt K X):=by
 refine F.okX O0 (λvs H Q E h=>?_) (λcdv A outer s H vs Q E hr h=>?_)
 ·obtain ⟨a,C,n,x,d,rfl,_⟩:=h
  rfl
 obtain ⟨a,C,n,x,d,rfl,⟨dx,ha⟩,hC,h1,hn,hd,_,q,qx⟩:=h
 have hz:=p7
 refine ⟨_,v8 (c9 (U9 KR hr rfl (z0 (pv 1) (z0 (yc6 GM rfl) z4))))
  (v8 (zt9 (i:=2) xf1 rfl rfl [0] ["pair","self"] O0.nd rfl rfl rfl (zn9 (pv 1)) (λ_ _ _ _=>xb1 KP hr rfl (z0 (pv 0) (z0 (K6 (pv 1) rfl) z4))))
  (v8 (c9 (U9 KO hr rfl (z0 (pv 2) z4)))
  (z7 (y8 (o9 KS hr rfl (z0 (pv 2) z4)))))),?_⟩
 refine ⟨_,rfl,x,d,200,rfl,hd,λ⟨ds,hds,hl⟩ H1 s1=>?_,λhno H1 s1=>qx (λds ps h1 h2 _=>absurd h2 (Nat.not_le.mpr (hno ds h1))) H1 s1⟩
 have hd1:=hd.same s1
 have key:∀{J:It} {xs:List V},Dts H1 xs ds->(∀H,z9 H1 H->J.stop xs.length H)->(∀i H,i<xs.length->z9 H1 H->J.go i H)->(∀i H y H2,i<xs.length->z9 H1 H->J.yld i H y H2->H2=H/\xs[i]?=some y)->∀{te:CT TE} {fr:List Nat} {σ:St} {R:Addr->Hp->Prop},(∀H2 y e,z9 H1 H2->e∈ds->Dt H2 y e->∀C₀ s₀ H₀ fp N,(∀z,prD n e=some z->∀r H3,z9 H2 H3->H3 r=some (.tup (pV z))->N (.ref r) H3)->te C₀ s₀ H₀ fp (some y::fr.map λj=>(σ[j]?).getD none) H2 N)->(∀D H2 bs ps,K9 n ds=some ps->z9 H1 H2->H2 D=some (.lst (bs.map V.ref))->X2 H2 bs ps->R D H2) ->
   ∀D,H1 D=none->∃W:Nat->Nat->St->Hp->Prop,(∃m,W 0 m (Q7 1 fr σ) (upd H1 D (.lst [])))/\∀i m σ' H',W i m σ' H'->(J.stop i H'/\R D H')∨(J.go i H'/\∀x H2,J.yld i H' x H2->∀C₀ s₀ H₀ fp,Y1 0 x σ' H2 λσ3 H3=>∃N:VK,te C₀ s₀ H₀ fp σ3 H3 N/\∀y H4,N y H4->∃ys m',H4 D=some (.lst ys)/\ys.length<sizeLine/\m'<m/\W (i+1) m' σ3 (upd H4 D (.lst (ys++[y])))):=λ{J xs} hs hstop hgo hyld {te fr σ R} hte hR=>by
  have hxl:=hs.length
  cases e:K9 n ds with
  | none =>
   obtain ⟨j,dj,hj,hno⟩:=zj4 e
   have hjl:j<xs.length:=by rw [hxl];exact (ar.mp hj).1
   refine zx1 j (by lia) (λi H2 hi s2=>hgo i H2 (by lia) s2) λi H2 y H3 hi s2 yl=>?_
   obtain ⟨rfl,hy⟩:=hyld i H2 y H3 (by lia) s2 yl
   obtain ⟨di,hdi,hdy⟩:=S5 hs i y hy
   refine ⟨rfl,λC₀ s₀ H₀ fp=>hte _ y di s2 (ay hdi) (hdy.same s2) C₀ s₀ H₀ fp _ λz hz' r H4 s4 _=>⟨s4,bH hi λe'=>?_⟩⟩
   subst e'
   rw [hj] at hdi
   cases hdi
   rw [hno] at hz'
   cases hz'
  | some ps =>
   obtain ⟨hpl,hpa⟩:=Y6 e
   refine yf0 (J:=J) (λb:Addr×(Nat×Nat)=>b.1) (λb=>pV b.2) (λi b=>ps[i]?=some b.2) (n:=xs.length) (by lia) hstop hgo ?_ ?_
   ·intro i H2 y H3 hi s2 yl
    obtain ⟨rfl,hy⟩:=hyld i H2 y H3 hi s2 yl
    obtain ⟨di,hdi,hdy⟩:=S5 hs i y hy
    obtain ⟨w',hw1,hw2⟩:=hpa i di hdi
    refine ⟨rfl,λC₀ s₀ H₀ fp=>hte _ y di s2 (ay hdi) (hdy.same s2) C₀ s₀ H₀ fp _ λz hz' r H4 s4 hr4=>⟨s4,(r,z),rfl,hr4,?_⟩⟩
    rw [hw2] at hz'
    cases hz'
    exact hw1
   ·intro D H2 bs hD0 s2 hD hbl hbs
    refine hR D H2 (bs.map Prod.fst) ps e s2 (by rw [hD,aW];rfl) ?_
    have hsp:bs.map Prod.snd=ps:=by
     apply cm
     intro i
     rw [au]
     cases eb:bs[i]? with
     | none=>rw [cj.mpr (by have:=cj.mp eb;lia)];rfl
     | some b=>rw [(hbs i b eb).2];rfl
    rw [←hsp]
    clear hsp hD hbl
    have hall:∀b∈bs,H2 b.1=some (.tup (pV b.2)):=λb hb=>by
     obtain ⟨i,hi,rfl⟩:=bK.mp hb
     exact (hbs i _ (ah hi)).1
    clear hbs
    induction bs with
    | nil=>exact .nil
    | cons b bs ih=>exact .cons (hall b ap) (ih λb' hb'=>hall b' (aj _ hb'))
 have fin1:∀{D:Addr} {H2 H3:Hp} {bs:List Addr} {ps:List (Nat×Nat)},K9 n ds=some ps->z9 H1 H2->H2 D=some (.lst (bs.map V.ref))->X2 H2 bs ps->ps.Nodup->z9 H2 H3->S0 [.ref D] H3 Q E0:=λ{D H2 H3 bs ps} e s2 hD hP hnd s3=>by
  obtain ⟨hpl,_⟩:=Y6 e
  exact .inr ⟨D,bs,ps,rfl,s3 _ _ hD,hP.same s3,by lia,λqs cs r H4 hpm hri s4 hr4 hP4=>q _ ⟨ds,ps,qs,hds,hl,e,hnd,hpm,hri,rfl⟩ _ H4 (s1.trans (s2.trans (s3.trans s4))) (.tup hr4 (zx2 hP4))⟩
 have fin2:∀{ps:List (Nat×Nat)},K9 n ds=some ps->¬ps.Nodup->S1 .nt n d:=λ{ps} e hnd ds' ps' h1 h2 h3=>by
  rw [hds] at h1
  cases h1
  rw [e] at h3
  cases h3
  exact hnd
 have noel:∀{e:PyData},e∈ds->prD n e=none->S1 .nt n d:=λ{e} he hno ds' ps' h1 h2 h3=>by
  rw [hds] at h1
  cases h1
  obtain ⟨i,hi,rfl⟩:=bK.mp he
  obtain ⟨x,_,hx⟩:=(Y6 h3).2 i _ (ah hi)
  rw [hno] at hx
  cases hx
 cases hd1 with
 | @lst a' xs ds' e hs =>
  cases hds
  refine ⟨_,rfl,a',rfl,.inl ⟨⟨_,SqL.of e⟩,key (J:=Itl K a') hs (λH2 s2=>⟨xs,SqL.of (s2 _ _ e),af _⟩) (λi H2 hi s2=>⟨xs,xs[i],SqL.of (s2 _ _ e),ah hi⟩) (λi H2 y H3 hi s2 yl=>⟨yl.1,yl.2 xs (SqL.of (s2 _ _ e))⟩) (λH2 y e' s2 hm hy C₀ s₀ H₀ fp N hN=>?_) λD H2 bs ps ep s2 hD hP=>?_⟩⟩
  ·exact ⟨_,rfl,_,rfl,a,C,dx,_,_,rfl,s2 _ _ (s1 _ _ ha),hC.cls,hC.no,rfl,y,e',n,rfl,hy,hN,λhno H3 s3=>qx (noel hm hno) H3 (s1.trans (s2.trans s3))⟩
  ·have hpl:=(Y6 ep).1
   exact ⟨_,rfl,.inr ⟨D,bs,ps,rfl,hD,hP,by lia,λhnd H3 s3=>⟨_,rfl,fin1 ep s2 hD hP hnd s3⟩,λhnd H3 s3=>qx (fin2 ep hnd) H3 (s1.trans (s2.trans s3))⟩⟩
 | @tup a' xs ds' e hs =>
  cases hds
  refine ⟨_,rfl,a',rfl,.inr ⟨⟨_,SqT.of e⟩,key (J:=Itt K a') hs (λH2 s2=>⟨xs,SqT.of (s2 _ _ e),af _⟩) (λi H2 hi s2=>⟨xs,xs[i],SqT.of (s2 _ _ e),ah hi⟩) (λi H2 y H3 hi s2 yl=>⟨yl.1,yl.2 xs (SqT.of (s2 _ _ e))⟩) (λH2 y e' s2 hm hy C₀ s₀ H₀ fp N hN=>?_) λD H2 bs ps ep s2 hD hP=>?_⟩⟩
  ·exact ⟨_,rfl,_,rfl,a,C,dx,_,_,rfl,s2 _ _ (s1 _ _ ha),hC.cls,hC.no,rfl,y,e',n,rfl,hy,hN,λhno H3 s3=>qx (noel hm hno) H3 (s1.trans (s2.trans s3))⟩
  ·have hpl:=(Y6 ep).1
   exact ⟨_,rfl,.inr ⟨D,bs,ps,rfl,hD,hP,by lia,λhnd H3 s3=>⟨_,rfl,fin1 ep s2 hD hP hnd s3⟩,λhnd H3 s3=>qx (fin2 ep hnd) H3 (s1.trans (s2.trans s3))⟩⟩
 | _=>cases hds
theorem yg7 {qs qs':List (Nat×Nat)}(h:yr2 qs)(h':yr2 qs')(p:qs.Perm qs'):qs=qs' :=
 List.Perm.eq_of_pairwise (λa b _ _ h1 h2=>by
  have e:=zr8 h2 h1
  have e1:=(List.cons.inj e).1
  have e2:=(List.cons.inj (List.cons.inj e).2).1
  exact Prod.ext (by lia) (by lia)) h h' p
theorem E6.uniq {W:Kd}{n:Nat}{d e e':PyData}(h:E6 W n d e)(h':E6 W n d e'):e=e':=by
 cases W with
 | pl =>
  obtain ⟨_,_,rfl⟩:=h
  obtain ⟨_,_,rfl⟩:=h'
  rfl
 | ls =>
  obtain ⟨l,hl,rfl⟩:=h
  obtain ⟨l',hl',rfl⟩:=h'
  rw [hl] at hl'
  cases hl'
  rfl
 | st =>
  obtain ⟨l,m,hl,_,hp,hr,rfl⟩:=h
  obtain ⟨l',m',hl',_,hp',hr',rfl⟩:=h'
  rw [hl] at hl'
  cases hl'
  rw [List.Perm.eq_of_pairwise (λa b _ _ h1 h2=>cb h1 h2) hr hr' (hp.trans hp'.symm)]
 | nt =>
  obtain ⟨ds,ps,qs,h1,_,h3,_,hp,hr,rfl⟩:=h
  obtain ⟨ds',ps',qs',h1',_,h3',_,hp',hr',rfl⟩:=h'
  rw [h1] at h1'
  cases h1'
  rw [h3] at h3'
  cases h3'
  rw [yg7 hr hr' (hp.trans hp'.symm)]
 | tn =>
  obtain ⟨_,_,_,rfl⟩:=h
  obtain ⟨_,_,_,rfl⟩:=h'
  rfl
 | no=>exact h.elim
theorem E6.not_no {W:Kd}{n:Nat}{d e:PyData}(h:E6 W n d e):¬S1 W n d:=by
 cases W with
 | pl =>
  obtain ⟨x,hx,_⟩:=h
  exact λz=>by rw [show plD n d=none from z] at hx;cases hx
 | ls =>
  obtain ⟨l,hl,_⟩:=h
  exact λz=>by rw [show Y0 60 n d=none from z] at hl;cases hl
 | st =>
  obtain ⟨l,m,hl,hn,_⟩:=h
  exact λz=>z l hl hn
 | nt =>
  obtain ⟨ds,ps,qs,h1,h2,h3,h4,_⟩:=h
  exact λz=>z ds ps h1 h2 h3 h4
 | tn =>
  obtain ⟨t,e1,hT,_⟩:=h
  exact λz=>z t e1 hT
 | no=>exact h.elim
def g7 (k:Nat)(d:PyData):Prop:=d.canLay0=true/\d.depth<=k
def n5 (k:Nat)(ds:List PyData):Prop:=PyData.canLayAll0 ds=true/\PyData.depthAll ds<=k
theorem n5.nil {k:Nat}:n5 k []:=⟨by simp [PyData.canLayAll0],by simp [PyData.depthAll]⟩
theorem n5.cons {k:Nat}{d:PyData}{ds:List PyData}(h:g7 k d)(r:n5 k ds):n5 k (d::ds):=⟨by rw [PyData.canLayAll0,h.1,r.1];rfl,by rw [PyData.depthAll];exact Nat.max_le.mpr ⟨h.2,r.2⟩⟩
theorem n5.of {k:Nat}:∀{ds:List PyData},(∀d∈ds,g7 k d)->n5 k ds
 | [],_=>.nil
 | _::_,h=>.cons (h _ ap) (n5.of λd hd=>h d (aj _ hd))
theorem g7.lst {k:Nat}{ds:List PyData}(h:n5 k ds):g7 (k+1) (.list ds):=⟨by rw [PyData.canLay0];exact h.1,by rw [PyData.depth];have:=h.2;lia⟩
theorem g7.tup {k:Nat}{ds:List PyData}(h:n5 k ds):g7 (k+1) (.tuple ds):=⟨by rw [PyData.canLay0];exact h.1,by rw [PyData.depth];have:=h.2;lia⟩
theorem g7.int {k:Nat}(i:Int):g7 k (.int i):=⟨by simp [PyData.canLay0],by simp [PyData.depth]⟩
theorem g7.mono {k j:Nat}{d:PyData}(h:g7 k d)(hk:k<=j):g7 j d:=⟨h.1,aB h.2 hk⟩
theorem g7.shaped {d:PyData}(h:g7 6 d):PySem.SeqAt.shaped d=true:=by
 unfold PySem.SeqAt.shaped
 rw [aG,decide_eq_true_eq]
 have:=h.2
 exact ⟨h.1,by lia⟩
theorem W4 (l:List Nat):n5 0 (l.map λ(x:Nat)=>PyData.int x):=n5.of λd hd=>by
 obtain ⟨x,_,rfl⟩:=aI.mp hd
 exact .int _
theorem g7.eqv {k:Nat}{d:PyData}(h:g7 k d):PyData.eqv d d=true:=PySem.SeqAt.eqv_refl _ h.1
theorem g7.row (t:List Nat):g7 1 (U6 t):=.tup (W4 t)
theorem E6.lay {W:Kd}{n:Nat}{d e:PyData}(h:E6 W n d e):g7 2 e:=by
 cases W with
 | pl =>
  obtain ⟨x,hx,rfl⟩:=h
  rw [(zo1 hx).1]
  exact .int _
 | ls=>obtain ⟨l,_,rfl⟩:=h;exact (g7.row l).mono (by decide)
 | st=>obtain ⟨_,m,_,_,_,_,rfl⟩:=h;exact (g7.row m).mono (by decide)
 | nt =>
  obtain ⟨_,_,qs,_,_,_,_,_,_,rfl⟩:=h
  exact .tup (n5.of λd hd=>by
   obtain ⟨x,_,rfl⟩:=aI.mp hd
   exact g7.row [x.1,x.2])
 | tn=>obtain ⟨t,e1,_,rfl⟩:=h;rw [e1];exact (g7.row t).mono (by decide)
 | no=>exact h.elim
def zv3 (K:W.Frag):Sp:=λvs H Q _=>∃(a:Addr) (ns:List Int) (k:Nat),vs=[.ref a,.int k]/\SqL K H a (ns.map V.int)/\Q (.int (ns.getD k 0)) H
theorem zo6:v9 ["_law_script","_law_k"] ["_law_script","_law_k"] (y0 P8):=scq
theorem zm8 (D:Def K mg "_law_cell" P8 ["_law_script","_law_k"] f fd) (B:Blt mg):r8 P w K mg base CX0 1 f fd ["_law_script","_law_k"] (zv3 K):=by
 refine D.F.ok zo6 (λvs H Q E h=>?_) (λcdv A outer s H vs Q E hr h=>?_)
 ·obtain ⟨a,ns,k,rfl,_⟩:=h
  rfl
 obtain ⟨a,ns,k,rfl,hS,q⟩:=h
 refine ⟨_,v8 (t8 (w4 B8 (pv 1) (y6 u7 rfl B.len i5 (z0 (pv 0) z4)) (w8 _)) (z7 (y8 (V7 W0 (pv 0) (pv 1) (λ_ _=>rfl)))) y9) (z7 (y8 z8)),?_⟩
 refine ⟨_,rfl,_,rfl,a,_,rfl,.inl hS,_,_,rfl,rfl,_,rfl,?_⟩
 refine xi0 (λc=>?_) (λc=>?_)
 ·have c':(k:Int)<(((ns.map V.int).length:Nat):Int):=of_decide_eq_true c
  rw [aa] at c'
  have hk:k<ns.length:=by omega
  have e:ns.getD k 0=ns[k]:=by rw [aK,ah hk];rfl
  rw [e] at q
  exact ⟨_,rfl,_,rfl,a,_,_,_,rfl,rfl,hS,Z3 (by rw [au,ah hk];rfl),q⟩
 ·have c':¬(k:Int)<(((ns.map V.int).length:Nat):Int):=of_decide_eq_false (dg.mpr c)
  rw [aa] at c'
  have e:ns.getD k 0=0:=by rw [aK,bB (by omega)];rfl
  rw [e] at q
  exact q
theorem zh2:v9 ["_law_found"] ["_law_found"] (y0 Q1):=scq
theorem zg6 (D:Def K mg "_law_whole" Q1 ["_law_found"] f fd) (B:Blt mg):r8 P w K mg base CX0 1 f fd ["_law_found"] Z9:=by
 refine D.F.ok zh2 (λvs H Q E h=>?_) (λcdv A outer s H vs Q E hr h=>?_)
 ·obtain ⟨x,d,rfl,_⟩:=h
  rfl
 obtain ⟨x,d,rfl,hd,q⟩:=h
 refine ⟨_,z7 (y8 (K5 (y6 d7 rfl B.isinstance u5 (z0 (pv 0) (z0 (e9 (v:=.ty "int") rfl B.int yi4 rfl) z4)))
  (C1 (zz2 (y6 d7 rfl B.isinstance u5 (z0 (pv 0) (z0 (e9 (v:=.ty "bool") rfl B.bool yb3 rfl) z4))))))),?_⟩
 refine ⟨_,rfl,_,_,_,_,rfl,hd.ty,W9 (yk9 d),_,rfl,?_⟩
 cases d with
 | int i=>exact u4 ⟨_,rfl,_,_,_,_,rfl,hd.ty,W9 (za8 _),_,rfl,q⟩
 | bool b=>exact u4 ⟨_,rfl,_,_,_,_,rfl,hd.ty,W9 (za8 _),_,rfl,q⟩
 | none=>exact w6 q
 | str _=>exact w6 q
 | list _=>exact w6 q
 | tuple _=>exact w6 q
 | dict _=>exact w6 q
def yd4:Sp:=λ_ _ _ _=>False
def d6 (spR:Sp):Sp:=λvs H Q _=>(∃(i:Int) (k:Nat),vs=[.int i,.int k]/\∀H':Hp,z9 H H'->Q (.bl true) H') ∨
 ∃(a:Addr) (xs:List V) (k:Nat),vs=[.ref a,.int k]/\0<k/\H a=some (.tup xs)/\xs.length<=1000/\(∀(i:Nat) x,xs[i]?=some x->∀H1:Hp,z9 H H1->∀(Q':VK) (E':XK),(∀H2:Hp,z9 H1 H2->Q' (.bl true) H2)->spR [x,.int ((k:Int)-1)] H1 Q' E')/\∀H':Hp,z9 H H'->Q (.bl true) H'
theorem zh1:v9 ["_law_found","_law_depth"] ["_law_found","_law_depth"] (y0 W2):=scq
theorem yz3:r8 P w K mg base CX0 1 f fd ["_law_found","_law_depth"] yd4:=⟨λ_ _ _ _ h=>h.elim,λ_ _ _ _ _ _ _ _ _ _ _ _ _ h=>h.elim⟩
theorem zm0:i6 "int" "tuple"=some false:=by decide +kernel
theorem K7 {k:Nat}{spR:Sp}(D:Def K mg "_law_plain" W2 ["_law_found","_law_depth"] f fd) (B:Blt mg) (KW:p5 P w K mg base 1 "_law_whole" ["_law_found"] Z9) (hk:1<=k) (KR:p5 P w K mg base k "_law_plain" ["_law_found","_law_depth"] spR):r8 P w K mg base CX0 (k+1) f fd ["_law_found","_law_depth"] (d6 spR):=by
 refine D.F.ok zh1 (λvs H Q E h=>?_) (λcdv A outer s H vs Q E hr h=>?_)
 ·rcases h with ⟨i,m,rfl,_⟩|⟨a,xs,m,rfl,_⟩
  ·rfl
  ·rfl
 have hz:=p7
 refine ⟨_,v8 (t8 (PW.pt (R4 (f8 (y6 d7 rfl B.isinstance u5 (z0 (pv 0) (z0 (e9 (v:=.ty "tuple") rfl B.tuple l6 rfl) z4)))) (W1 (w4 zj2 (pv 1) z8 (w8 _))))) (z7 (y8 (y6 (E7 rfl) rfl B.all zw9 (z0 (ze0 [1] ["_law_one","_law_depth"] rfl (yn9 (pv 0)) (λ_ _ _ _=>o9 KR hr rfl (z0 (pv 0) (z0 (u0 zz0 (pv 1) z8) z4)) (af _))) z4)))) y9)
  (z7 (y8 (o9 KW hr rfl (z0 (pv 0) z4) hk))),?_⟩
 rcases h with ⟨i,m,rfl,q⟩|⟨a,xs,m,rfl,hm,ha,hl,hel,q⟩
 ·refine ⟨_,rfl,_,_,_,_,rfl,P0.int i,W9 zm0,_,rfl,w6 ?_⟩
  exact ⟨_,rfl,.int i,.int i,rfl,.int i,q H (z9.refl _)⟩
 ·refine ⟨_,rfl,_,_,_,_,rfl,P0.tup ha,W9 P4,_,rfl,u4 ⟨_,rfl,_,_,rfl,rfl,_,rfl,?_⟩⟩
  show if decide ((0:Int)<(m:Int))=true then _ else _
  rw [decide_eq_true (by lia)]
  refine u4 ?_
  refine ⟨_,rfl,a,rfl,⟨_,SqT.of ha⟩,zb8 (SqT.of ha) ((List.replicate xs.length true).map V.bl) (by rw [aa,bU]) (by lia) ?_ ?_⟩
  ·intro i H1 x hx s1 _ _ _ _
   refine ⟨_,rfl,_,rfl,_,_,rfl,rfl,hel i x hx H1 s1 _ _ λH2 s2=>⟨s2,?_⟩⟩
   have hi:=(ar.mp hx).1
   rw [au,cu,if_pos hi]
   rfl
  ·intro b H1 _ s1 hb
   refine ⟨b,_,rfl,SqL.of hb,?_⟩
   rw [show (List.replicate xs.length true).all id=true from aX.mpr λy hy=>by rw [List.eq_of_mem_replicate hy];rfl]
   exact q H1 s1
theorem zg4 (D:Def K mg "_law_plain" W2 ["_law_found","_law_depth"] f fd) (B:Blt mg) (KW:p5 P w K mg base 1 "_law_whole" ["_law_found"] Z9):r8 P w K mg base CX0 4 f fd ["_law_found","_law_depth"] (d6 (d6 (d6 yd4))) :=
 K7 D B KW (by decide) (D.known (K7 D B KW (by decide) (D.known (K7 D B KW (by decide) (D.known yz3)))))
theorem yg4 {spR:Sp}{H:Hp}{Q:VK}{E:XK}{a:Addr}{l:List Nat}{k:Nat}(ha:H a=some (.tup (tI l)))(hk:0<k)(hl:l.length<=1000)(q:∀H':Hp,z9 H H'->Q (.bl true) H'):d6 (d6 spR) [.ref a,.int k] H Q E:=by
 refine .inr ⟨a,_,k,rfl,hk,ha,by rw [i8];exact hl,λi x hx H1 s1 Q' E' q'=>?_,q⟩
 obtain ⟨p,hp,rfl⟩:=yv0 hx
 exact .inl ⟨_,k-1,by rw [show ((k-1:Nat):Int)=(k:Int)-1 by lia],q'⟩
def zn2 (c:Int)(n:Nat):Nat->Int×List Nat×List Nat
 | 0=>(c,[],List.range n)
 | i+1=>((zn2 c n i).1 / ((n:Int)-(i:Int)),(zn2 c n i).2.1++[(zn2 c n i).2.2.getD ((zn2 c n i).1 % ((n:Int)-(i:Int))).toNat 0],(zn2 c n i).2.2.eraseIdx ((zn2 c n i).1 % ((n:Int)-(i:Int))).toNat)
def zg9 (c:Int)(n:Nat):List Nat:=(zn2 c n n).2.1
def C8:Sp:=λvs H Q _=>∃(c:Int) (n:Nat),vs=[.int c,.int n]/\n<=100/\∀(r:Addr) (H':Hp) (row:List Nat),H r=none->z9 H H'->TM.IsT n row->row=zg9 c n->H' r=some (.lst (tI row))->Q (.ref r) H'
theorem f6:v9 ["_law_number","_law_many","_law_left","_law_made","_law_k","_law_at"] ["_law_number","_law_many"] (y0 R8):=scq
theorem zg2 (D:Def K mg "_law_order" R8 ["_law_number","_law_many"] f fd) (B:Blt mg):r8 P w K mg base CX0 1 f fd ["_law_number","_law_many"] C8:=by
 refine D.F.ok f6 (λvs H Q E h=>?_) (λcdv A outer s H vs Q E hr h=>?_)
 ·obtain ⟨c,n,rfl,_⟩:=h
  rfl
 obtain ⟨c,n,rfl,hn,q⟩:=h
 refine ⟨_,v8 (n3 (i:=2) f6.nd rfl (Or.inl rfl) (p8 (M6 rfl) rfl B.list G0 (z0 (p8 zi2 rfl B.range zp9 (z0 (pv 1) z4)) z4)))
  (v8 (n3 (i:=3) f6.nd rfl (Or.inl rfl) (p3 z4))
  (v8 (R3 PassesOwn.never rfl (T8 rfl B.range (z0 (pv 1) z4)) (k8 (i:=4) f6.nd rfl (Or.inl rfl))
   (v8 (C4 (y6 B3 rfl B.divmod zi1 (z0 (pv 0) (z0 (u0 zz0 (pv 1) (pv 4)) z4))) (yn8 rfl (F7 (k8 (i:=0) f6.nd rfl (Or.inl rfl)) (F7 (k8 (i:=5) f6.nd rfl (Or.inl rfl)) yc7))))
   (z7 (c9 (zd9 PySem.F.plainAttrs_list PySem.F.slot_list_append PySem.F.type_list_append Z0 (pv 3) (z0 (zd9 PySem.F.plainAttrs_list PySem.F.slot_list_pop PySem.F.type_list_pop ym4 (pv 2) (z0 (pv 5) z4)) z4))))))
  (z7 (y8 (pv 3))))),?_⟩
 refine ⟨_,rfl,_,rfl,λp hp=>⟨p,0,(n:Int),rfl,z5,⟨by omega,by omega,by omega,by omega,by omega⟩,λl hl=>?_⟩⟩
 rw [show ((n:Int)-0).toNat=n by omega,zv8]
 have pl:p≠l:=u8 z5 hl
 have hl0:H l=none:=by
  have:=hl
  rwa [u9 (Ne.symm pl)] at this
 have s1:z9 H (upd (upd H p (.rng 0 (n:Int))) l (.lst (tI (List.range n)))):=n8 (z6 hp _) hl0 _
 have el:(upd (upd H p (.rng 0 (n:Int))) l (.lst (tI (List.range n)))) l=some (.lst (tI (List.range n))):=z5
 generalize upd (upd H p (.rng 0 (n:Int))) l (.lst (tI (List.range n)))=H1 at s1 el ⊢
 refine ⟨(by show 0<=sizeLine;decide),λr hr'=>?_⟩
 have lr:l≠r:=u8 el hr'
 have hr0:H r=none:=s1.free hr'
 refine ⟨_,rfl,_,rfl,by omega,by omega,N3 (n:=((n:Nat):Int).toNat) (λi σ H2=>∃(nu:Int) (row left:List Nat) (v6 v7:Option V),σ=[some (.int nu),some (.int n),some (.ref l),some (.ref r),v6,v7]/\z9 H H2/\H2 l=some (.lst (tI left))/\H2 r=some (.lst (tI row))/\TM.IsT n (row++left)/\left.length+i=n/\zn2 c n i=(nu,row,left))
  ⟨_,[],List.range n,none,none,rfl,s1.trans (z6 hr' _),by rw [u9 lr];exact el,z5,TM.IsT.range n,by rw [aS];rfl,rfl⟩ ?_ ?_⟩
 ·rintro i σ H2 hi ⟨nu,row,left,v6,v7,rfl,s2,hl2,hr2,hT,hlen,hos⟩
  have hi':i<n:=by omega
  have e0:(0:Int)+(i:Int)=((i:Nat):Int):=by omega
  rw [e0]
  have hsz:(0:Int)<(n:Int)-(i:Int):=by omega
  obtain ⟨k,ek,hk⟩:∃k:Nat,nu % ((n:Int)-(i:Int))=(k:Int)/\k<left.length:=by
   have h1:=bg nu (show (n:Int)-(i:Int)≠0 by omega)
   have h2:=bC nu hsz
   exact ⟨(nu % ((n:Int)-(i:Int))).toNat,by omega,by omega⟩
  have hx:left[k]?=some left[k]:=ah hk
  have hrl:row.length<=n:=by
   have:=hT.length
   rw [al] at this
   omega
  refine ⟨_,rfl,_,rfl,_,rfl,_,_,rfl,rfl,_,_,rfl,⟨hsz,by omega⟩,λtp htp=>?_⟩
  have hlt:l≠tp:=u8 hl2 htp
  have hrt:r≠tp:=u8 hr2 htp
  refine ⟨tp,_,rfl,SqT.of z5,rfl,_,_,rfl,_,_,rfl,rfl,?_⟩
  have s3:=s2.trans (z6 htp (.tup [V.int (nu / ((n:Int)-(i:Int))),V.int (nu % ((n:Int)-(i:Int)))]))
  have hl3:(upd H2 tp (.tup [V.int (nu / ((n:Int)-(i:Int))),V.int (nu % ((n:Int)-(i:Int)))])) l=some (.lst (tI left)):=by rw [u9 hlt];exact hl2
  have hr3:(upd H2 tp (.tup [V.int (nu / ((n:Int)-(i:Int))),V.int (nu % ((n:Int)-(i:Int)))])) r=some (.lst (tI row)):=by rw [u9 hrt];exact hr2
  generalize upd H2 tp (.tup [V.int (nu / ((n:Int)-(i:Int))),V.int (nu % ((n:Int)-(i:Int)))])=H3 at s3 hl3 hr3 ⊢
  rw [ek]
  refine ⟨_,rfl,.inl ⟨rfl,_,SqL.of hr3⟩,_,rfl,.inl ⟨rfl,_,SqL.of hl3⟩,_,rfl,l,_,_,k,V.int (left[k]:Int),rfl,rfl,hl3,by omega,by omega,by rw [i8];exact yu8 hk,yw7 hx,r,tI row,_,rfl,rfl,?_,?_,?_⟩
  ·rw [u9 (Ne.symm lr)]
   exact hr3
  ·rw [i8]
   exact W5 (by omega)
  refine ⟨_,row++[left[k]],left.eraseIdx k,_,_,rfl,n8 (n8 s3 hl0 _) hr0 _,?_,?_,TM.draw_perm hT hx,?_,?_⟩
  ·rw [u9 lr,z5,zv7]
  ·rw [z5,zk1]
   rfl
  ·rw [List.length_eraseIdx_of_lt hk]
   omega
  ·rw [zn2,hos]
   dsimp only
   rw [ek,aJ,aK,hx]
   rfl
 ·rintro σ H2 ⟨nu,row,left,v6,v7,rfl,s2,hl2,hr2,hT,hlen,hos⟩
  have e:left=[]:=bR.mp (by omega)
  subst e
  rw [bu] at hT
  have hn':((n:Nat):Int).toNat=n:=by omega
  rw [hn'] at hos
  exact ⟨_,rfl,q r H2 row hr0 s2 hT (by unfold zg9;rw [hos]) hr2⟩
def ym8:List PyData:=[.none,.bool true,.bool false,.str "0",.str "01",.str "",.dict [],.dict [(.int 0,.int 1)],.list [.list []],.tuple [.tuple []],.list [.none],.tuple [.bool true]]
def ym9:List PyData:=[.list [.list [.int 0,.int 1]],.tuple [.str "0"],.int (-1),.tuple [.list [.int 0],.list [.int 1]]]
def yn0 (c:Int):PyData:=(ym8++ym9).getD (c % 16).toNat .none
def yr0 (d:PyData):Prop:=g7 4 d∨d=.dict []∨d=.dict [(.int 0,.int 1)]
theorem yz5:∀d∈ym8++ym9,yr0 d/\∀ds,M3 d=some ds->ds.length<=1000:=by
 have ls:∀{d:PyData},d.canLay0=true->d.depth<=4->yr0 d:=λh1 h2=>.inl ⟨h1,h2⟩
 intro d hd
 have h:d∈[.none,.bool true,.bool false,.str "0",.str "01",.str "",.dict [],.dict [(.int 0,.int 1)],.list [.list []],.tuple [.tuple []],.list [.none],.tuple [.bool true],.list [.list [.int 0,.int 1]],.tuple [.str "0"],.int (-1),.tuple [.list [.int 0],.list [.int 1]]]:=hd
 simp only [aw,dm,or_false] at h
 rcases h with h|h|h|h|h|h|h|h|h|h|h|h|h|h|h|h <;> subst h <;> exact ⟨by first|exact ls (by decide +kernel) (by decide +kernel)|exact .inr (.inl rfl)|exact .inr (.inr rfl),λds e=>by first|(cases e;done)|(cases e;decide)⟩
def yd5:Sp:=λvs H Q _=>∃c:Int,vs=[.int c]/\∀(v:V) (H':Hp),z9 H H'->Dt H' v (yn0 c)->Q v H'
def yh8:St->Hp->Prop:=λ_ _=>True
theorem o0:yb1 yh8:=λ_ _ _ _ _=>trivial
theorem i9 {ds:List PyData}(h:Nat.ble ds.length 1000=true:=by rfl):ds.length<=sizeLine:=ze8 (Nat.le_of_ble_eq_true h)
theorem zc1 {G:Hp}{v:V}{ds:List PyData}(h:Dt G v (.list ds)):∃a xs,v=.ref a/\G a=some (.lst xs)/\Dts G xs ds:=by
 cases h with
 | lst h r=>exact ⟨_,_,rfl,h,r⟩
def xf5 (K:W.Frag):R2:=λx y H Q=>∃(l b:Addr) (xs zs:List V),x=.ref l/\y=.ref b/\SqL K H l xs/\SqL K H b zs/\xs.length+zs.length<=sizeLine/\∀p,H p=none->Q (.ref p) (upd H p (.lst (xs++zs)))
theorem zt0 {X:Cx}:OpR X (binaryOp .Add) (xf5 X.K):=yt5
theorem O4:v9 ["_law_cell_here","_law_some"] ["_law_cell_here"] (y0 J4):=scq
theorem yn5 {X:Cx}{j1 j2:Nat}{p1 p2 pos:Pos}{C:St->Hp->Prop}:DE X (.Dict [some (.Constant (.int 0) j1 p1)] [.Constant (.int 1) j2 p2] pos) (tDt C (.dict [(.int 0,.int 1)])) :=
 yw4 (yt8 (yo2 z8 z8 yu1) rfl rfl (by simp) (by show 1<=15;decide)) λσ H Q hc k p hp =>
  ⟨z5,[(.inl 0,.int 1)],rfl,by decide,k _ _ (n8 (z6 hp _) hp _) (Dt.dct (kvs:=[(.inl 0,.int 1)]) z5)⟩
theorem zs5 (D:Def K mg "_law_odd" J4 ["_law_cell_here"] f fd) (B:Blt mg):r8 P w K mg base CX0 1 f fd ["_law_cell_here"] yd5:=by
 refine D.F.ok O4 (λvs H Q E h=>?_) (λcdv A outer s H vs Q E hr h=>?_)
 ·obtain ⟨c,rfl,_⟩:=h
  rfl
 obtain ⟨c,rfl,q⟩:=h
 apply d9
 ·apply y4
  ·exact yj3 (i:=1) O4.nd rfl (Or.inl rfl) (S8 (C:=yh8) (ds:=ym8)
    (u6 o0 yn6 (u6 o0 yn4 (u6 o0 yn4 (u6 o0 zn5 (u6 o0 zn5 (u6 o0 zn5 (u6 o0 xb0 (u6 o0 yn5
    (u6 o0 (S8 (u6 o0 (S8 f9 i9) f9) i9) (u6 o0 (zd8 (u6 o0 (zd8 f9 i9) f9) i9)
    (u6 o0 (S8 (u6 o0 yn6 f9) i9) (u6 o0 (zd8 (u6 o0 yn4 f9) i9) f9)))))))))))) i9)
  apply y4
  ·exact yj3 (i:=1) O4.nd rfl (Or.inl rfl) (xd0 zt0 (pv 1) (S8 (C:=yh8) (ds:=ym9)
    (u6 o0 (S8 (u6 o0 (S8 (u6 o0 zn4 (u6 o0 zn4 f9)) i9) f9) i9) (u6 o0 (zd8 (u6 o0 zn5 f9) i9)
    (u6 o0 (yw4 (yw5 yq6 z8) (λσ H Q hc k=>⟨_,rfl,k _ H (z9.refl _) (.int _)⟩))
    (u6 o0 (zd8 (u6 o0 (S8 (u6 o0 zn4 f9) i9) (u6 o0 (S8 (u6 o0 zn4 f9) i9) f9)) i9) f9)))) i9))
  exact ⟨z7 (y8 (V7 W0 (pv 1) (u0 o7 (pv 0) z8) (λ_ _=>rfl)))⟩
 refine ⟨trivial,λv0 H0 s0 hv0=>?_⟩
 obtain ⟨a0,xs0,e0,h0,r0⟩:=zc1 hv0
 subst e0
 refine ⟨_,rfl,trivial,λv1 H1 s1 hv1=>?_⟩
 obtain ⟨a1,xs1,e1,h1,r1⟩:=zc1 hv1
 subst e1
 have hl0:xs0.length=12:=r0.length
 have hl1:xs1.length=4:=r1.length
 refine ⟨a0,a1,xs0,xs1,rfl,rfl,SqL.of (s1 _ _ h0),SqL.of h1,ze8 (by lia),λp hp=>?_⟩
 have s2:=z6 hp (.lst (xs0++xs1))
 have e2:(upd H1 p (.lst (xs0++xs1))) p=some (.lst (xs0++xs1)):=z5
 generalize upd H1 p (.lst (xs0++xs1))=H2 at s2 e2 ⊢
 have r2:Dts H2 (xs0++xs1) (ym8++ym9):=(r0.same (s1.trans s2)).append (r1.same s2)
 obtain ⟨m,em,hm⟩:=zd1 (z:=c) (k:=16) (by decide)
 have em:c % 16=(m:Int):=em
 obtain ⟨x,hx⟩:∃x,(xs0++xs1)[m]?=some x:=⟨_,ah (by rw [al];lia)⟩
 obtain ⟨d,hd,hxd⟩:=r2.get hx
 refine ⟨_,rfl,_,rfl,_,_,rfl,rfl,(by show (0:Int)<16;decide),p,_,_,x,rfl,rfl,SqL.of e2,?_,?_⟩
 ·rw [show c % 16=(m:Int) from em]
  exact Z3 hx
 ·refine q x H2 (s0.trans (s1.trans s2)) ?_
  unfold yn0
  rw [em,aJ,aK,hd]
  exact hxd
theorem zq4 {lo:Int}{n:Nat}{fr:List Nat}{te:CT TE}{σ:St}{H1:Hp}{Q:Addr->Hp->Prop}(ys:List V)(hn:ys.length=n)(hz:n<=sizeLine)
  (turn:∀i H,i<n->z9 H1 H->∀C₀ s₀ H₀ fp,te C₀ s₀ H₀ fp (some (.int (lo+i))::fr.map λj=>(σ[j]?).getD none) H λy H4=>z9 H H4/\ys[i]?=some y)
  (fin:∀D H,H1 D=none->z9 H1 H->H D=some (.lst ys)->Q D H) :
  ∀D,H1 D=none->∃W:Nat->Nat->St->Hp->Prop,(∃m,W 0 m (Q7 1 fr σ) (upd H1 D (.lst [])))/\∀i m σ' H',W i m σ' H' ->
  ((Itr lo n).stop i H'/\Q D H')∨((Itr lo n).go i H'/\∀x H2,(Itr lo n).yld i H' x H2->∀C₀ s₀ H₀ fp,Y1 0 x σ' H2 λσ3 H3=>∃N:VK,te C₀ s₀ H₀ fp σ3 H3 N/\∀y H4,N y H4 ->
   ∃ys m',H4 D=some (.lst ys)/\ys.length<sizeLine/\m'<m/\W (i+1) m' σ3 (upd H4 D (.lst (ys++[y])))) :=
 D1 ys hn hz (λ_ _=>af n) (λi _ hi _=>hi) (λi H x H2 hi s y=>⟨y.1,by rw [y.2];exact turn i H hi s⟩) fin
def rsz (c:Int):Nat:=if c / 7 % 8=1 then (59+c / 56 % 3).toNat else (c % 7).toNat
def yp0 (c:Int)(n:Nat):List PyData:=(List.range (rsz c)).map λ(k:Nat)=>.int ((c / 7 / ((k:Int)+1)+(k:Int)*(k:Int)) % (n:Int))
def yt2 (n:Nat):List PyData:=[.int n,.int (-1),.bool true,.str "0",.none]
def L4 (c:Int)(n:Nat):List PyData:=if c / 56 % 10<5/\0<rsz c then (yp0 c n).set (c / 560 % (rsz c:Int)).toNat ((yt2 n).getD (c / 56 % 10).toNat .none) else yp0 c n
theorem zz5 (c:Int):rsz c<=61:=by
 unfold rsz
 split <;> lia
theorem zj7 (c:Int)(n:Nat):(L4 c n).length=rsz c:=by
 unfold L4 yp0
 split <;> simp
theorem zj6 (c:Int)(n:Nat):n5 0 (L4 c n):=by
 have h5:∀d∈yt2 n,g7 0 d:=by
  intro d hd
  have h:d∈[.int n,.int (-1),.bool true,.str "0",.none]:=hd
  simp only [aw,dm,or_false] at h
  rcases h with h|h|h|h|h <;> subst h <;> first|exact .int _|exact ⟨by decide +kernel,by decide +kernel⟩
 have hI:∀d∈yp0 c n,g7 0 d:=λd hd=>by
  obtain ⟨k,_,rfl⟩:=aI.mp hd
  exact .int _
 refine n5.of λd hd=>?_
 unfold L4 at hd
 split at hd
 ·rcases List.mem_or_eq_of_mem_set hd with h|h
  ·exact hI d h
  ·rw [h,aK]
   cases e:(yt2 n)[(c / 56 % 10).toNat]? with
   | none=>exact ⟨by decide +kernel,by decide +kernel⟩
   | some y=>exact h5 y (ay e)
 ·exact hI d hd
def wo (H:Hp)(r:Addr):Hp:=λb=>if b=r then none else H b
theorem Q8 {H:Hp}{r:Addr}:z9 (wo H r) H:=λb o h=>by
 unfold wo at h
 split at h
 ·cases h
 ·exact h
theorem I0 {H:Hp}{r:Addr}{o:HO}:wo (upd H r o) r=wo H r:=by
 funext b
 unfold wo upd
 split <;> rfl
theorem O9 {H H':Hp}{r:Addr}(s:z9 H H'):z9 (wo H r) (wo H' r):=λb o h=>by
 unfold wo at h ⊢
 split at h
 ·cases h
 ·rename_i hb
  rw [if_neg hb]
  exact s b o h
theorem zw4 {H:Hp}{r p:Addr}{o:HO}(h:H p=some o)(hp:p≠r):wo H r p=some o:=by
 unfold wo
 rw [if_neg hp]
 exact h
theorem Dts.set {H:Hp}{v:V}{d:PyData}(hv:Dt H v d):∀{xs:List V} {ds:List PyData} (i:Nat),Dts H xs ds->Dts H (xs.set i v) (ds.set i d)
 | _,_,_,.nil=>.nil
 | _,_,0,.cons _ r=>.cons hv r
 | _,_,i+1,.cons h r=>.cons h (Dts.set hv i r)
theorem zi4 {α:Type}{G:Hp}(g:α->Int):∀l:List α,Dts G (l.map λk=>V.int (g k)) (l.map λk=>PyData.int (g k))
 | []=>.nil
 | _::r=>.cons (.int _) (zi4 g r)
theorem yt3 (n m:Nat)(hm:m<5):∃(z:V) (d:PyData),[V.int n,V.int (-1),V.bl true,V.str "0",V.non][m]?=some z/\(yt2 n)[m]?=some d/\∀G,Dt G z d:=by
 match m,hm with
 | 0,_=>exact ⟨_,_,rfl,rfl,λ_=>.int _⟩
 | 1,_=>exact ⟨_,_,rfl,rfl,λ_=>.int _⟩
 | 2,_=>exact ⟨_,_,rfl,rfl,λ_=>.bl _⟩
 | 3,_=>exact ⟨_,_,rfl,rfl,λ_=>.str _⟩
 | 4,_=>exact ⟨_,_,rfl,rfl,λ_=>.non⟩
def yd6:Sp:=λvs H Q _=>∃(c:Int) (n:Nat),vs=[.int c,.int n]/\1<=n/\n<=60/\∀(r:Addr) (xs:List V) (H':Hp),H r=none->z9 H H'->H' r=some (.lst xs)->Dts (wo H' r) xs (L4 c n)->Q (.ref r) H'
theorem X0:v9 ["_law_cell_here","_law_many","_law_size","_law_row_here","_law_odd_here"] ["_law_cell_here","_law_many"] (y0 J5):=scq
theorem zs6 (D:Def K mg "_law_row" J5 ["_law_cell_here","_law_many"] f fd) (B:Blt mg):r8 P w K mg base CX0 1 f fd ["_law_cell_here","_law_many"] yd6:=by
 refine D.F.ok X0 (λvs H Q E h=>?_) (λcdv A outer s H vs Q E hr h=>?_)
 ·obtain ⟨c,n,rfl,_⟩:=h
  rfl
 obtain ⟨c,n,rfl,h1,hn,q⟩:=h
 have hz:=p7
 apply d9
 ·apply y4
  ·exact DS.mk (n3 (i:=2) X0.nd rfl (Or.inl rfl) (u0 o7 (pv 0) z8))
  apply y4
  ·exact DS.mk (t8 (w4 n6 (u0 o7 (u0 o5 (pv 0) z8) z8) z8 (w8 _)) (z7 (n3 (i:=2) X0.nd rfl (Or.inl rfl) (u0 U8 z8 (u0 o7 (u0 o5 (pv 0) z8) z8)))) y9)
  apply y4
  ·exact DS.mk (zt8 (i:=3) [1,0] ["_law_k","_law_many","_law_cell_here"] X0.nd rfl rfl rfl (T8 rfl B.range (z0 (pv 2) z4)) (λ_ _ _ _=>u0 o7 (u0 U8 (u0 o5 (u0 o5 (pv 2) z8) (u0 U8 (pv 0) z8)) (u0 xa7 (pv 0) (pv 0))) (pv 1)))
  apply y4
  ·exact DS.mk (n3 (i:=4) X0.nd rfl (Or.inl rfl) (u0 o7 (u0 o5 (pv 0) z8) z8))
  apply y4
  ·exact DS.mk (t8 (PW.pt (R4 (w4 B8 (pv 4) z8 (w8 _)) (W1 (w4 zj2 (pv 2) z8 (w8 _))))) (z7 (C4 (V7 W0 (p3 (z0 (pv 1) (z0 (yw5 yq6 z8) (z0 Y3 (z0 o8 (z0 zz1 z4)))))) (pv 4) (λ_ _=>rfl)) (zn7 (pv 3) (u0 o7 (u0 o5 (pv 0) z8) (pv 2)) F9))) y9)
  exact ⟨z7 (y8 (pv 3))⟩
 refine t0 λN hN=>⟨_,rfl,_,_,rfl,rfl,(by show (0:Int)<7;decide),hN _ _ ?_⟩
 clear hN N
 refine t0 λN hN=>⟨_,rfl,_,_,rfl,rfl,⟨by decide,by decide⟩,_,_,rfl,rfl,(by show (0:Int)<8;decide),rfl,_,rfl,?_⟩
 have key:N [some (.int c),some (.int n),some (.int (rsz c:Int)),none,none] H:=by
  refine hN _ _ ?_
  clear hN N
  have hle:=zz5 c
  refine t0 λN hN=>⟨_,rfl,_,rfl,by omega,by omega,zq4 ((List.range (rsz c)).map λ(k:Nat)=>V.int ((c / 7 / ((k:Int)+1)+(k:Int)*(k:Int)) % (n:Int))) (by simp) (by omega) ?_ ?_⟩
  ·intro i H1 hi s1 _ _ _ _
   have hi':i<rsz c:=by omega
   refine ⟨_,rfl,_,_,rfl,rfl,⟨by decide,by decide⟩,_,rfl,_,_,rfl,rfl,_,_,rfl,rfl,⟨by show (0:Int)<0+(i:Int)+1;omega,by show (0:Int)+(i:Int)+1<1073741824;omega⟩,_,rfl,_,rfl,_,_,rfl,rfl,.inl ⟨by omega,by omega⟩,_,_,rfl,rfl,_,rfl,_,_,rfl,rfl,(by show (0:Int)<(n:Int);omega),z9.refl _,?_⟩
   rw [au,bE hi',dB]
   rfl
  ·intro r H1 hr0 s1 hr1
   refine hN _ _ ?_
   clear hN N
   have hdts:Dts (wo H1 r) ((List.range (rsz c)).map λ(k:Nat)=>V.int ((c / 7 / ((k:Int)+1)+(k:Int)*(k:Int)) % (n:Int))) (yp0 c n):=zi4 _ _
   have hlen:((List.range (rsz c)).map λ(k:Nat)=>V.int ((c / 7 / ((k:Int)+1)+(k:Int)*(k:Int)) % (n:Int))).length=rsz c:=by simp
   generalize ((List.range (rsz c)).map λ(k:Nat)=>V.int ((c / 7 / ((k:Int)+1)+(k:Int)*(k:Int)) % (n:Int)))=xs at hdts hr1 hlen ⊢
   refine t0 λN hN=>⟨_,rfl,_,_,rfl,rfl,⟨by decide,by decide⟩,_,_,rfl,rfl,(by show (0:Int)<10;decide),hN _ _ ?_⟩
   clear hN N
   have hfin:∀(ys:List V) (H2:Hp),z9 H H2->H2 r=some (.lst ys)->Dts (wo H2 r) ys (L4 c n)->Q (.ref r) H2:=λys H2=>q r ys H2 hr0
   have hno:¬(c / 56 % 10<5/\0<rsz c)->Q (.ref r) H1:=λh=>hfin xs H1 s1 hr1 (by unfold L4;rw [if_neg h];exact hdts)
   refine t0 λN hN=>⟨_,rfl,_,_,rfl,rfl,_,rfl,?_⟩
   show if decide (c / 56 % 10<5)=true then _ else _
   by_cases h5:c / 56 % 10<5
   ·rw [decide_eq_true h5]
    refine u4 ⟨_,rfl,_,_,rfl,rfl,_,rfl,?_⟩
    show if decide ((0:Int)<(rsz c:Int))=true then _ else _
    by_cases h0:0<rsz c
    ·rw [decide_eq_true (by omega)]
     obtain ⟨m,em,hm⟩:∃m:Nat,c / 56 % 10=(m:Int)/\m<5:=⟨(c / 56 % 10).toNat,by omega,by omega⟩
     obtain ⟨z,d,hz1,hd1,hzd⟩:=yt3 n m hm
     obtain ⟨j,ej,hj⟩:∃j:Nat,c / 560 % (rsz c:Int)=(j:Int)/\j<rsz c:=⟨(c / 560 % (rsz c:Int)).toNat,by have:=bg (c / 560) (show (rsz c:Int)≠0 by omega);omega,by have:=bC (c / 560) (show (0:Int)<(rsz c:Int) by omega);have:=bg (c / 560) (show (rsz c:Int)≠0 by omega);omega⟩
     refine u4 ⟨_,rfl,_,rfl,ze8 (show 5<=1000 by decide),λp hp=>⟨_,rfl,p,_,_,z,rfl,rfl,SqL.of z5,(by show atI _ (c / 56 % 10)=_;rw [em];exact Z3 hz1),_,rfl,_,rfl,_,_,rfl,rfl,⟨by decide,by decide⟩,_,rfl,_,_,rfl,rfl,(by show (0:Int)<(rsz c:Int);omega),?_⟩⟩
     have s2:=z6 hp (.lst [V.int n,V.int (-1),V.bl true,V.str "0",V.non])
     dsimp only
     generalize upd H1 p (.lst [V.int n,V.int (-1),V.bl true,V.str "0",V.non])=H2 at s2 ⊢
     refine ⟨r,xs,_,j,rfl,rfl,s2 _ _ hr1,(by rw [hlen];show ixN (rsz c) (c / 560 % (rsz c:Int))=_;rw [ej];exact G9 hj),hN _ _ ⟨_,rfl,hfin _ _ (n8 (s1.trans s2) hr0 _) z5 ?_⟩⟩
     rw [I0]
     unfold L4
     rw [if_pos ⟨h5,h0⟩,em,ej,aJ,aJ,aK,hd1]
     exact Dts.set (hzd _) j (hdts.same (O9 s2))
    ·rw [decide_eq_false (by omega)]
     exact w6 (hN _ _ ⟨_,rfl,hno λh=>h0 h.2⟩)
   ·rw [decide_eq_false h5]
    exact w6 (hN _ _ ⟨_,rfl,hno λh=>h5 h.1⟩)
 show if decide (V.int (c / 7 % 8)=V.int 1)=true then _ else _
 rw [t7]
 by_cases h8:c / 7 % 8=1
 ·rw [decide_eq_true h8]
  refine u4 ⟨_,rfl,_,_,rfl,rfl,⟨by decide,by decide⟩,_,_,rfl,rfl,(by show (0:Int)<3;decide),_,_,rfl,rfl,?_⟩
  have e:(59:Int)+c / 56 % 3=(rsz c:Int):=by unfold rsz;rw [if_pos h8];omega
  show N [some (.int c),some (.int n),some (.int (59+c / 56 % 3)),none,none] H
  rw [e]
  exact key
 ·rw [decide_eq_false h8]
  refine w6 ?_
  have e:c % 7=(rsz c:Int):=by unfold rsz;rw [if_neg h8];omega
  show N [some (.int c),some (.int n),some (.int (c % 7)),none,none] H
  rw [e]
  exact key
def zj1 (l:List Nat):List PyData:=l.map λ(x:Nat)=>.int x
def zk3 (c:Int)(n:Nat):PyData :=
 if c % 5=1 then .list (zj1 (zg9 (c / 5) n))
 else if c % 5=2 then .tuple (zj1 (zg9 (c / 5) n++[n]))
 else if c % 5=3 then .tuple (zj1 ((zg9 (c / 5) n).set (c / 5 % (n:Int)).toNat ((zg9 (c / 5) n).getD (c / 7 % (n:Int)).toNat 0)))
 else .tuple (zj1 (zg9 (c / 5) n))
def zv5:Sp:=λvs H Q _=>∃(c:Int) (n:Nat),vs=[.int c,.int n]/\1<=n/\n<=60/\∀(v:V) (H':Hp),z9 H H'->(zg9 (c / 5) n).length=n->Dt H' v (zk3 c n)->Q v H'
theorem U0:v9 ["_law_cell_here","_law_many","_law_row_here"] ["_law_cell_here","_law_many"] (y0 Y5):=scq
theorem F3 (D:Def K mg "_law_whole_row" Y5 ["_law_cell_here","_law_many"] f fd) (B:Blt mg) (KO:p5 P w K mg base 1 "_law_order" ["_law_number","_law_many"] C8):r8 P w K mg base CX0 2 f fd ["_law_cell_here","_law_many"] zv5:=by
 refine D.F.ok U0 (λvs H Q E h=>?_) (λcdv A outer s H vs Q E hr h=>?_)
 ·obtain ⟨c,n,rfl,_⟩:=h
  rfl
 obtain ⟨c,n,rfl,h1,hn,q⟩:=h
 apply d9
 ·apply y4
  ·exact DS.mk (n3 (i:=2) U0.nd rfl (Or.inl rfl) (o9 KO hr rfl (z0 (u0 o5 (pv 0) z8) (z0 (pv 1) z4))))
  apply y4
  ·exact DS.mk (t8 (w4 n6 (u0 o7 (pv 0) z8) z8 (w8 _)) (z7 (y8 (pv 2))) y9)
  apply y4
  ·exact DS.mk (t8 (w4 n6 (u0 o7 (pv 0) z8) z8 (w8 _)) (z7 (c9 (zd9 PySem.F.plainAttrs_list PySem.F.slot_list_append PySem.F.type_list_append Z0 (pv 2) (z0 (pv 1) z4)))) y9)
  apply y4
  ·exact DS.mk (t8 (w4 n6 (u0 o7 (pv 0) z8) z8 (w8 _)) (z7 (C4 (V7 W0 (pv 2) (u0 o7 (u0 o5 (pv 0) z8) (pv 1)) (λ_ _=>rfl)) (zn7 (pv 2) (u0 o7 (u0 o5 (pv 0) z8) (pv 1)) F9))) y9)
  exact ⟨z7 (y8 (p8 m9 rfl B.tuple l6 (z0 (pv 2) z4)))⟩
 refine t0 λN hN=>⟨_,rfl,_,_,rfl,rfl,⟨by decide,by decide⟩,_,rfl,c / 5,n,rfl,by lia,λr H1 row hr0 s1 hT er hr1=>hN _ _ ?_⟩
 clear hN N
 have hl:row.length=n:=hT.length
 have q':∀(v:V) (H':Hp),z9 H H'->Dt H' v (zk3 c n)->Q v H':=λv H' s'=>q v H' s' (by rw [←er];exact hl)
 unfold zk3 at q'
 rw [←er] at q'
 have h5:=bg c (show (5:Int)≠0 by decide)
 refine t0 λN hN=>⟨_,rfl,_,_,rfl,rfl,(by show (0:Int)<5;decide),rfl,_,rfl,?_⟩
 show if decide (V.int (c % 5)=V.int 1)=true then _ else _
 rw [t7]
 by_cases c1:c % 5=1
 ·rw [decide_eq_true c1]
  rw [if_pos c1] at q'
  exact u4 ⟨_,rfl,q' _ _ s1 (.lst hr1 (K3 row))⟩
 rw [decide_eq_false c1]
 rw [if_neg c1] at q'
 refine w6 (hN _ _ ?_)
 clear hN N
 refine t0 λN hN=>⟨_,rfl,_,_,rfl,rfl,(by show (0:Int)<5;decide),rfl,_,rfl,?_⟩
 show if decide (V.int (c % 5)=V.int 2)=true then _ else _
 rw [t7]
 by_cases c2:c % 5=2
 ·rw [decide_eq_true c2]
  rw [if_pos c2] at q'
  refine u4 ⟨_,rfl,.inl ⟨rfl,_,SqL.of hr1⟩,_,rfl,r,tI row,_,rfl,rfl,hr1,(by rw [i8];exact W5 (by lia)),hN _ _ ?_⟩
  clear hN N
  refine t0 λN hN=>⟨_,rfl,_,_,rfl,rfl,(by show (0:Int)<5;decide),rfl,_,rfl,?_⟩
  show if decide (V.int (c % 5)=V.int 3)=true then _ else _
  rw [t7,decide_eq_false (by lia)]
  refine w6 (hN _ _ ⟨_,rfl,r,_,rfl,.inl ⟨SqL.of z5,λtp htp=>q' _ _ ((n8 s1 hr0 _).trans (z6 htp _)) (.tup z5 ?_)⟩⟩)
  have e:tI row++[V.int n]=tI (row++[n]):=by rw [zk1];rfl
  rw [e]
  exact K3 _
 rw [decide_eq_false c2]
 rw [if_neg c2] at q'
 refine w6 (hN _ _ ?_)
 clear hN N
 refine t0 λN hN=>⟨_,rfl,_,_,rfl,rfl,(by show (0:Int)<5;decide),rfl,_,rfl,?_⟩
 show if decide (V.int (c % 5)=V.int 3)=true then _ else _
 rw [t7]
 by_cases c3:c % 5=3
 ·rw [decide_eq_true c3]
  rw [if_pos c3] at q'
  obtain ⟨i,ei,hi⟩:=zd1 (z:=c / 7) h1
  obtain ⟨j,ej,hj⟩:=zd1 (z:=c / 5) h1
  rw [ei,ej,aJ,aJ] at q'
  have hx:row[i]?=some row[i]:=ah (by lia)
  rw [aK,hx] at q'
  refine u4 ⟨_,rfl,_,rfl,_,_,rfl,rfl,⟨by decide,by decide⟩,_,rfl,_,_,rfl,rfl,(by show (0:Int)<(n:Int);lia),r,_,_,.int (row[i]:Int),rfl,rfl,SqL.of hr1,(by rw [ei];exact Z3 (yw7 hx)),_,rfl,_,rfl,_,_,rfl,rfl,⟨by decide,by decide⟩,_,rfl,_,_,rfl,rfl,(by show (0:Int)<(n:Int);lia),r,_,_,j,rfl,rfl,hr1,(by rw [i8,hl,ej];exact G9 hj),hN _ _ ?_⟩
  refine ⟨_,rfl,r,_,rfl,.inl ⟨SqL.of z5,λtp htp=>q' _ _ ((n8 s1 hr0 _).trans (z6 htp _)) (.tup z5 ?_)⟩⟩
  rw [yq2]
  exact K3 _
 rw [decide_eq_false c3]
 rw [if_neg c3] at q'
 exact w6 (hN _ _ ⟨_,rfl,r,_,rfl,.inl ⟨SqL.of hr1,λtp htp=>q' _ _ (s1.trans (z6 htp _)) (.tup z5 (K3 row))⟩⟩)
def prA (c:Int)(n k:Nat):Int:=c / 5 / ((k:Int)+1) % (n:Int)
def prB (c:Int)(n k:Nat):Int:=if 0<c / 5 % 4/\prA c n k=(prA c n k+c / 7 / ((k:Int)+2)) % (n:Int) then (prA c n k+1) % (n:Int) else (prA c n k+c / 7 / ((k:Int)+2)) % (n:Int)
def prK (c:Int)(n k:Nat):PyData:=if c / 20 % 2=1 then .list [.int (prA c n k),.int (prB c n k)] else .tuple [.int (prA c n k),.int (prB c n k)]
def ze2 (c:Int)(n:Nat):List PyData:=(List.range (c % 5).toNat).map (prK c n)
def P1 (c:Int)(n:Nat):List PyData:=if 0<c % 5/\c / 40 % 4=1 then ze2 c n++[.tuple [.int (prB c n 0),.int (prA c n 0)]] else ze2 c n
def yz4 (n:Nat):List PyData:=[.tuple [.int 0,.int 1,.int 2],.tuple [.int 0],.int 0,.tuple [.int 0,.int n],.list [.bool true,.int 0],.str "01"]
def zo3 (c:Int)(n:Nat):List PyData:=if 0<c % 5/\c / 40 % 16=2 then (P1 c n).set (c / 5 % ((P1 c n).length:Int)).toNat ((yz4 n).getD (c / 640 % 6).toNat .none) else P1 c n
theorem zt6 (c:Int)(n:Nat):(ze2 c n).length=(c % 5).toNat:=by simp [ze2]
theorem zt7 (c:Int)(n:Nat):(P1 c n).length<=5/\(0<c % 5->0<(P1 c n).length)/\(c % 5=0->P1 c n=[]):=by
 have h:=zt6 c n
 have h5:=bg c (show (5:Int)≠0 by decide)
 have h6:=bC c (show (0:Int)<5 by decide)
 unfold P1
 split
 ·rw [al,h]
  exact ⟨by show (c % 5).toNat+1<=5;lia,λ_=>bN _,λz=>by lia⟩
 ·rw [h]
  exact ⟨by lia,λ_=>by lia,λz=>bR.mp (by rw [h];lia)⟩
theorem yo4 (c:Int)(n:Nat):(zo3 c n).length<=5:=by
 have h:=(zt7 c n).1
 unfold zo3
 split
 ·rw [cA];exact h
 ·exact h
theorem E3 (x y:Int):n5 0 [.int x,.int y]:=.cons (.int _) (.cons (.int _) .nil)
theorem ze3 (c:Int)(n:Nat):n5 1 (ze2 c n):=n5.of λd hd=>by
 obtain ⟨k,_,rfl⟩:=aI.mp hd
 unfold prK
 split
 ·exact .lst (E3 _ _)
 ·exact .tup (E3 _ _)
theorem n5.append {k:Nat}{es:List PyData}(h2:n5 k es):∀{ds:List PyData},n5 k ds->n5 k (ds++es)
 | [],_=>h2
 | d::ds,h=>by
  obtain ⟨a,b⟩:=h
  rw [PyData.canLayAll0,aG] at a
  rw [PyData.depthAll] at b
  exact .cons ⟨a.1,by lia⟩ (n5.append h2 ⟨a.2,by lia⟩)
theorem n5.set {k:Nat}{e:PyData}(h2:g7 k e):∀{ds:List PyData} (i:Nat),n5 k ds->n5 k (ds.set i e)
 | [],_,h=>h
 | d::ds,i,h=>by
  obtain ⟨a,b⟩:=h
  rw [PyData.canLayAll0,aG] at a
  rw [PyData.depthAll] at b
  match i with
  | 0=>exact .cons h2 ⟨a.2,by lia⟩
  | i+1=>exact .cons ⟨a.1,by lia⟩ (n5.set h2 i ⟨a.2,by lia⟩)
theorem ze4 (c:Int)(n:Nat):n5 1 (P1 c n):=by
 unfold P1
 split
 ·exact n5.append (.cons (.tup (E3 _ _)) .nil) (ze3 c n)
 ·exact ze3 c n
theorem ym7 (n i:Nat):g7 1 ((yz4 n).getD i .none):=by
 match i with
 | 0=>show g7 1 (.tuple [.int 0,.int 1,.int 2]);exact ⟨by decide +kernel,by decide +kernel⟩
 | 1=>show g7 1 (.tuple [.int 0]);exact ⟨by decide +kernel,by decide +kernel⟩
 | 2=>exact .int _
 | 3=>exact .tup (E3 _ _)
 | 4=>show g7 1 (.list [.bool true,.int 0]);exact ⟨by decide +kernel,by decide +kernel⟩
 | 5=>show g7 1 (.str "01");exact ⟨by decide +kernel,by decide +kernel⟩
 | _+6=>show g7 1 .none;exact ⟨by decide +kernel,by decide +kernel⟩
theorem yo3 (c:Int)(n:Nat):n5 1 (zo3 c n):=by
 unfold zo3
 split
 ·exact n5.set (ym7 n _) _ (ze4 c n)
 ·exact ze4 c n
theorem zi5 (ds:List PyData):PyData.eqv (.list ds) (.list [])=ds.isEmpty:=by
 cases ds <;> simp [PyData.eqv,PyData.eqvAll]
theorem xb4 {H:Hp}{v:V}{c:Int}{n k:Nat}(h:Dt H v (prK c n k)):∃p,v=.ref p/\(H p=some (.lst [.int (prA c n k),.int (prB c n k)])∨H p=some (.tup [.int (prA c n k),.int (prB c n k)])):=by
 unfold prK at h
 split at h
 ·cases h with
  | lst h r =>
   cases r with|cons a r=>cases r with|cons b r =>
   cases r;cases a;cases b
   exact ⟨_,rfl,.inl h⟩
 ·cases h with
  | tup h r =>
   cases r with|cons a r=>cases r with|cons b r =>
   cases r;cases a;cases b
   exact ⟨_,rfl,.inr h⟩
theorem yy3 {X:Cx}{e tg:Expr}{te:TE}{g:TG}{pos:Pos}(he:DE X e te)(hg:PG X tg g)(hs:swapsWithSole [tg] e pos.line X.env=pure false:=by rfl)(hw:swappedStores [tg] e X.env=pure none:=by rfl)(h1:(assignEach [tg] X.env).map (·.2)=[assign tg X.env]:=by rfl):DS X (.Assign [tg] e pos) (ya3 te g):=⟨C4 he.h hg hs hw h1⟩
theorem U2 {n:Nat}:yb1 (λσ _=>σ[1]?=some (some (.int n))):=λ_ _ _ _ h=>h
def zj9:Sp:=λvs H Q _=>∃(c:Int) (n:Nat),vs=[.int c,.int n]/\1<=n/\n<=60/\∀(v:V) (H':Hp),z9 H H'->Dt H' v (.list (zo3 c n))->Q v H'
theorem f7:v9 ["_law_cell_here","_law_many","_law_pairs_here","_law_k","_law_one","_law_other"] ["_law_cell_here","_law_many"] (y0 R9):=scq
theorem zg3 (D:Def K mg "_law_pairs" R9 ["_law_cell_here","_law_many"] f fd) (B:Blt mg):r8 P w K mg base CX0 1 f fd ["_law_cell_here","_law_many"] zj9:=by
 refine D.F.ok f7 (λvs H Q E h=>?_) (λcdv A outer s H vs Q E hr h=>?_)
 ·obtain ⟨c,n,rfl,_⟩:=h
  rfl
 obtain ⟨c,n,rfl,h1,hn,q⟩:=h
 have hz:=p7
 apply d9
 ·apply y4
  ·exact DS.mk (n3 (i:=2) f7.nd rfl (Or.inl rfl) (p3 z4))
  apply y4
  ·exact DS.mk (R3 PassesOwn.never rfl (T8 rfl B.range (z0 (u0 o7 (pv 0) z8) z4)) (k8 (i:=3) f7.nd rfl (Or.inl rfl))
   (v8 (n3 (i:=4) f7.nd rfl (Or.inl rfl) (u0 o7 (u0 o5 (u0 o5 (pv 0) z8) (u0 U8 (pv 3) z8)) (pv 1)))
   (v8 (n3 (i:=5) f7.nd rfl (Or.inl rfl) (u0 o7 (u0 U8 (pv 4) (u0 o5 (u0 o5 (pv 0) z8) (u0 U8 (pv 3) z8))) (pv 1)))
   (v8 (t8 (PW.pt (R4 (w4 zj2 (u0 o7 (u0 o5 (pv 0) z8) z8) z8 (w8 _)) (W1 (w4 n6 (pv 4) (pv 5) (w8 _))))) (z7 (n3 (i:=5) f7.nd rfl (Or.inl rfl) (u0 o7 (u0 U8 (pv 4) z8) (pv 1)))) y9)
   (v8 (c9 (zd9 PySem.F.plainAttrs_list PySem.F.slot_list_append PySem.F.type_list_append Z0 (pv 2) (z0 (S9 (z0 (pv 4) (z0 (pv 5) z4))) z4)))
   (z7 (t8 (w4 n6 (u0 o7 (u0 o5 (pv 0) z8) z8) z8 (w8 _)) (z7 (C4 (p3 (z0 (pv 4) (z0 (pv 5) z4))) (zn7 (pv 2) (pv 3) F9))) y9)))))))
  apply y4
  ·exact DS.mk (t8 (PW.pt (R4 (w4 (zn1 hr.units) (pv 2) (p3 z4) (w8 _)) (W1 (w4 n6 (u0 o7 (u0 o5 (pv 0) z8) z8) z8 (w8 _))))) (z7 (c9 (zd9 PySem.F.plainAttrs_list PySem.F.slot_list_append PySem.F.type_list_append Z0 (pv 2) (z0 (S9 (z0 (V7 zl7 (V7 W0 (pv 2) z8 (λ_ _=>rfl)) z8 (λ_ _=>rfl)) (z0 (V7 zl7 (V7 W0 (pv 2) z8 (λ_ _=>rfl)) z8 (λ_ _=>rfl)) z4))) z4)))) y9)
  apply y4
  ·apply xd2
   ·exact PW.pt (R4 (w4 (zn1 hr.units) (pv 2) (p3 z4) (w8 _)) (W1 (w4 n6 (u0 o7 (u0 o5 (pv 0) z8) z8) z8 (w8 _))))
   ·apply ys0
    apply yy3
    ·exact xc9 W0 (yo5 (C:=λσ _=>σ[1]?=some (some (.int n))) (ds:=yz4 n)
     (l9 U2 (zz4 (l9 U2 J0 (l9 U2 J0 (l9 U2 J0 F8))) i9) (l9 U2 (zz4 (l9 U2 J0 F8) i9) (l9 U2 J0 (l9 U2 (zz4 (l9 U2 J0 (l9 U2 (xf4 (pv 1) λσ H Q hc k=>⟨_,hc,k _ H (z9.refl _) (.int _)⟩) F8)) i9)
     (l9 U2 (yo5 (l9 U2 xf3 (l9 U2 J0 F8)) i9) (l9 U2 xb6 F8)))))) i9) (u0 o7 (u0 o5 (pv 0) z8) z8) (λ_ _=>rfl)
    ·exact zn7 (pv 2) (u0 o7 (u0 o5 (pv 0) z8) (y6 u7 rfl B.len i5 (z0 (pv 2) z4))) F9
    ·exact rfl
    ·exact rfl
    ·exact rfl
   ·exact yr9
  exact ⟨z7 (y8 (pv 2))⟩
 have h5:=bg c (show (5:Int)≠0 by decide)
 have h6:=bC c (show (0:Int)<5 by decide)
 refine t0 λN hN=>⟨ax _,λr hr0=>hN _ _ ?_⟩
 clear hN N
 refine t0 λN hN=>⟨_,rfl,_,_,rfl,rfl,(by show (0:Int)<5;decide),_,rfl,by lia,by lia,N3 (n:=(c % 5).toNat) (λi σ H2=>∃v3 v4 v5 xs,σ=[some (.int c),some (.int n),some (.ref r),v3,v4,v5]/\z9 H H2/\H2 r=some (.lst xs)/\Dts (wo H2 r) xs ((List.range i).map (prK c n))) ⟨none,none,none,[],rfl,z6 hr0 _,z5,.nil⟩ ?_ ?_⟩
 ·rintro i σ H2 hi ⟨v3,v4,v5,xs,rfl,s2,hr2,d2⟩
  clear hN
  rw [show (0:Int)+(i:Int)=(i:Int) by lia]
  have hnp:(0:Int)<(n:Int):=by lia
  refine t0 λM hM=>⟨_,rfl,_,_,rfl,rfl,⟨by decide,by decide⟩,_,rfl,_,_,rfl,rfl,_,_,rfl,rfl,⟨by show (0:Int)<(i:Int)+1;lia,by show (i:Int)+1<1073741824;lia⟩,_,rfl,_,_,rfl,rfl,hnp,hM _ _ ?_⟩
  clear hM M
  refine t0 λM hM=>⟨_,rfl,_,rfl,_,_,rfl,rfl,⟨by decide,by decide⟩,_,rfl,_,_,rfl,rfl,_,_,rfl,rfl,⟨by show (0:Int)<(i:Int)+2;lia,by show (i:Int)+2<1073741824;lia⟩,_,_,rfl,rfl,_,rfl,_,_,rfl,rfl,hnp,hM _ _ ?_⟩
  clear hM M
  refine t0 λM hM=>⟨_,rfl,_,_,rfl,rfl,⟨by decide,by decide⟩,_,_,rfl,rfl,(by show (0:Int)<4;decide),_,_,rfl,rfl,_,rfl,?_⟩
  have key:M [some (.int c),some (.int n),some (.ref r),some (.int i),some (.int (prA c n i)),some (.int (prB c n i))] H2:=by
   refine hM _ _ ?_
   clear hM M
   refine t0 λM hM=>⟨_,rfl,.inl ⟨rfl,_,SqL.of hr2⟩,_,rfl,_,rfl,(by show 2<=sizeLine;lia),λtp htp=>?_⟩
   have hne:tp≠r:=λz=>by rw [z,hr2] at htp;cases htp
   have s4:=z6 htp (.tup [V.int (prA c n i),V.int (prB c n i)])
   have e4:(upd H2 tp (.tup [V.int (prA c n i),V.int (prB c n i)])) tp=some (.tup [V.int (prA c n i),V.int (prB c n i)]):=z5
   generalize upd H2 tp (.tup [V.int (prA c n i),V.int (prB c n i)])=H4 at s4 e4 ⊢
   have hxl:xs.length=i:=by rw [d2.length];simp
   have d4:Dts (wo H4 r) xs ((List.range i).map (prK c n)):=d2.same (O9 s4)
   refine ⟨r,xs,_,rfl,rfl,s4 _ _ hr2,W5 (by lia),hM _ _ ?_⟩
   clear hM M
   refine ⟨_,rfl,_,_,rfl,rfl,⟨by decide,by decide⟩,_,_,rfl,rfl,(by show (0:Int)<2;decide),rfl,_,rfl,?_⟩
   show if decide (V.int (c / 20 % 2)=V.int 1)=true then _ else _
   rw [t7]
   by_cases c2:c / 20 % 2=1
   ·rw [decide_eq_true c2]
    refine u4 ⟨_,rfl,_,rfl,(by show 2<=sizeLine;lia),λlp hlp=>?_⟩
    have hnl:lp≠r:=λz=>by rw [z,z5] at hlp;cases hlp
    refine ⟨_,rfl,_,rfl,r,_,_,i,rfl,rfl,(by rw [u9 (Ne.symm hnl),z5]),(by rw [al,hxl];exact G9 (by show i<i+1;lia)),?_⟩
    refine ⟨_,_,_,_,rfl,n8 ((n8 (s2.trans s4) hr0 _).trans (z6 hlp _)) hr0 _,z5,?_⟩
    rw [I0,List.set_append_right _ _ (by lia),hxl,cH]
    have sw:z9 (wo H4 r) (wo (upd (upd H4 r (.lst (xs++[V.ref tp]))) lp (.lst [V.int (prA c n i),V.int (prB c n i)])) r):=by
     refine z9.trans ?_ (O9 (z6 hlp _))
     rw [I0]
     exact z9.refl _
    rw [cy,bo]
    refine (d4.same sw).append (.cons ?_ .nil)
    unfold prK
    rw [if_pos c2]
    exact .lst (zw4 z5 hnl) (.cons (.int _) (.cons (.int _) .nil))
   ·rw [decide_eq_false c2]
    refine w6 ⟨_,_,_,_,rfl,n8 (s2.trans s4) hr0 _,z5,?_⟩
    rw [I0,cy,bo]
    refine d4.append (.cons ?_ .nil)
    unfold prK
    rw [if_neg c2]
    exact .tup (zw4 e4 hne) (.cons (.int _) (.cons (.int _) .nil))
  show if decide ((0:Int)<c / 5 % 4)=true then _ else _
  by_cases c4:0<c / 5 % 4
  ·rw [decide_eq_true c4]
   refine u4 ⟨_,rfl,_,rfl,rfl,_,rfl,?_⟩
   show if decide (V.int (prA c n i)=V.int ((prA c n i+c / 7 / ((i:Int)+2)) % (n:Int)))=true then _ else _
   rw [t7]
   by_cases ce:prA c n i=(prA c n i+c / 7 / ((i:Int)+2)) % (n:Int)
   ·rw [decide_eq_true ce]
    refine u4 ⟨_,rfl,_,_,rfl,rfl,_,rfl,_,_,rfl,rfl,hnp,?_⟩
    unfold prB at key
    rw [if_pos ⟨c4,ce⟩] at key
    exact key
   ·rw [decide_eq_false ce]
    refine w6 ?_
    unfold prB at key
    rw [if_neg λh=>ce h.2] at key
    exact key
  ·rw [decide_eq_false c4]
   refine w6 ?_
   unfold prB at key
   rw [if_neg λh=>c4 h.1] at key
   exact key
 ·rintro σ H2 ⟨v3,v4,v5,xs,rfl,s2,hr2,d2⟩
  refine hN _ _ ?_
  clear hN N
  have d2:Dts (wo H2 r) xs (ze2 c n):=d2
  have h1l:=zt6 c n
  have hxl:xs.length=(c % 5).toNat:=by rw [d2.length,h1l]
  refine t0 λN hN=>⟨_,rfl,ax _,λp hp=>?_⟩
  have s3:=z6 hp (.lst [])
  have e3:(upd H2 p (.lst [])) p=some (.lst []):=z5
  have hr3:=s3 _ _ hr2
  have d3:=d2.same (O9 (r:=r) s3)
  replace s3:=s2.trans s3
  generalize upd H2 p (.lst [])=H3 at s3 e3 hr3 d3 ⊢
  have key:∀(ys:List V) (H4:Hp),z9 H H4->H4 r=some (.lst ys)->Dts (wo H4 r) ys (P1 c n)->N [some (.int c),some (.int n),some (.ref r),v3,v4,v5] H4:=by
   intro ys H4 s4 hr4 d4
   refine hN _ _ ?_
   clear hN N
   obtain ⟨l5,lp,l0⟩:=zt7 c n
   have hyl:ys.length=(P1 c n).length:=d4.length
   have fin:∀(zs:List V) (H5:Hp),z9 H H5->H5 r=some (.lst zs)->Dts (wo H5 r) zs (zo3 c n)->Q (.ref r) H5:=λzs H5 s5 hr5 d5=>q _ _ s5 (.lst hr5 (d5.same Q8))
   have hno:∀H5,z9 H4 H5->¬(0<c % 5/\c / 40 % 16=2)->Q (.ref r) H5:=λH5 s5 h=>fin ys H5 (s4.trans s5) (s5 _ _ hr4) (by unfold zo3;rw [if_neg h];exact d4.same (O9 s5))
   refine t0 λN hN=>⟨_,rfl,ax _,λp hp=>?_⟩
   have s5:=z6 hp (.lst [])
   have e5:(upd H4 p (.lst [])) p=some (.lst []):=z5
   generalize upd H4 p (.lst [])=H5 at s5 e5 ⊢
   refine ⟨.list (P1 c n),.list [],.lst (s5 _ _ hr4) ((d4.same Q8).same s5),.lst e5 .nil,((g7.lst (ze4 c n)).mono (by decide)).shaped,by decide +kernel,_,rfl,?_⟩
   rw [zi5]
   by_cases h0:0<c % 5
   ·have h0l:=lp h0
    have hne:(P1 c n).isEmpty=false:=by
     cases e:P1 c n with
     | nil=>rw [e] at h0l;cases h0l
     | cons _ _=>rfl
    rw [hne]
    refine u4 ⟨_,rfl,_,_,rfl,rfl,⟨by decide,by decide⟩,_,_,rfl,rfl,(by show (0:Int)<16;decide),rfl,_,rfl,?_⟩
    show if decide (V.int (c / 40 % 16)=V.int 2)=true then _ else _
    rw [t7]
    by_cases c2:c / 40 % 16=2
    ·rw [decide_eq_true c2]
     refine u4 ⟨rfl,λv H6 s6 hv=>?_⟩
     obtain ⟨a0,xs0,rfl,ha0,r0⟩:=zc1 hv
     have hl0:xs0.length=6:=r0.length
     obtain ⟨m,em,hm⟩:=zd1 (z:=c / 640) (k:=6) (by decide)
     have em:c / 640 % 6=(m:Int):=em
     obtain ⟨z,hz0⟩:∃z,xs0[m]?=some z:=⟨_,ah (by lia)⟩
     obtain ⟨d,hd,hzd⟩:=r0.get hz0
     obtain ⟨j,ej,hj⟩:=zd1 (z:=c / 5) (k:=(P1 c n).length) h0l
     have hr6:=(s5.trans s6) _ _ hr4
     refine ⟨_,rfl,_,_,rfl,rfl,⟨by decide,by decide⟩,_,_,rfl,rfl,(by show (0:Int)<6;decide),a0,_,_,z,rfl,rfl,SqL.of (yc5 _ _ ha0),(by rw [em];exact Z3 hz0),_,rfl,_,rfl,_,_,rfl,rfl,⟨by decide,by decide⟩,_,rfl,r,_,rfl,.inl (SqL.of hr6),_,_,rfl,rfl,(by show (0:Int)<(ys.length:Int);lia),r,_,_,j,rfl,rfl,hr6,(by rw [hyl,ej];exact G9 hj),hN _ _ ⟨_,rfl,fin _ _ (n8 (s4.trans (s5.trans s6)) hr0 _) z5 ?_⟩⟩
     rw [I0]
     unfold zo3
     rw [if_pos ⟨h0,c2⟩,em,ej,aJ,aJ,aK,hd]
     have sw:z9 (nw H5 H6) (wo H6 r):=λb o h=>zw4 (yc5 _ _ h) λz=>by
      unfold nw at h
      rw [z,s5 _ _ hr4] at h
      simp at h
     exact Dts.set (hzd.same sw) j (d4.same (O9 (s5.trans s6)))
    ·rw [decide_eq_false c2]
     exact w6 (hN _ _ ⟨_,rfl,hno H5 s5 λh=>c2 h.2⟩)
   ·rw [l0 (by lia)]
    exact w6 (hN _ _ ⟨_,rfl,hno H5 s5 λh=>h0 h.1⟩)
  clear hN
  refine ⟨.list (ze2 c n),.list [],.lst hr3 (d3.same Q8),.lst e3 .nil,((g7.lst (ze3 c n)).mono (by decide)).shaped,by decide +kernel,_,rfl,?_⟩
  rw [zi5]
  by_cases h0:0<c % 5
  ·have hne:(ze2 c n).isEmpty=false:=by
    cases e:ze2 c n with
    | nil=>rw [e] at h1l;simp at h1l;lia
    | cons _ _=>rfl
   rw [hne]
   refine u4 ⟨_,rfl,_,_,rfl,rfl,⟨by decide,by decide⟩,_,_,rfl,rfl,(by show (0:Int)<4;decide),rfl,_,rfl,?_⟩
   show if decide (V.int (c / 40 % 4)=V.int 1)=true then _ else _
   rw [t7]
   by_cases c4:c / 40 % 4=1
   ·rw [decide_eq_true c4]
    obtain ⟨x0,hx0⟩:∃x,xs[0]?=some x:=⟨_,ah (by lia)⟩
    obtain ⟨d0,hd0,hxd⟩:=d3.get hx0
    have ed:d0=prK c n 0:=by
     unfold ze2 at hd0
     rw [au,bE (by lia)] at hd0
     exact (Option.some.inj hd0).symm
    subst ed
    obtain ⟨p0,rfl,hp0⟩:=xb4 (hxd.same Q8)
    have hq:SqL K H3 p0 [.int (prA c n 0),.int (prB c n 0)]∨SqT K H3 p0 [.int (prA c n 0),.int (prB c n 0)]:=hp0.imp SqL.of SqT.of
    refine u4 ⟨_,rfl,.inl ⟨rfl,_,SqL.of hr3⟩,_,rfl,r,xs,0,_,rfl,rfl,SqL.of hr3,Z3 (j:=0) hx0,p0,_,1,_,rfl,rfl,hq,rfl,_,rfl,r,xs,0,_,rfl,rfl,SqL.of hr3,Z3 (j:=0) hx0,p0,_,0,_,rfl,rfl,hq,rfl,(by show 2<=sizeLine;lia),λtp htp=>?_⟩
    have hnt:tp≠r:=λz=>by rw [z,hr3] at htp;cases htp
    refine ⟨r,xs,_,rfl,rfl,z6 htp _ _ _ hr3,W5 (by lia),key _ _ (n8 (s3.trans (z6 htp _)) hr0 _) z5 ?_⟩
    rw [I0]
    unfold P1
    rw [if_pos ⟨h0,c4⟩]
    exact (d3.same (O9 (z6 htp _))).append (.cons (.tup (zw4 z5 hnt) (.cons (.int _) (.cons (.int _) .nil))) .nil)
   ·rw [decide_eq_false c4]
    refine w6 (key xs H3 s3 hr3 ?_)
    unfold P1
    rw [if_neg λh=>c4 h.2]
    exact d3
  ·have he:(ze2 c n).isEmpty=true:=by rw [List.isEmpty_iff];exact bR.mp (by lia)
   rw [he]
   refine w6 (key xs H3 s3 hr3 ?_)
   unfold P1
   rw [if_neg λh=>h0 h.1]
   exact d3
def yi2:Nat->List (Nat×Nat)
 | 0=>[]
 | i+1=>yi2 i++(List.range i).map λj=>(i,j)
def mpL (c:Int)(n:Nat):List (Nat×Nat):=(yi2 n).take (199+c % 3).toNat
theorem zw0 {α:Type}{L:List α}{x:α}{m:Nat}:(L++[x]).take m=if L.length<m then L.take m++[x] else L.take m:=by
 split
 ·rename_i h
  rw [aV (by simp;lia),aV (by lia)]
 ·rename_i h
  rw [List.take_append_of_le_length (by lia)]
def zf0:Sp:=λvs H Q _=>∃(c:Int) (n:Nat),vs=[.int c,.int n]/\n<=60/\∀(r:Addr) (H':Hp),z9 H H'->Dt H' (.ref r) (.tuple ((mpL c n).map dPr))->Q (.ref r) H'
theorem g6:v9 ["_law_cell_here","_law_many","_law_pairs_here","_law_one","_law_other"] ["_law_cell_here","_law_many"] (y0 Z7):=scq
theorem K4 (D:Def K mg "_law_many_pairs" Z7 ["_law_cell_here","_law_many"] f fd) (B:Blt mg):r8 P w K mg base CX0 1 f fd ["_law_cell_here","_law_many"] zf0:=by
 refine D.F.ok g6 (λvs H Q E h=>?_) (λcdv A outer s H vs Q E hr h=>?_)
 ·obtain ⟨c,n,rfl,_⟩:=h
  rfl
 obtain ⟨c,n,rfl,hn,q⟩:=h
 have hz:=p7
 apply d9
 ·apply y4
  ·exact DS.mk (n3 (i:=2) g6.nd rfl (Or.inl rfl) (p3 z4))
  apply y4
  ·exact DS.mk (R3 PassesOwn.never rfl (T8 rfl B.range (z0 (pv 1) z4)) (k8 (i:=3) g6.nd rfl (Or.inl rfl))
    (z7 (R3 PassesOwn.never rfl (T8 rfl B.range (z0 (pv 3) z4)) (k8 (i:=4) g6.nd rfl (Or.inl rfl))
     (z7 (t8 (w4 B8 (y6 u7 rfl B.len i5 (z0 (pv 2) z4)) (u0 U8 z8 (u0 o7 (pv 0) z8)) (w8 _)) (z7 (c9 (zd9 PySem.F.plainAttrs_list PySem.F.slot_list_append PySem.F.type_list_append Z0 (pv 2) (z0 (S9 (z0 (pv 3) (z0 (pv 4) z4))) z4)))) y9)))))
  exact ⟨z7 (y8 (p8 m9 rfl B.tuple l6 (z0 (pv 2) z4)))⟩
 obtain ⟨m,em,hm1,hm2⟩:∃m:Nat,199+c % 3=(m:Int)/\199<=m/\m<=201:=⟨(199+c % 3).toNat,by lia,by lia,by lia⟩
 refine t0 λN hN=>⟨ax _,λr hr0=>hN _ _ ?_⟩
 clear hN N
 obtain ⟨Iv,eI⟩:∃Iv:List (Nat×Nat)->Hp->Prop,Iv=λL H2=>∃xs,z9 H H2/\H2 r=some (.lst xs)/\Dts (wo H2 r) xs ((L.take m).map dPr):=⟨_,rfl⟩
 have inv:Iv [] (upd H r (.lst [])):=by
  rw [eI]
  exact ⟨[],z6 hr0 _,z5,by rw [List.take_nil];exact .nil⟩
 refine t0 λN hN=>⟨_,rfl,_,rfl,by lia,by lia,N3 (n:=((n:Nat):Int).toNat) (λi σ H2=>∃v3 v4,σ=[some (.int c),some (.int n),some (.ref r),v3,v4]/\Iv (yi2 i) H2) ⟨none,none,rfl,inv⟩ ?_ ?_⟩
 ·rintro i σ H2 hi ⟨v3,v4,rfl,h2⟩
  rw [show (0:Int)+(i:Int)=(i:Int) by lia]
  refine ⟨_,rfl,_,rfl,by lia,by lia,N3 (n:=((i:Nat):Int).toNat) (λj σ H2=>∃v4,σ=[some (.int c),some (.int n),some (.ref r),some (.int i),v4]/\Iv (yi2 i++(List.range j).map λj=>(i,j)) H2) ⟨v4,rfl,by rw [List.range_zero,bM,bu];exact h2⟩ ?_ ?_⟩
  ·rintro j σ H3 hj ⟨v4,rfl,h3⟩
   rw [show (0:Int)+(j:Int)=(j:Int) by lia]
   rw [cy,bo,←bn]
   generalize yi2 i++(List.range j).map (λj=>(i,j))=L at h3 ⊢
   subst eI
   obtain ⟨xs,s3,hr3,d3⟩:=h3
   have hxl:=d3.length
   rw [aa,aP] at hxl
   refine ⟨_,rfl,r,_,rfl,.inl (SqL.of hr3),_,rfl,_,_,rfl,rfl,(by show (0:Int)<3;decide),_,_,rfl,rfl,_,_,rfl,rfl,_,rfl,?_⟩
   show if decide ((xs.length:Int)<199+c % 3)=true then _ else _
   rw [em]
   by_cases hlt:L.length<m
   ·rw [decide_eq_true (by lia)]
    refine u4 ⟨_,rfl,.inl ⟨rfl,_,SqL.of hr3⟩,_,rfl,_,rfl,(by show 2<=sizeLine;lia),λtp htp=>?_⟩
    have hne:tp≠r:=λz=>by rw [z,hr3] at htp;cases htp
    have s4:=z6 htp (.tup [V.int i,V.int j])
    have e4:(upd H3 tp (.tup [V.int i,V.int j])) tp=some (.tup [V.int i,V.int j]):=z5
    generalize upd H3 tp (.tup [V.int i,V.int j])=H4 at s4 e4 ⊢
    refine ⟨r,xs,_,rfl,rfl,s4 _ _ hr3,W5 (by lia),?_⟩
    refine ⟨_,rfl,xs++[V.ref tp],n8 (s3.trans s4) hr0 _,z5,?_⟩
    rw [I0,aE,bM,zw0,if_pos hlt,bo]
    exact (d3.same (O9 s4)).append (.cons (.tup (zw4 e4 hne) (.cons (.int _) (.cons (.int _) .nil))) .nil)
   ·rw [decide_eq_false (by lia)]
    refine w6 ⟨_,rfl,xs,s3,hr3,?_⟩
    rw [aE,bM,zw0,if_neg hlt]
    exact d3
  ·rintro σ H3 ⟨v4,rfl,h3⟩
   rw [show ((i:Nat):Int).toNat=i by lia] at h3
   exact ⟨_,_,rfl,h3⟩
 ·rintro σ H2 ⟨v3,v4,rfl,h2⟩
  rw [show ((n:Nat):Int).toNat=n by lia] at h2
  subst eI
  obtain ⟨xs,s2,hr2,d2⟩:=h2
  refine hN _ _ ⟨_,rfl,r,xs,rfl,.inl ⟨SqL.of hr2,λtp htp=>q _ _ (s2.trans (z6 htp _)) ?_⟩⟩
  unfold mpL
  rw [em,aJ]
  exact .tup z5 ((d2.same Q8).same (z6 htp _))
def zp3 (c:Int)(n:Nat):PyData :=
 if c % 8=0 then .int (c / 8 % ((n:Int)+4)-2)
 else if c % 8=1 then .list (L4 (c / 8) n)
 else if c % 8=2 then .tuple (L4 (c / 8) n)
 else if c % 8=3 then .list (zj1 ((zg9 (c / 8 / 61) n).take (c / 8 % 61).toNat))
 else if c % 8=4 then zk3 (c / 8) n
 else if c % 8=5 then .list (zo3 (c / 8) n)
 else if c % 8=6/\c / 8 % 2=1 then .tuple ((mpL (c / 8 / 2) n).map dPr)
 else yn0 (c / 8 / 2)
def yi0 (d:PyData):Prop:=yr0 d/\∀ds,M3 d=some ds->ds.length<=1000
theorem za6 {ds:List PyData}{k:Nat}(h:n5 k ds)(hk:k<=3)(hl:ds.length<=1000):yi0 (.list ds):=⟨.inl ((g7.lst h).mono (by lia)),λes e=>by cases e;exact hl⟩
theorem G5 {ds:List PyData}{k:Nat}(h:n5 k ds)(hk:k<=3)(hl:ds.length<=1000):yi0 (.tuple ds):=⟨.inl ((g7.tup h).mono (by lia)),λes e=>by cases e;exact hl⟩
theorem P6 (l:List Nat):(zj1 l).length=l.length:=aa _
theorem yj7 {c:Int}{n:Nat}(hn:n<=60)(hl:(zg9 (c / 5) n).length=n):yi0 (zk3 c n):=by
 unfold zk3
 split
 ·exact za6 (W4 _) (by decide) (by rw [P6,hl];lia)
 split
 ·exact G5 (W4 _) (by decide) (by rw [P6,al,hl];show n+1<=1000;lia)
 split
 ·exact G5 (W4 _) (by decide) (by rw [P6,cA,hl];lia)
 ·exact G5 (W4 _) (by decide) (by rw [P6,hl];lia)
theorem yb8 (c:Int):yi0 (yn0 c):=by
 unfold yn0
 rw [aK]
 cases e:(ym8++ym9)[(c % 16).toNat]? with
 | none=>exact ⟨.inl ⟨by decide +kernel,by decide +kernel⟩,λds e=>by cases e⟩
 | some y=>exact yz5 y (ay e)
def zk0:Sp:=λvs H Q _=>∃(c:Int) (n:Nat),vs=[.int c,.int n]/\1<=n/\n<=60/\∀(v:V) (H':Hp),z9 H H'->yi0 (zp3 c n)->Dt H' v (zp3 c n)->Q v H'
theorem yi9 (row:List Nat)(k:Nat):K1 (tI row) none (some (k:Int))=tI (row.take k):=by
 unfold K1
 rw [HT.sIx_none,HT.sIx_nat,dt,Nat.sub_zero,i8,←yv1,←i8 row]
 rcases Nat.le_total k (tI row).length with h|h
 ·rw [Nat.min_eq_left h]
 ·rw [Nat.min_eq_right h,aV (af _),aV h]
theorem T4:v9 ["_law_cell_here","_law_many","_law_kind"] ["_law_cell_here","_law_many"] (y0 Q0):=scq
theorem zg5 (D:Def K mg "_law_thing" Q0 ["_law_cell_here","_law_many"] f fd) (B:Blt mg) (KR:p5 P w K mg base 1 "_law_row" ["_law_cell_here","_law_many"] yd6) (KO:p5 P w K mg base 1 "_law_order" ["_law_number","_law_many"] C8) (KW:p5 P w K mg base 2 "_law_whole_row" ["_law_cell_here","_law_many"] zv5) (KP:p5 P w K mg base 1 "_law_pairs" ["_law_cell_here","_law_many"] zj9) (KM:p5 P w K mg base 1 "_law_many_pairs" ["_law_cell_here","_law_many"] zf0) (KD:p5 P w K mg base 1 "_law_odd" ["_law_cell_here"] yd5):r8 P w K mg base CX0 3 f fd ["_law_cell_here","_law_many"] zk0:=by
 refine D.F.ok T4 (λvs H Q E h=>?_) (λcdv A outer s H vs Q E hr h=>?_)
 ·obtain ⟨c,n,rfl,_⟩:=h
  rfl
 obtain ⟨c,n,rfl,h1,hn,q⟩:=h
 apply d9
 ·apply y4
  ·exact DS.mk (C4 (y6 B3 rfl B.divmod zi1 (z0 (pv 0) (z0 z8 z4))) (yn8 rfl (F7 (k8 (i:=0) T4.nd rfl (Or.inl rfl)) (F7 (k8 (i:=2) T4.nd rfl (Or.inl rfl)) yc7))))
  apply y4
  ·exact DS.mk (t8 (w4 n6 (pv 2) z8 (w8 _)) (z7 (y8 (u0 zz0 (u0 o7 (pv 0) (u0 U8 (pv 1) z8)) z8))) y9)
  apply y4
  ·exact DS.mk (t8 (w4 n6 (pv 2) z8 (w8 _)) (z7 (y8 (o9 KR hr rfl (z0 (pv 0) (z0 (pv 1) z4))))) y9)
  apply y4
  ·exact DS.mk (t8 (w4 n6 (pv 2) z8 (w8 _)) (z7 (y8 (p8 m9 rfl B.tuple l6 (z0 (o9 KR hr rfl (z0 (pv 0) (z0 (pv 1) z4))) z4)))) y9)
  apply y4
  ·exact DS.mk (t8 (w4 n6 (pv 2) z8 (w8 _)) (z7 (y8 (zt5 yd2 (o9 KO hr rfl (z0 (u0 o5 (pv 0) z8) (z0 (pv 1) z4))) yu0 (zo2 (u0 o7 (pv 0) z8))))) y9)
  apply y4
  ·exact DS.mk (t8 (w4 n6 (pv 2) z8 (w8 _)) (z7 (y8 (o9 KW hr rfl (z0 (pv 0) (z0 (pv 1) z4))))) y9)
  apply y4
  ·exact DS.mk (t8 (w4 n6 (pv 2) z8 (w8 _)) (z7 (y8 (o9 KP hr rfl (z0 (pv 0) (z0 (pv 1) z4))))) y9)
  apply y4
  ·exact DS.mk (t8 (PW.pt (R4 (w4 n6 (pv 2) z8 (w8 _)) (W1 (w4 n6 (u0 o7 (pv 0) z8) z8 (w8 _))))) (z7 (y8 (o9 KM hr rfl (z0 (u0 o5 (pv 0) z8) (z0 (pv 1) z4))))) y9)
  exact ⟨z7 (y8 (o9 KD hr rfl (z0 (u0 o5 (pv 0) z8) z4)))⟩
 refine t0 λN hN=>⟨_,rfl,_,_,rfl,⟨by decide,by decide⟩,λtp htp=>⟨tp,_,rfl,SqT.of z5,rfl,_,_,rfl,_,_,rfl,rfl,hN _ _ ?_⟩⟩
 clear hN N
 have s1:=z6 htp (.tup [V.int (c / 8),V.int (c % 8)])
 generalize upd H tp (.tup [V.int (c / 8),V.int (c % 8)])=H1 at s1 ⊢
 unfold zp3 at q
 generalize ek:c % 8=k at q ⊢
 generalize c / 8=b at q ⊢
 have hk0:0<=k:=by rw [←ek];exact bg c (by decide)
 clear ek
 refine t0 λN hN=>⟨_,rfl,rfl,_,rfl,?_⟩
 rw [t7]
 by_cases c0:k=0
 ·rw [if_pos c0] at q
  rw [decide_eq_true c0]
  exact u4 ⟨_,rfl,_,rfl,_,_,rfl,rfl,_,_,rfl,rfl,(by show (0:Int)<(n:Int)+4;lia),_,_,rfl,rfl,q _ _ s1 ⟨.inl (.int _),λds e=>by cases e⟩ (.int _)⟩
 rw [if_neg c0] at q
 rw [decide_eq_false c0]
 refine w6 (hN _ _ ?_)
 clear hN N
 refine t0 λN hN=>⟨_,rfl,rfl,_,rfl,?_⟩
 rw [t7]
 by_cases c1:k=1
 ·rw [if_pos c1] at q
  rw [decide_eq_true c1]
  exact u4 ⟨_,rfl,_,rfl,b,n,rfl,h1,hn,λr xs H2 hr0 s2 hr2 d2=>q _ _ (s1.trans s2) (za6 (zj6 b n) (by decide) (by rw [zj7];have:=zz5 b;lia)) (.lst hr2 (d2.same Q8))⟩
 rw [if_neg c1] at q
 rw [decide_eq_false c1]
 refine w6 (hN _ _ ?_)
 clear hN N
 refine t0 λN hN=>⟨_,rfl,rfl,_,rfl,?_⟩
 rw [t7]
 by_cases c2:k=2
 ·rw [if_pos c2] at q
  rw [decide_eq_true c2]
  exact u4 ⟨_,rfl,_,rfl,b,n,rfl,h1,hn,λr xs H2 hr0 s2 hr2 d2=>⟨r,xs,rfl,.inl ⟨SqL.of hr2,λt2 ht2=>q _ _ (s1.trans (s2.trans (z6 ht2 _))) (G5 (zj6 b n) (by decide) (by rw [zj7];have:=zz5 b;lia)) (.tup z5 ((d2.same Q8).same (z6 ht2 _)))⟩⟩⟩
 rw [if_neg c2] at q
 rw [decide_eq_false c2]
 refine w6 (hN _ _ ?_)
 clear hN N
 refine t0 λN hN=>⟨_,rfl,rfl,_,rfl,?_⟩
 rw [t7]
 by_cases c3:k=3
 ·rw [if_pos c3] at q
  rw [decide_eq_true c3]
  refine u4 ⟨_,rfl,_,_,rfl,rfl,⟨by decide,by decide⟩,_,rfl,b / 61,n,rfl,by lia,λr H2 row hr0 s2 hT er hr2=>?_⟩
  refine ⟨_,rfl,_,_,rfl,rfl,(by show (0:Int)<61;decide),_,rfl,r,_,rfl,SqL.of hr2,λsl hsl=>?_⟩
  have hb:=bg b (show (61:Int)≠0 by decide)
  refine q _ _ (s1.trans (s2.trans (z6 hsl _))) (za6 (W4 _) (by decide) ?_) (.lst z5 ?_)
  ·rw [P6,aP,←er,hT.length]
   lia
  ·show Dts _ (K1 (tI row) none (some (b % 61))) _
   rw [←er,show b % 61=(((b % 61).toNat:Nat):Int) by lia,yi9,aJ]
   exact K3 _
 rw [if_neg c3] at q
 rw [decide_eq_false c3]
 refine w6 (hN _ _ ?_)
 clear hN N
 refine t0 λN hN=>⟨_,rfl,rfl,_,rfl,?_⟩
 rw [t7]
 by_cases c4:k=4
 ·rw [if_pos c4] at q
  rw [decide_eq_true c4]
  exact u4 ⟨_,rfl,_,rfl,b,n,rfl,h1,hn,λv H2 s2 hl hv=>q _ _ (s1.trans s2) (yj7 hn hl) hv⟩
 rw [if_neg c4] at q
 rw [decide_eq_false c4]
 refine w6 (hN _ _ ?_)
 clear hN N
 refine t0 λN hN=>⟨_,rfl,rfl,_,rfl,?_⟩
 rw [t7]
 by_cases c5:k=5
 ·rw [if_pos c5] at q
  rw [decide_eq_true c5]
  exact u4 ⟨_,rfl,_,rfl,b,n,rfl,h1,hn,λv H2 s2 hv=>q _ _ (s1.trans s2) (za6 (yo3 b n) (by decide) (by have:=yo4 b n;lia)) hv⟩
 rw [if_neg c5] at q
 rw [decide_eq_false c5]
 refine w6 (hN _ _ ?_)
 clear hN N
 refine t0 λN hN=>⟨_,rfl,rfl,_,rfl,?_⟩
 rw [t7]
 by_cases c6:k=6
 ·rw [decide_eq_true c6]
  refine u4 ⟨_,rfl,_,_,rfl,rfl,(by show (0:Int)<2;decide),rfl,_,rfl,?_⟩
  show if decide (V.int (b % 2)=V.int 1)=true then _ else _
  rw [t7]
  by_cases c7:b % 2=1
  ·rw [if_pos ⟨c6,c7⟩] at q
   rw [decide_eq_true c7]
   refine u4 ⟨_,rfl,_,_,rfl,rfl,⟨by decide,by decide⟩,_,rfl,b / 2,n,rfl,hn,λr H2 s2 hd=>q _ _ (s1.trans s2) (G5 (k:=1) ?_ (by decide) ?_) hd⟩
   ·exact n5.of λd hd=>by
     obtain ⟨x,_,rfl⟩:=aI.mp hd
     exact .tup (E3 _ _)
   ·rw [aa]
    unfold mpL
    rw [aP]
    lia
  ·rw [if_neg λh=>c7 h.2] at q
   rw [decide_eq_false c7]
   exact w6 (hN _ _ ⟨_,rfl,_,_,rfl,rfl,⟨by decide,by decide⟩,b / 2,rfl,λv H2 s2 hv=>q _ _ (s1.trans s2) (yb8 _) hv⟩)
 ·rw [if_neg λh=>c6 h.1] at q
  rw [decide_eq_false c6]
  exact w6 (hN _ _ ⟨_,rfl,_,_,rfl,rfl,⟨by decide,by decide⟩,b / 2,rfl,λv H2 s2 hv=>q _ _ (s1.trans s2) (yb8 _) hv⟩)
theorem ze1 (n:Nat):∀ds:List PyData,(ds.map λe=>(plD n e).isSome).all id=(R1 n ds).isSome
 | []=>rfl
 | d::ds=>by
  rw [aE,cW,ze1 n ds]
  show ((plD n d).isSome&&(R1 n ds).isSome)=((plD n d).bind λx=>(R1 n ds).map λl=>x::l).isSome
  cases plD n d <;> cases R1 n ds <;> rfl
def C9 (K:W.Frag):Sp:=λvs H Q _=>∃(x:V) (d:PyData) (m n:Nat),vs=[x,.int m,.int n]/\Dt H x d/\m<=1000/\∀H',z9 H H'->Q (.bl (Y0 m n d).isSome) H'
theorem ze6:v9 ["_law_thing_here","_law_most","_law_many"] ["_law_thing_here","_law_most","_law_many"] (y0 T2):=scq
theorem zd6 (D:Def K mg "_law_places" T2 ["_law_thing_here","_law_most","_law_many"] f fd) (B:Blt mg) (KW:p5 P w K mg base 1 "_law_whole" ["_law_found"] Z9) (kS:∀d,W.kitAny K (.type (tyD d)) [.type "list",.type "tuple"]=some (M3 d).isSome):r8 P w K mg base CX0 2 f fd ["_law_thing_here","_law_most","_law_many"] (C9 K):=by
 refine D.F.ok ze6 (λvs H Q E h=>?_) (λcdv A outer s H vs Q E hr h=>?_)
 ·obtain ⟨x,d,m,n,rfl,_⟩:=h
  rfl
 obtain ⟨x,d,m,n,rfl,hd,hm,q⟩:=h
 refine ⟨_,v8 (t8 (PW.pt (L0 (d8 (f8 (y6 S3 rfl B.isinstance u5 (z0 (pv 0) (z0 (S9 (z0 (e9 (v:=.ty "list") rfl B.list G0 rfl) (z0 (e9 (v:=.ty "tuple") rfl B.tuple l6 rfl) z4))) z4))))) (R5 (w4 zj2 (y6 u7 rfl B.len i5 (z0 (pv 0) z4)) (pv 1) (w8 _))))) (z7 (y8 Y3)) y9)
  (z7 (y8 (y6 (E7 rfl) rfl B.all zw9 (z0 (ze0 [2] ["_law_one","_law_many"] rfl (zn9 (pv 0)) (λ_ _ _ _=>(K5 (o9 KW hr rfl (z0 (pv 0) z4)) (C1 (zt4 zt1 B8 z8 (pv 0) (pv 1)))))) z4)))),?_⟩
 refine ⟨_,rfl,ze8 (show 2<=1000 by decide),λp hp=>?_⟩
 have s1:=z6 hp (.tup [V.ty "list",V.ty "tuple"])
 have ep:(upd H p (.tup [V.ty "list",V.ty "tuple"])) p=some (.tup (["list","tuple"].map V.ty)):=z5
 generalize upd H p (.tup [V.ty "list",V.ty "tuple"])=H1 at s1 ep ⊢
 have hd1:=hd.same s1
 refine ⟨_,d,p,["list","tuple"],_,rfl,hd1,SqT.of ep,kS d,_,rfl,?_⟩
 cases hd1 with
 | @lst a xs ds e hs =>
  refine w6 ⟨_,rfl,a,_,rfl,.inl (SqL.of e),_,rfl,_,_,rfl,rfl,_,rfl,?_⟩
  rw [hs.length]
  rcases bP m ds.length with hl|hl
  ·rw [decide_eq_true (show ((ds.length:Nat):Int) > (m:Int) by lia)]
   have:=q H1 s1
   rw [show Y0 m n (.list ds)=none from if_neg (Nat.not_le.mpr hl)] at this
   exact u4 this
  ·rw [decide_eq_false (show ¬((ds.length:Nat):Int) > (m:Int) by lia)]
   refine w6 ⟨_,rfl,a,rfl,.inl ⟨⟨_,SqL.of e⟩,ye8 (SqL.of e) ((ds.map λe=>(plD n e).isSome).map V.bl) (by rw [aa,aa,hs.length]) (by rw [hs.length];exact aB hl (aB hm (by decide))) ?_ ?_⟩⟩
   ·intro i H2 y hy s2 _ _ _ _
    obtain ⟨di,hdi,hdy⟩:=S5 hs i y hy
    have hdy:=hdy.same s2
    refine ⟨_,rfl,y,di,rfl,hdy,_,rfl,?_⟩
    have fin:((ds.map λe=>(plD n e).isSome).map V.bl)[i]?=some (V.bl (plD n di).isSome):=by rw [au,au,hdi];rfl
    cases hdy with
    | int j =>
     refine u4 ⟨_,rfl,_,_,rfl,rfl,_,rfl,?_⟩
     rw [R0] at fin
     by_cases h0:0<=j
     ·rw [decide_eq_true h0]
      refine u4 ⟨_,rfl,_,_,rfl,rfl,z9.refl _,?_⟩
      by_cases h1:j<(n:Int)
      ·rw [if_pos ⟨h0,h1⟩] at fin
       rw [fin]
       show _=some (V.bl (decide (j<(n:Int))))
       rw [decide_eq_true h1]
       rfl
      ·rw [if_neg λz=>h1 z.2] at fin
       rw [fin]
       show _=some (V.bl (decide (j<(n:Int))))
       rw [decide_eq_false h1]
       rfl
     ·rw [decide_eq_false h0]
      rw [if_neg λz=>h0 z.1] at fin
      exact w6 ⟨z9.refl _,fin⟩
    | _=>exact w6 ⟨z9.refl _,fin⟩
   ·intro D H2 _ s2 hD
    refine ⟨D,_,rfl,SqL.of hD,?_⟩
    rw [ze1]
    have:=q H2 (s1.trans s2)
    rw [show Y0 m n (.list ds)=R1 n ds from if_pos hl] at this
    exact this
 | @tup a xs ds e hs =>
  refine w6 ⟨_,rfl,a,_,rfl,.inr (SqT.of e),_,rfl,_,_,rfl,rfl,_,rfl,?_⟩
  rw [hs.length]
  rcases bP m ds.length with hl|hl
  ·rw [decide_eq_true (show ((ds.length:Nat):Int) > (m:Int) by lia)]
   have:=q H1 s1
   rw [show Y0 m n (.tuple ds)=none from if_neg (Nat.not_le.mpr hl)] at this
   exact u4 this
  ·rw [decide_eq_false (show ¬((ds.length:Nat):Int) > (m:Int) by lia)]
   refine w6 ⟨_,rfl,a,rfl,.inr ⟨⟨_,SqT.of e⟩,zb8 (SqT.of e) ((ds.map λe=>(plD n e).isSome).map V.bl) (by rw [aa,aa,hs.length]) (by rw [hs.length];exact aB hl (aB hm (by decide))) ?_ ?_⟩⟩
   ·intro i H2 y hy s2 _ _ _ _
    obtain ⟨di,hdi,hdy⟩:=S5 hs i y hy
    have hdy:=hdy.same s2
    refine ⟨_,rfl,y,di,rfl,hdy,_,rfl,?_⟩
    have fin:((ds.map λe=>(plD n e).isSome).map V.bl)[i]?=some (V.bl (plD n di).isSome):=by rw [au,au,hdi];rfl
    cases hdy with
    | int j =>
     refine u4 ⟨_,rfl,_,_,rfl,rfl,_,rfl,?_⟩
     rw [R0] at fin
     by_cases h0:0<=j
     ·rw [decide_eq_true h0]
      refine u4 ⟨_,rfl,_,_,rfl,rfl,z9.refl _,?_⟩
      by_cases h1:j<(n:Int)
      ·rw [if_pos ⟨h0,h1⟩] at fin
       rw [fin]
       show _=some (V.bl (decide (j<(n:Int))))
       rw [decide_eq_true h1]
       rfl
      ·rw [if_neg λz=>h1 z.2] at fin
       rw [fin]
       show _=some (V.bl (decide (j<(n:Int))))
       rw [decide_eq_false h1]
       rfl
     ·rw [decide_eq_false h0]
      rw [if_neg λz=>h0 z.1] at fin
      exact w6 ⟨z9.refl _,fin⟩
    | _=>exact w6 ⟨z9.refl _,fin⟩
   ·intro D H2 _ s2 hD
    refine ⟨D,_,rfl,SqL.of hD,?_⟩
    rw [ze1]
    have:=q H2 (s1.trans s2)
    rw [show Y0 m n (.tuple ds)=R1 n ds from if_pos hl] at this
    exact this
 | _ =>
  have:=q H1 s1
  exact u4 this
structure yv6 (J:It) (H0:Hp) (xs:List V):Prop where
 go:∀i H,i<xs.length->z9 H0 H->J.go i H
 yld:∀i H y H',i<xs.length->z9 H0 H->J.yld i H y H'->H'=H/\xs[i]?=some y
 stop:∀H,z9 H0 H->J.stop xs.length H
theorem ys6 {K:W.Frag}{tl:TE}{σ:St}{R:It->Hp->Prop}{H0 H:Hp}{a:Addr}{xs:List V}(ht:∀Q:VK,Q (.ref a) H->tl σ H Q)(s:z9 H0 H)(h:H0 a=some (.lst xs)∨H0 a=some (.tup xs))(k:∀J,yv6 J H0 xs->R J H):xd9 K tl σ H R:=ht _ ⟨a,rfl,by
 rcases h with e|e
 ·exact .inl ⟨⟨_,SqL.of (s _ _ e)⟩,k _ ⟨λi H2 hi s2=>⟨xs,xs[i],SqL.of (s2 _ _ e),ah hi⟩,λi H2 y H3 _ s2 yl=>⟨yl.1,yl.2 xs (SqL.of (s2 _ _ e))⟩,λH2 s2=>⟨xs,SqL.of (s2 _ _ e),af _⟩⟩⟩
 ·exact .inr ⟨⟨_,SqT.of (s _ _ e)⟩,k _ ⟨λi H2 hi s2=>⟨xs,xs[i],SqT.of (s2 _ _ e),ah hi⟩,λi H2 y H3 _ s2 yl=>⟨yl.1,yl.2 xs (SqT.of (s2 _ _ e))⟩,λH2 s2=>⟨xs,SqT.of (s2 _ _ e),af _⟩⟩⟩⟩
theorem ys1 {J:It}{H0:Hp}{xs:List V}{g:TG}{tb:TS}{D:L6}{σ:St}{H:Hp}(hJ:yv6 J H0 xs)(Pv:Nat->St->Hp->Prop)(h0:Pv 0 σ H)(hsm:∀i σ H,Pv i σ H->z9 H0 H)
  (hs:∀i x σ H,xs[i]?=some x->Pv i σ H->g x σ H λσ2 H2=>tb { D with nx:=Pv (i+1),ct:=Pv (i+1),bk:=D.nx } σ2 H2) (hd:∀σ H,Pv xs.length σ H->D.nx σ H) :
  ∃W:Nat->Nat->St->Hp->Prop,(∃m,W 0 m σ H)/\∀i m σ H,W i m σ H ->
   (J.stop i H/\D.nx σ H)∨(J.go i H/\∃N:St->Hp->Prop,(∀σ' H',N σ' H'->∃m',m'<m/\W (i+1) m' σ' H')/\∀x H',J.yld i H x H'->g x σ H' λσ2 H2=>tb { D with nx:=N,ct:=N,bk:=D.nx } σ2 H2):=by
 refine ⟨λi m σ H=>m=xs.length-i/\i<=xs.length/\Pv i σ H,⟨xs.length,by simp,ax _,h0⟩,?_⟩
 rintro i m σ H ⟨rfl,hi,p⟩
 by_cases hlt:i<xs.length
 ·refine .inr ⟨hJ.go i H hlt (hsm i σ H p),Pv (i+1),λσ' H' p'=>⟨xs.length-(i+1),by lia,rfl,hlt,p'⟩,λx H' y=>?_⟩
  obtain ⟨rfl,hx⟩:=hJ.yld i H x H' hlt (hsm i σ H p) y
  exact hs i x σ _ hx p
 ·obtain rfl:i=xs.length:=by lia
  exact .inl ⟨hJ.stop H (hsm _ σ H p),hd σ H p⟩
theorem zb0 {H:Hp}{y:V}{e:PyData}{m n:Nat}{l:List Nat}(hy:Dt H y e)(h:Y0 m n e=some l):∃b,y=.ref b/\(H b=some (.lst (tI l))∨H b=some (.tup (tI l))):=by
 unfold Y0 at h
 obtain ⟨es,he,h⟩:=Option.bind_eq_some_iff.mp h
 by_cases hle:es.length<=m
 ·rw [if_pos hle] at h
  have e1:=(V9 h).2.1
  cases hy with
  | @lst b xs ds eb hs =>
   cases he
   rw [e1] at hs
   exact ⟨b,rfl,.inl (by rw [eb,G3 hs])⟩
  | @tup b xs ds eb hs =>
   cases he
   rw [e1] at hs
   exact ⟨b,rfl,.inr (by rw [eb,G3 hs])⟩
  | _=>cases he
 ·rw [if_neg hle] at h
  cases h
theorem zj5 {n:Nat}:∀{ds:List PyData} {ps:List (Nat×Nat)} {d:PyData} {x:Nat×Nat},K9 n ds=some ps->prD n d=some x->K9 n (ds++[d])=some (ps++[x])
 | [],ps,d,x,h,hx=>by
  cases h
  show ((prD n d).bind λx=>(some []).map λl=>x::l)=_
  rw [hx]
  rfl
 | e::ds,ps,d,x,h,hx=>by
  obtain ⟨y,hy,h⟩:=Option.bind_eq_some_iff.mp h
  obtain ⟨l,hl,rfl⟩:=bG.mp h
  show ((prD n e).bind λx=>(K9 n (ds++[d])).map λl=>x::l)=_
  rw [hy,zj5 hl hx]
  rfl
theorem xi3 {u v:Nat}:(if (v:Int)<(u:Int) then (v:Int) else (u:Int))=((min u v:Nat):Int):=by split <;> lia
theorem xi2 {u v:Nat}:(if (v:Int) > (u:Int) then (v:Int) else (u:Int))=((max u v:Nat):Int):=by split <;> lia
def yw6 (W:Kd)(K:PySem.W.Frag)(x:V)(n:Nat):Hp->VK->Prop:=λH Q=>∃d,Dt H x d/\(∀ds,M3 d=some ds->ds.length<=1000)/\1<=n/\n<=60/\(∀e,E6 W n d e->∀(r:Addr) (v:V) (H':Hp),z9 H H'->H' r=some (.lst [v])->Dt H' v e->Q (.ref r) H')/\(S1 W n d->∀(r:Addr) (H':Hp),z9 H H'->H' r=some (.lst [])->Q (.ref r) H')
def yp8 (K:W.Frag):Sp:=λvs H Q _=>∃(x:V) (n:Nat),vs=[x,.int n]/\yw6 .nt K x n H Q
theorem O3:v9 ["_law_thing_here","_law_many","_law_pairs_here","_law_pair"] ["_law_thing_here","_law_many"] (y0 J3):=scq
theorem zs4 (D:Def K mg "_law_net" J3 ["_law_thing_here","_law_many"] f fd) (B:Blt mg) (KP:p5 P w K mg base 2 "_law_places" ["_law_thing_here","_law_most","_law_many"] (C9 K)) (kS:∀d,W.kitAny K (.type (tyD d)) [.type "list",.type "tuple"]=some (M3 d).isSome):r8 P w K mg base CX0 3 f fd ["_law_thing_here","_law_many"] (yp8 K):=by
 refine D.F.ok O3 (λvs H Q E h=>?_) (λcdv A outer s H vs Q E hr h=>?_)
 ·obtain ⟨x,n,rfl,_⟩:=h
  rfl
 obtain ⟨x,n,rfl,d,hd,hlen,h1,hn,q,qx⟩:=h
 have hz:=p7
 apply d9
 ·apply y4
  ·exact DS.mk (t8 (PW.pt (L0 (d8 (f8 (y6 S3 rfl B.isinstance u5 (z0 (pv 0) (z0 (S9 (z0 (e9 (v:=.ty "list") rfl B.list G0 rfl) (z0 (e9 (v:=.ty "tuple") rfl B.tuple l6 rfl) z4))) z4))))) (R5 (w4 zj2 (y6 u7 rfl B.len i5 (z0 (pv 0) z4)) z8 (w8 _))))) (z7 (y8 (p3 z4))) y9)
  apply y4
  ·exact DS.mk (n3 (i:=2) O3.nd rfl (Or.inl rfl) (p3 z4))
  apply y4
  ·exact DS.mk (R3 PassesOwn.never rfl (zn9 (pv 0)) (k8 (i:=3) O3.nd rfl (Or.inl rfl))
    (v8 (t8 (PW.pt (L0 (d8 (f8 (o9 KP hr rfl (z0 (pv 3) (z0 z8 (z0 (pv 1) z4)))))) (L0 (w4 yn1 (y6 u7 rfl B.len i5 (z0 (pv 3) z4)) z8 (w8 _)) (R5 (w4 n6 (V7 zl7 (pv 3) z8 (λ_ _=>rfl)) (V7 zl7 (pv 3) z8 (λ_ _=>rfl)) (w8 _)))))) (z7 (y8 (p3 z4))) y9)
    (z7 (c9 (zd9 PySem.F.plainAttrs_list PySem.F.slot_list_append PySem.F.type_list_append Z0 (pv 2) (z0 (S9 (z0 (y6 (ye5 rfl) rfl B.min yy0 (z0 (pv 3) z4)) (z0 (y6 (ye4 rfl) rfl B.max yx9 (z0 (pv 3) z4)) z4))) z4))))))
  apply y4
  ·exact DS.mk (t8 (w4 B8 (y6 M5 rfl B.len i5 (z0 (p8 (zx0 rfl hr.units) rfl B.set zk6 (z0 (pv 2) z4)) z4)) (y6 u7 rfl B.len i5 (z0 (pv 2) z4)) (w8 _)) (z7 (y8 (p3 z4))) y9)
  exact DSs.mk (z7 (y8 (p3 (z0 (p8 m9 rfl B.tuple l6 (z0 (y6 G1 rfl B.sorted N0 (z0 (pv 2) z4)) z4)) z4))))
 refine t0 λN hN=>?_
 refine ⟨_,rfl,ze8 (show 2<=1000 by decide),λp hp=>?_⟩
 have s1:=z6 hp (.tup [V.ty "list",V.ty "tuple"])
 have ep:(upd H p (.tup [V.ty "list",V.ty "tuple"])) p=some (.tup (["list","tuple"].map V.ty)):=z5
 generalize upd H p (.tup [V.ty "list",V.ty "tuple"])=H1 at s1 ep ⊢
 have hd1:=hd.same s1
 refine ⟨_,d,p,["list","tuple"],_,rfl,hd1,SqT.of ep,kS d,_,rfl,?_⟩
 have none':S1 .nt n d->∀{H2:Hp},z9 H H2->0<=sizeLine/\∀r,H2 r=none->Q (.ref r) (upd H2 r (.lst [])):=λhno H2 s2=>⟨ax _,λr hr'=>qx hno r _ (s2.trans (z6 hr' _)) z5⟩
 cases hsq:M3 d with
 | none=>exact u4 (none' (λds ps h=>by rw [hsq] at h;cases h) s1)
 | some ds =>
  obtain ⟨a,xs,ex,hax,hs⟩:∃(a:Addr) (xs:List V),x=.ref a/\(H1 a=some (.lst xs)∨H1 a=some (.tup xs))/\Dts H1 xs ds:=by
   cases hd1 with
   | @lst a xs ds' e hs=>cases hsq;exact ⟨a,xs,rfl,.inl e,hs⟩
   | @tup a xs ds' e hs=>cases hsq;exact ⟨a,xs,rfl,.inr e,hs⟩
   | _=>cases hsq
  subst ex
  refine w6 ⟨_,rfl,a,xs,rfl,hax.imp (λe=>SqL.of e) λe=>SqT.of e,_,_,rfl,rfl,_,rfl,?_⟩
  rw [hs.length]
  rcases bP 200 ds.length with hl|hl
  ·rw [decide_eq_true (show ((ds.length:Nat):Int) > 200 by lia)]
   exact u4 (none' (λds' ps h h2=>by rw [hsq] at h;cases h;lia) s1)
  rw [decide_eq_false (show ¬((ds.length:Nat):Int) > 200 by lia)]
  refine w6 (hN _ _ ?_)
  clear hN N
  refine t0 λN hN=>?_
  refine ⟨ax _,λpl hpl=>hN _ _ ?_⟩
  clear hN N
  have s2:=z6 hpl (.lst [])
  have e2:(upd H1 pl (.lst [])) pl=some (.lst (([]:List Addr).map V.ref)):=z5
  generalize upd H1 pl (.lst [])=H2 at s2 e2 ⊢
  have noel:∀{e:PyData},e∈ds->prD n e=none->S1 .nt n d:=λ{e} he hno ds' ps' h1 h2 h3=>by
   rw [hsq] at h1
   cases h1
   obtain ⟨i,hi,rfl⟩:=bK.mp he
   obtain ⟨x,_,hx⟩:=(Y6 h3).2 i _ (ah hi)
   rw [hno] at hx
   cases hx
  refine t0 λN hN=>?_
  have hxl:=hs.length
  refine ys6 (a:=a) (xs:=xs) (λQ' h=>⟨_,rfl,h⟩) s2 hax λJ hJ=>ys1 hJ (λi σ H5=>∃(as:List Addr) (ps:List (Nat×Nat)) (v:Option V),σ=[some (.ref a),some (.int n),some (.ref pl),v]/\z9 H1 H5/\H5 pl=some (.lst (as.map V.ref))/\X2 H5 as ps/\K9 n (ds.take i)=some ps) ⟨[],[],none,rfl,s2,e2,.nil,rfl⟩ (λi σ H5 ⟨_,_,_,_,s5,_⟩=>s5) ?_ ?_
  ·rintro i y σ H5 hi ⟨as,ps,v,rfl,s5,hp5,hP5,hps⟩
   obtain ⟨di,hdi,hdy⟩:=S5 hs i y hi
   have hdm:=ay hdi
   have hdy5:=hdy.same s5
   have s05:=s1.trans s5
   dsimp only [Y1]
   refine t0 λN hN=>?_
   refine ⟨_,rfl,_,rfl,y,di,2,n,rfl,hdy5,by decide,λH6 s6=>⟨_,rfl,?_⟩⟩
   cases hrow:Y0 2 n di with
   | none=>exact u4 (none' (noel hdm (by unfold prD;rw [hrow];rfl)) (s05.trans s6))
   | some l =>
    obtain ⟨b,rfl,hb⟩:=zb0 (hdy5.same s6) hrow
    have hl2:=V1 hrow
    have ep':prD n di=yn3 l:=by unfold prD;rw [hrow];rfl
    refine w6 ⟨_,rfl,b,_,rfl,hb.imp (λe=>SqL.of e) λe=>SqT.of e,rfl,_,rfl,?_⟩
    rw [t7,i8]
    match l,hl2 with
    | [],_=>exact u4 (none' (noel hdm (by rw [ep'];rfl)) (s05.trans s6))
    | [_],_=>exact u4 (none' (noel hdm (by rw [ep'];rfl)) (s05.trans s6))
    | [u,v'],_ =>
     have s16:=s5.trans s6
     have hb':SqL K H6 b (tI [u,v'])∨SqT K H6 b (tI [u,v']):=hb.imp (λe=>SqL.of e) λe=>SqT.of e
     refine w6 ⟨_,rfl,b,_,_,_,rfl,rfl,hb',Z3 (j:=0) rfl,_,rfl,b,_,_,_,rfl,rfl,hb',Z3 (j:=1) rfl,rfl,_,rfl,?_⟩
     rw [t7]
     by_cases e:u=v'
     ·rw [decide_eq_true (show ((u:Nat):Int)=(v':Int) by lia)]
      exact u4 (none' (noel hdm (by rw [ep'];exact if_pos e)) (s05.trans s6))
     rw [decide_eq_false (show ¬((u:Nat):Int)=(v':Int) by lia)]
     refine w6 (hN _ _ ?_)
     clear hN N
     have hpr:prD n di=some (min u v',max u v'):=by rw [ep'];exact if_neg e
     have ns:tI [u,v']=[(u:Int),(v':Int)].map V.int:=rfl
     have hp6:=s6 _ _ hp5
     refine ⟨_,rfl,.inl ⟨rfl,_,SqL.of hp6⟩,?_⟩
     refine ⟨_,rfl,b,(u:Int),(v':Int),rfl,hb',_,rfl,b,(u:Int),(v':Int),rfl,hb',?_⟩
     rw [xi3,xi2]
     refine ⟨(by show 2<=sizeLine;decide),λc hc=>?_⟩
     have s7:=z6 hc (.tup [V.int ((min u v':Nat):Int),V.int ((max u v':Nat):Int)])
     have e7:(upd H6 c (.tup [V.int ((min u v':Nat):Int),V.int ((max u v':Nat):Int)])) c=some (.tup (pV (min u v',max u v'))):=z5
     have hpl1:H1 pl=none:=hpl
     refine ⟨pl,_,_,rfl,rfl,s7 _ _ hp6,?_,?_⟩
     ·rw [aa,hP5.len]
      have:=(Y6 hps).1
      rw [aP] at this
      lia
     have hP7:=(hP5.same s6).same s7
     generalize upd H6 c (.tup [V.int ((min u v':Nat):Int),V.int ((max u v':Nat):Int)])=H7 at s7 e7 hP7 ⊢
     have nm:∀{z:Addr} {vs:List V},H7 z=some (.tup vs)->z≠pl:=λh z'=>by rw [z',s7 _ _ hp6] at h;cases h
     have keep:∀{as:List Addr} {ps:List (Nat×Nat)} {o:HO},X2 H7 as ps->X2 (upd H7 pl o) as ps:=λ{as ps o} h=>by
      induction h with
      | nil=>exact .nil
      | cons a _ ih=>exact .cons (by rw [u9 (nm a)];exact a) ih
     refine ⟨as++[c],ps++[(min u v',max u v')],_,rfl,n8 (s16.trans s7) hpl1 _,by rw [z5,bo];rfl,keep (Paired.snoc hP7 e7),?_⟩
     rw [bT,hdi]
     exact zj5 hps hpr
  ·rintro σ H5 ⟨as,ps,v,rfl,s5,hp5,hP5,hps⟩
   refine hN _ _ ?_
   clear hN N
   rw [hxl,cJ] at hps
   have hpn:=(Y6 hps).1
   have hal:=hP5.len
   refine t0 λN hN=>?_
   refine ⟨_,rfl,pl,as,ps.map pK,rfl,SqL.of hp5,hP5.keys,by rw [aa];lia,λsl k hsl hk hnd=>⟨sl,k,rfl,z5,by rw [aa] at hk;lia,_,rfl,pl,_,rfl,.inl ((z6 hsl _).seq (SqL.of hp5)),_,_,rfl,rfl,_,rfl,?_⟩⟩
   rw [aa] at hk hnd ⊢
   rw [zs1] at hnd
   have s6:=z6 hsl (zw8 sl k)
   generalize upd H5 sl (zw8 sl k)=H6 at s6 ⊢
   have s16:=s5.trans s6
   by_cases hN':ps.Nodup
   ·rw [decide_eq_false (show ¬((k:Nat):Int)<((as.length:Nat):Int) by have:=hnd.mpr hN';lia)]
    refine w6 (hN _ _ ?_)
    clear hN N
    refine ⟨_,rfl,pl,as,ps.map pI,rfl,SqL.of (s6 _ _ hp5),(hP5.same s6).rows,λx hx=>?_,by rw [aa];lia,λp2 bs rs hp2 hpm hso hbs=>?_⟩
    ·obtain ⟨y,_,rfl⟩:=aI.mp hx
     intro z
     cases z
    obtain ⟨qs,rfl,hq⟩:=zt2 hpm
    have s7:=z6 hp2 (.lst (bs.map V.ref))
    have e7:(upd H6 p2 (.lst (bs.map V.ref))) p2=some (.lst (bs.map V.ref)):=z5
    have b7:=(X2.of hbs).same s7
    generalize upd H6 p2 (.lst (bs.map V.ref))=H7 at s7 e7 b7 ⊢
    refine ⟨p2,_,rfl,.inl ⟨SqL.of e7,λtp htp=>?_⟩⟩
    have s8:=z6 htp (.tup (bs.map V.ref))
    have e8:(upd H7 tp (.tup (bs.map V.ref))) tp=some (.tup (bs.map V.ref)):=z5
    have b8:=b7.same s8
    generalize upd H7 tp (.tup (bs.map V.ref))=H8 at s8 e8 b8 ⊢
    refine ⟨(by show 1<=sizeLine;decide),λr hr'=>?_⟩
    have s9:=z6 hr' (.lst [V.ref tp])
    exact q _ ⟨ds,ps,qs,hsq,hl,hps,hN',hq,aH.mp hso,rfl⟩ r _ _ (s1.trans (s16.trans (s7.trans (s8.trans s9)))) z5 (.tup (s9 _ _ e8) (zx2 (b8.same s9)))
   ·rw [decide_eq_true (show ((k:Nat):Int)<((as.length:Nat):Int) by have:¬k=ps.length:=λz=>hN' (hnd.mp z);lia)]
    refine u4 (none' (λds' ps' h1 h2 h3=>?_) (s1.trans s16))
    rw [hsq] at h1
    cases h1
    rw [hps] at h3
    cases h3
    exact hN'
def Kd.word:Kd->Str
 | .pl=>"places"
 | .ls=>"lists"
 | .st=>"sets"
 | .nt=>"nets"
 | .tn=>"turns"
 | .no=>"none"
theorem zj3 {n:Nat}:∀{t:List Nat},(∀x∈t,x<n)->R1 n (t.map λ(x:Nat)=>PyData.int x)=some t
 | [],_=>rfl
 | x::t,h=>by
  have hx:=h x ap
  show ((plD n (.int x)).bind λy=>(R1 n (t.map λ(x:Nat)=>PyData.int x)).map λl=>y::l)=_
  rw [zj3 λy hy=>h y (aj _ hy),R0,if_pos ⟨by lia,by lia⟩,aJ]
  rfl
theorem C5 {n:Nat}{t:List Nat}(hT:TM.IsT n t)(hn:n<=60):Y0 60 n (U6 t)=some t:=by
 show (if (t.map λ(x:Nat)=>PyData.int x).length<=60 then R1 n (t.map λ(x:Nat)=>PyData.int x) else none)=_
 rw [if_pos (by rw [aa,hT.length];exact hn)]
 exact zj3 λx hx=>aR.mp ((show t.Perm (List.range n) from hT).mem_iff.mp hx)
theorem yo9 {n:Nat}{ds:List PyData}{l:List Nat}(h:Y0 60 n (.tuple ds)=some l):PyData.tuple ds=U6 l/\∀x∈l,x<n:=by
 have h:(if ds.length<=60 then R1 n ds else none)=some l:=h
 by_cases hl:ds.length<=60
 ·rw [if_pos hl] at h
  exact ⟨congrArg PyData.tuple (V9 h).2.1,(V9 h).2.2⟩
 ·rw [if_neg hl] at h
  cases h
def yp7 (K:PySem.W.Frag):Sp:=λvs H Q _=>∃(W:Kd) (x:V) (n:Nat),vs=[.str W.word,x,.int n]/\yw6 W K x n H Q
theorem zu6:v9 ["_law_word","_law_thing_here","_law_many"] ["_law_word","_law_thing_here","_law_many"] (y0 J2):=scq
theorem zs3 (D:Def K mg "_law_due" J2 ["_law_word","_law_thing_here","_law_many"] f fd) (B:Blt mg) (KW:p5 P w K mg base 1 "_law_whole" ["_law_found"] Z9) (KN:p5 P w K mg base 3 "_law_net" ["_law_thing_here","_law_many"] (yp8 K)) (KP:p5 P w K mg base 2 "_law_places" ["_law_thing_here","_law_most","_law_many"] (C9 K)):r8 P w K mg base CX0 4 f fd ["_law_word","_law_thing_here","_law_many"] (yp7 K):=by
 refine D.F.ok zu6 (λvs H Q E h=>?_) (λcdv A outer s H vs Q E hr h=>?_)
 ·obtain ⟨W,x,n,rfl,_⟩:=h
  rfl
 obtain ⟨W,x,n,rfl,d,hd,hlen,h1,hn,q,qx⟩:=h
 have hz:=p7
 apply d9
 ·apply y4
  ·exact DS.mk (t8 (PW.pt (L0 (w4 n6 (pv 0) o8 (w8 _)) (R5 (PW.pt (R4 (w4 n6 (pv 0) o8 (w8 _)) (W1 (d8 (PW.pt (R4 (f8 (o9 KW hr rfl (z0 (pv 1) z4))) (W1 (zu0 zt1 B8 z8 (pv 1) (pv 2)))))))))))) (z7 (y8 (p3 z4))) y9)
  apply y4
  ·exact DS.mk (t8 (w4 n6 (pv 0) o8 (w8 _)) (z7 (y8 (p3 (z0 (pv 1) z4)))) y9)
  apply y4
  ·exact DS.mk (t8 (w4 n6 (pv 0) o8 (w8 _)) (z7 (y8 (o9 KN hr rfl (z0 (pv 1) (z0 (pv 2) z4))))) y9)
  apply y4
  ·exact DS.mk (t8 (d8 (f8 (o9 KP hr rfl (z0 (pv 1) (z0 z8 (z0 (pv 2) z4)))))) (z7 (y8 (p3 z4))) y9)
  apply y4
  ·exact DS.mk (t8 (w4 n6 (pv 0) o8 (w8 _)) (z7 (y8 (p3 (z0 (p8 m9 rfl B.tuple l6 (z0 (pv 1) z4)) z4)))) y9)
  apply y4
  ·exact DS.mk (t8 (w4 B8 (y6 M4 rfl B.len i5 (z0 (p8 (zb6 rfl) rfl B.set zk6 (z0 (pv 1) z4)) z4)) (y6 u7 rfl B.len i5 (z0 (pv 1) z4)) (w8 _)) (z7 (y8 (p3 z4))) y9)
  apply y4
  ·exact DS.mk (t8 (w4 n6 (pv 0) o8 (w8 _)) (z7 (y8 (p3 (z0 (p8 m9 rfl B.tuple l6 (z0 (y6 (zq0 zk9 S4) rfl B.sorted N0 (z0 (pv 1) z4)) z4)) z4)))) y9)
  apply y4
  ·exact DS.mk (t8 (PW.pt (R4 (f8 (y6 d7 rfl B.isinstance u5 (z0 (pv 1) (z0 (e9 (v:=.ty "tuple") rfl B.tuple l6 rfl) z4)))) (W1 (w4 n6 (y6 u7 rfl B.len i5 (z0 (pv 1) z4)) (pv 2) (w8 _))))) (z7 (y8 (p3 (z0 (pv 1) z4)))) y9)
  exact DSs.mk (z7 (y8 (p3 z4)))
 have none':S1 W n d->∀{H2:Hp},z9 H H2->0<=sizeLine/\∀r,H2 r=none->Q (.ref r) (upd H2 r (.lst [])):=λhno H2 s2=>⟨ax _,λr hr'=>qx hno r _ (s2.trans (z6 hr' _)) z5⟩
 have some':∀{e:PyData},E6 W n d e->∀{v:V} {H2:Hp},z9 H H2->Dt H2 v e->1<=sizeLine/\∀r,H2 r=none->Q (.ref r) (upd H2 r (.lst [v])):=λhf v H2 s2 hv=>⟨by lia,λr hr'=>q _ hf r v _ (s2.trans (z6 hr' _)) z5 (hv.same (z6 hr' _))⟩
 cases W with
 | no=>exact ⟨_,rfl,rfl,_,rfl,u4 (none' trivial (z9.refl H))⟩
 | pl =>
  refine t0 λN hN=>?_
  refine ⟨_,rfl,rfl,_,rfl,w6 ⟨_,rfl,rfl,_,rfl,u4 ⟨_,rfl,x,d,rfl,hd,_,rfl,?_⟩⟩⟩
  cases hp:plD n d with
  | none =>
   cases hd with
   | int j =>
    have hp':=hp
    rw [R0] at hp'
    refine u4 ⟨_,rfl,_,_,rfl,rfl,_,rfl,?_⟩
    by_cases h0:0<=j
    ·rw [decide_eq_true h0]
     refine u4 ⟨_,rfl,_,_,rfl,rfl,_,rfl,?_⟩
     show if (!decide (j<(n:Int)))=true then _ else _
     rw [decide_eq_false λh=>by rw [if_pos ⟨h0,h⟩] at hp';cases hp']
     exact u4 (none' hp (z9.refl H))
    ·rw [decide_eq_false h0]
     exact w6 ⟨_,rfl,u4 (none' hp (z9.refl H))⟩
   | _=>exact w6 (u4 (none' hp (z9.refl H)))
  | some y =>
   obtain ⟨rfl,hy⟩:=zo1 hp
   cases hd
   refine u4 ⟨_,rfl,_,_,rfl,rfl,_,rfl,?_⟩
   rw [decide_eq_true (show (0:Int)<=(y:Int) by lia)]
   refine u4 ⟨_,rfl,_,_,rfl,rfl,_,rfl,?_⟩
   show if (!decide ((y:Int)<(n:Int)))=true then _ else _
   rw [decide_eq_true (show (y:Int)<(n:Int) by lia)]
   refine w6 (hN _ _ ?_)
   clear hN N
   exact ⟨_,rfl,rfl,_,rfl,u4 ⟨_,rfl,some' ⟨y,hp,rfl⟩ (z9.refl H) (.int _)⟩⟩
 | nt =>
  refine t0 λN hN=>?_
  refine ⟨_,rfl,rfl,_,rfl,w6 ⟨_,rfl,rfl,_,rfl,w6 (hN _ _ ?_)⟩⟩
  clear hN N
  refine t0 λN hN=>⟨_,rfl,rfl,_,rfl,w6 (hN _ _ ?_)⟩
  clear hN N
  exact ⟨_,rfl,rfl,_,rfl,u4 ⟨_,rfl,_,rfl,x,n,rfl,d,hd,hlen,h1,hn,q,qx⟩⟩
 | ls =>
  refine t0 λN hN=>⟨_,rfl,rfl,_,rfl,w6 ⟨_,rfl,rfl,_,rfl,w6 (hN _ _ ?_)⟩⟩
  clear hN N
  refine t0 λN hN=>⟨_,rfl,rfl,_,rfl,w6 (hN _ _ ?_)⟩
  clear hN N
  refine t0 λN hN=>⟨_,rfl,rfl,_,rfl,w6 (hN _ _ ?_)⟩
  clear hN N
  refine t0 λN hN=>⟨_,rfl,_,rfl,x,d,60,n,rfl,hd,by decide,λH1 s1=>⟨_,rfl,?_⟩⟩
  cases hrow:Y0 60 n d with
  | none=>exact u4 (none' hrow s1)
  | some l =>
   obtain ⟨b,rfl,hb⟩:=zb0 (hd.same s1) hrow
   have hll:=V1 hrow
   have hb':SqL K H1 b (tI l)∨SqT K H1 b (tI l):=hb.imp (λe=>SqL.of e) λe=>SqT.of e
   refine w6 (hN _ _ ?_)
   clear hN N
   refine ⟨_,rfl,rfl,_,rfl,u4 ?_⟩
   refine ⟨_,rfl,b,tI l,rfl,?_⟩
   rcases hb with e|e
   ·exact .inl ⟨SqL.of e,λtp htp=>some' ⟨l,hrow,rfl⟩ (s1.trans (z6 htp _)) (D2 z5)⟩
   ·exact .inr ⟨SqT.of e,some' ⟨l,hrow,rfl⟩ s1 (D2 e)⟩
 | st =>
  refine t0 λN hN=>⟨_,rfl,rfl,_,rfl,w6 ⟨_,rfl,rfl,_,rfl,w6 (hN _ _ ?_)⟩⟩
  clear hN N
  refine t0 λN hN=>⟨_,rfl,rfl,_,rfl,w6 (hN _ _ ?_)⟩
  clear hN N
  refine t0 λN hN=>⟨_,rfl,rfl,_,rfl,w6 (hN _ _ ?_)⟩
  clear hN N
  refine t0 λN hN=>⟨_,rfl,_,rfl,x,d,60,n,rfl,hd,by decide,λH1 s1=>⟨_,rfl,?_⟩⟩
  cases hrow:Y0 60 n d with
  | none=>exact u4 (none' (λl h=>by rw [hrow] at h;cases h) s1)
  | some l =>
   obtain ⟨b,rfl,hb⟩:=zb0 (hd.same s1) hrow
   have hll:=V1 hrow
   have hb':SqL K H1 b (tI l)∨SqT K H1 b (tI l):=hb.imp (λe=>SqL.of e) λe=>SqT.of e
   refine w6 (hN _ _ ?_)
   clear hN N
   refine t0 λN hN=>⟨_,rfl,rfl,_,rfl,w6 (hN _ _ ?_)⟩
   clear hN N
   have hdl:=zl0 (l.map λ(x:Nat)=>(x:Int))
   have hnd0:(Y9 (l.map λ(x:Nat)=>(x:Int))).length=(l.map λ(x:Nat)=>(x:Int)).length↔(l.map λ(x:Nat)=>(x:Int)).Nodup:=zb9
   rw [aa] at hdl hnd0
   have hnd:(l.map λ(x:Nat)=>(x:Int)).Nodup↔l.Nodup:=⟨λh=>(aH.mp h).imp λhne z=>hne (by rw [z]),λh=>aH.mpr (List.Pairwise.imp (λhne z=>hne (by lia)) h)⟩
   refine t0 λN hN=>⟨_,rfl,b,l.map λ(x:Nat)=>(x:Int),rfl,by rw [←U3];exact hb',by rw [aa];lia,λsl hsl=>⟨sl,_,_,rfl,z5,by lia,_,rfl,b,_,rfl,yu7 (z6 hsl _) hb',_,_,rfl,rfl,_,rfl,?_⟩⟩
   rw [i8]
   have s2:=z6 hsl (.set (λk=>(Y9 (l.map λ(x:Nat)=>(x:Int))).any (· == k)) (Y9 (l.map λ(x:Nat)=>(x:Int))).length)
   generalize upd H1 sl (.set (λk=>(Y9 (l.map λ(x:Nat)=>(x:Int))).any (· == k)) (Y9 (l.map λ(x:Nat)=>(x:Int))).length)=H2 at s2 ⊢
   by_cases hN':l.Nodup
   ·rw [decide_eq_false (show ¬(((Y9 (l.map λ(x:Nat)=>(x:Int))).length:Nat):Int)<((l.length:Nat):Int) by have:=hnd0.mpr (hnd.mpr hN');lia)]
    refine w6 (hN _ _ ?_)
    clear hN N
    have hb2:=yu7 s2 hb'
    refine ⟨_,rfl,rfl,_,rfl,u4 ⟨_,rfl,?_⟩⟩
    have fin:∀(p:Addr) (ms:List Int),H2 p=none->ms.Perm (l.map λ(x:Nat)=>(x:Int))->ms.Pairwise (·<=·)->∃m:List Nat,ms.map V.int=tI m/\E6 .st n d (U6 m):=λp ms _ hpm hso=>by
     obtain ⟨m,em,h1,h2⟩:=yc4 hpm hso
     exact ⟨m,em,l,m,hrow,hN',h1,h2,rfl⟩
    rcases hb2 with e|e
    ·refine .inl ⟨b,l.map λ(x:Nat)=>(x:Int),rfl,by rw [←U3];exact e,by rw [aa];lia,λp ms hp hpm hso=>?_⟩
     obtain ⟨m,em,hf⟩:=fin p ms hp hpm hso
     rw [em]
     have s3:=z6 hp (.lst (tI m))
     have e3:(upd H2 p (.lst (tI m))) p=some (.lst (tI m)):=z5
     generalize upd H2 p (.lst (tI m))=H3 at s3 e3 ⊢
     exact ⟨p,_,rfl,.inl ⟨SqL.of e3,λtp htp=>some' hf (s1.trans (s2.trans (s3.trans (z6 htp _)))) (D2 z5)⟩⟩
    ·refine .inr ⟨b,l.map λ(x:Nat)=>(x:Int),rfl,by rw [←U3];exact e,by rw [aa];lia,λp ms hp hpm hso=>?_⟩
     obtain ⟨m,em,hf⟩:=fin p ms hp hpm hso
     rw [em]
     have s3:=z6 hp (.lst (tI m))
     have e3:(upd H2 p (.lst (tI m))) p=some (.lst (tI m)):=z5
     generalize upd H2 p (.lst (tI m))=H3 at s3 e3 ⊢
     exact ⟨p,_,rfl,.inl ⟨SqL.of e3,λtp htp=>some' hf (s1.trans (s2.trans (s3.trans (z6 htp _)))) (D2 z5)⟩⟩
   ·rw [decide_eq_true (show (((Y9 (l.map λ(x:Nat)=>(x:Int))).length:Nat):Int)<((l.length:Nat):Int) by have:¬(Y9 (l.map λ(x:Nat)=>(x:Int))).length=l.length:=λz=>hN' (hnd.mp (hnd0.mp z));lia)]
    exact u4 (none' (λl' h=>by rw [hrow] at h;cases h;exact hN') (s1.trans s2))
 | tn =>
  refine t0 λN hN=>⟨_,rfl,rfl,_,rfl,w6 ⟨_,rfl,rfl,_,rfl,w6 (hN _ _ ?_)⟩⟩
  clear hN N
  refine t0 λN hN=>⟨_,rfl,rfl,_,rfl,w6 (hN _ _ ?_)⟩
  clear hN N
  refine t0 λN hN=>⟨_,rfl,rfl,_,rfl,w6 (hN _ _ ?_)⟩
  clear hN N
  refine t0 λN hN=>⟨_,rfl,_,rfl,x,d,60,n,rfl,hd,by decide,λH1 s1=>⟨_,rfl,?_⟩⟩
  cases hrow:Y0 60 n d with
  | none=>exact u4 (none' (λt e tT=>by rw [e,C5 tT hn] at hrow;cases hrow) s1)
  | some l =>
   obtain ⟨b,rfl,hb⟩:=zb0 (hd.same s1) hrow
   have hll:=V1 hrow
   have hb':SqL K H1 b (tI l)∨SqT K H1 b (tI l):=hb.imp (λe=>SqL.of e) λe=>SqT.of e
   refine w6 (hN _ _ ?_)
   clear hN N
   refine t0 λN hN=>⟨_,rfl,rfl,_,rfl,w6 (hN _ _ ?_)⟩
   clear hN N
   have hdl:=zl0 (l.map λ(x:Nat)=>(x:Int))
   have hnd0:(Y9 (l.map λ(x:Nat)=>(x:Int))).length=(l.map λ(x:Nat)=>(x:Int)).length↔(l.map λ(x:Nat)=>(x:Int)).Nodup:=zb9
   rw [aa] at hdl hnd0
   have hnd:(l.map λ(x:Nat)=>(x:Int)).Nodup↔l.Nodup:=⟨λh=>(aH.mp h).imp λhne z=>hne (by rw [z]),λh=>aH.mpr (List.Pairwise.imp (λhne z=>hne (by lia)) h)⟩
   refine t0 λN hN=>⟨_,rfl,b,l.map λ(x:Nat)=>(x:Int),rfl,by rw [←U3];exact hb',by rw [aa];lia,λsl hsl=>⟨sl,_,_,rfl,z5,by lia,_,rfl,b,_,rfl,yu7 (z6 hsl _) hb',_,_,rfl,rfl,_,rfl,?_⟩⟩
   rw [i8]
   have s2:=z6 hsl (.set (λk=>(Y9 (l.map λ(x:Nat)=>(x:Int))).any (· == k)) (Y9 (l.map λ(x:Nat)=>(x:Int))).length)
   generalize upd H1 sl (.set (λk=>(Y9 (l.map λ(x:Nat)=>(x:Int))).any (· == k)) (Y9 (l.map λ(x:Nat)=>(x:Int))).length)=H2 at s2 ⊢
   by_cases hN':l.Nodup
   ·rw [decide_eq_false (show ¬(((Y9 (l.map λ(x:Nat)=>(x:Int))).length:Nat):Int)<((l.length:Nat):Int) by have:=hnd0.mpr (hnd.mpr hN');lia)]
    refine w6 (hN _ _ ?_)
    clear hN N
    refine t0 λN hN=>⟨_,rfl,rfl,_,rfl,w6 (hN _ _ ?_)⟩
    clear hN N
    have hd2:=hd.same (s1.trans s2)
    have s02:=s1.trans s2
    refine t0 λN hN=>?_
    cases hd2 with
    | @lst a' xs ds e hs =>
     refine ⟨_,rfl,_,_,_,_,rfl,P0.lst e,W9 (yl0 (.list ds)),_,rfl,w6 (hN _ _ ?_)⟩
     exact none' (λt e'=>by cases e') s02
    | @tup a' xs ds e hs =>
     obtain ⟨el,hlt⟩:=yo9 hrow
     refine ⟨_,rfl,_,_,_,_,rfl,P0.tup e,W9 P4,_,rfl,u4 ⟨_,rfl,b,xs,rfl,.inr (SqT.of e),_,rfl,rfl,_,rfl,?_⟩⟩
     have hxl:xs.length=l.length:=by
      rw [hs.length]
      have:=congrArg (λd=>match d with | .tuple ds=>ds.length|_=>0) el
      simpa [U6] using this
     rw [t7,hxl]
     by_cases hln:l.length=n
     ·rw [decide_eq_true (show ((l.length:Nat):Int)=(n:Int) by lia)]
      exact u4 ⟨_,rfl,some' ⟨l,el,TM.isT_of hln hN' hlt,rfl⟩ s02 (.tup e hs)⟩
     ·rw [decide_eq_false (show ¬((l.length:Nat):Int)=(n:Int) by lia)]
      refine w6 (hN _ _ ?_)
      exact none' (λt e' tT=>by rw [e',C5 tT hn] at hrow;cases hrow;exact hln tT.length) s02
    | dct _=>cases hrow
   ·rw [decide_eq_true (show (((Y9 (l.map λ(x:Nat)=>(x:Int))).length:Nat):Int)<((l.length:Nat):Int) by have:¬(Y9 (l.map λ(x:Nat)=>(x:Int))).length=l.length:=λz=>hN' (hnd.mp (hnd0.mp z));lia)]
    exact u4 (none' (λt e tT=>by rw [e,C5 tT hn] at hrow;cases hrow;exact hN' tT.nodup) (s1.trans s2))
def Y7 (P:Program)(w:World)(K:W.Frag)(mg:Str->Option Value)(base:Heap)(x:Str)(C:Addr):Prop :=
 ∃fi fdi,Mk K C fi/\r8 P w K mg base CX0 1 fi fdi ["self","many"] (O8 K)/\V5 K fdi ["self","many"] []/\mg x=some (.ref C)/\zf6 K C
theorem D9 {X:Cx}{x:Str}{C:Addr}{j:Nat}{p pos:Pos}{e:Expr}{t:TA}(M:Y7 X.prog X.w X.K X.mg X.base x C)(hr:Z2 j X.A)(hg:Gl X x)(ha:PA X [e] t)(hj:2<=j:=by decide)(hdb:(x==("__debug__":Str))=false:=by decide)
  (he:starEach [e] X.env=[(false,eval e X.env)]:=by rfl) (hpl:(backTo pos (starEach [] X.env)).any (·.1)=false:=by rfl):PE X (.Call (.Name x p) [e] [] pos) (yw8 C (O8 X.K) [] E0 t):=by
 obtain ⟨fi,fdi,mk,F,b,hm,ac⟩:=M
 exact yt9 (pos:=pos) (p:=p) mk F (hr.mono hj) hg hm b .nil yw3 ha hdb he hpl
theorem T7 {K:W.Frag}{C:Addr}{n:Nat}{H1:Hp}{Q:VK}(hC:zf6 K C)(q:∀(x:Addr) (H2:Hp),H1 x=none->z9 H1 H2->zb2 H2 x C n->Q (.ref x) H2) :
  ∀x dx,H1 x=none->H1 dx=none->dx≠x->O8 K (.ref x::([.int n]++[])) (upd (upd H1 dx (.own x)) x (.ins C dx [])) (λv H2=>v=.non/\Q (.ref x) H2) E0 :=
 λx dx hx hdx _=>⟨x,dx,C,n,rfl,z5,hC,rfl,q x _ hx (n8 (n8 (z6 hdx _) hx _) hx _) ⟨dx,z5⟩⟩
structure yv8 (P:Program) (w:World) (K:W.Frag) (mg:Str->Option Value) (base:Heap) (cs:Kd->Addr):Prop where
 pl:Y7 P w K mg base "Places" (cs .pl)
 ls:Y7 P w K mg base "Lists" (cs .ls)
 st:Y7 P w K mg base "Sets" (cs .st)
 nt:Y7 P w K mg base "Nets" (cs .nt)
 tn:Y7 P w K mg base "Turns" (cs .tn)
 no:Y7 P w K mg base "Act" (cs .no)
theorem Y7.ac {P:Program}{w:World}{K:W.Frag}{mg:Str->Option Value}{base:Heap}{x:Str}{C:Addr}(h:Y7 P w K mg base x C):zf6 K C:=h.choose_spec.choose_spec.2.2.2.2
def zp0 (cs:Kd->Addr):Sp:=λvs H Q _=>∃(W:Kd) (n:Nat),vs=[.str W.word,.int n]/\∀(x:Addr) (H2:Hp),H x=none->z9 H H2->zb2 H2 x (cs W) n->Q (.ref x) H2
theorem zu5:v9 ["_law_word","_law_many"] ["_law_word","_law_many"] (y0 J1):=scq
theorem zs2 {cs:Kd->Addr}(D:Def K mg "_law_act" J1 ["_law_word","_law_many"] f fd) (B:Blt mg) (WS:yv8 P w K mg base cs):r8 P w K mg base CX0 3 f fd ["_law_word","_law_many"] (zp0 cs):=by
 refine D.F.ok zu5 (λvs H Q E h=>?_) (λcdv A outer s H vs Q E hr h=>?_)
 ·obtain ⟨W,n,rfl,_⟩:=h
  rfl
 obtain ⟨W,n,rfl,q⟩:=h
 refine ⟨_,v8 (t8 (w4 n6 (pv 0) o8 (w8 _)) (z7 (y8 (D9 WS.pl hr rfl (z0 (pv 1) z4)))) y9)
  (v8 (t8 (w4 n6 (pv 0) o8 (w8 _)) (z7 (y8 (D9 WS.ls hr rfl (z0 (pv 1) z4)))) y9)
  (v8 (t8 (w4 n6 (pv 0) o8 (w8 _)) (z7 (y8 (D9 WS.st hr rfl (z0 (pv 1) z4)))) y9)
  (v8 (t8 (w4 n6 (pv 0) o8 (w8 _)) (z7 (y8 (D9 WS.nt hr rfl (z0 (pv 1) z4)))) y9)
  (v8 (t8 (w4 n6 (pv 0) o8 (w8 _)) (z7 (y8 (D9 WS.tn hr rfl (z0 (pv 1) z4)))) y9)
  (z7 (y8 (D9 WS.no hr rfl (z0 (pv 1) z4)))))))),?_⟩
 cases W with
 | pl=>exact ⟨_,rfl,rfl,_,rfl,u4 ⟨_,rfl,T7 WS.pl.ac q⟩⟩
 | ls=>exact ⟨_,rfl,rfl,_,rfl,w6 ⟨_,rfl,rfl,_,rfl,u4 ⟨_,rfl,T7 WS.ls.ac q⟩⟩⟩
 | st=>exact ⟨_,rfl,rfl,_,rfl,w6 ⟨_,rfl,rfl,_,rfl,w6 ⟨_,rfl,rfl,_,rfl,u4 ⟨_,rfl,T7 WS.st.ac q⟩⟩⟩⟩
 | nt=>exact ⟨_,rfl,rfl,_,rfl,w6 ⟨_,rfl,rfl,_,rfl,w6 ⟨_,rfl,rfl,_,rfl,w6 ⟨_,rfl,rfl,_,rfl,u4 ⟨_,rfl,T7 WS.nt.ac q⟩⟩⟩⟩⟩
 | tn=>exact ⟨_,rfl,rfl,_,rfl,w6 ⟨_,rfl,rfl,_,rfl,w6 ⟨_,rfl,rfl,_,rfl,w6 ⟨_,rfl,rfl,_,rfl,w6 ⟨_,rfl,rfl,_,rfl,u4 ⟨_,rfl,T7 WS.tn.ac q⟩⟩⟩⟩⟩⟩
 | no=>exact ⟨_,rfl,rfl,_,rfl,w6 ⟨_,rfl,rfl,_,rfl,w6 ⟨_,rfl,rfl,_,rfl,w6 ⟨_,rfl,rfl,_,rfl,w6 ⟨_,rfl,rfl,_,rfl,w6 ⟨_,rfl,T7 WS.no.ac q⟩⟩⟩⟩⟩⟩
structure yx2 (K:W.Frag) (C:Addr) (xs:List Str):Prop where
 cls:Cls K C
 no:∀x∈xs,P2 K C x
theorem yx2.ac {K:W.Frag}{C:Addr}(h:yx2 K C ["many"]):zf6 K C:=⟨h.cls,h.no _ ap⟩
theorem Y7.of {P:Program}{w:World}{K:W.Frag}{mg:Str->Option Value}{base:Heap}{x:Str}{C:Addr}(h:xc7 P w K mg base 1 C x ["self","many"] (O8 K)) (ac:zf6 K C):Y7 P w K mg base x C:=by
 obtain ⟨fi,fdi,F,mk,m,b⟩:=h
 exact ⟨fi,fdi,mk,F,b,m,ac⟩
def kSq (K:W.Frag):Bool:=(["NoneType","bool","int","str","dict"].all λt=>W.kitAny K (.type t) [.type "list",.type "tuple"]==some false)&&["list","tuple"].all λt=>W.kitAny K (.type t) [.type "list",.type "tuple"]==some true
theorem xe5 {K:W.Frag}(h:kSq K=true)(d:PyData):W.kitAny K (.type (tyD d)) [.type "list",.type "tuple"]=some (M3 d).isSome:=by
 unfold kSq at h
 obtain ⟨h1,h2⟩:=Bool.and_eq_true_iff.mp h
 have a:∀t∈["NoneType","bool","int","str","dict"],W.kitAny K (.type t) [.type "list",.type "tuple"]=some false:=λt ht=>eq_of_beq (aX.mp h1 t ht)
 have b:∀t∈["list","tuple"],W.kitAny K (.type t) [.type "list",.type "tuple"]=some true:=λt ht=>eq_of_beq (aX.mp h2 t ht)
 cases d with
 | none=>exact a "NoneType" (by decide)
 | bool _=>exact a "bool" (by decide)
 | int _=>exact a "int" (by decide)
 | str _=>exact a "str" (by decide)
 | dict _=>exact a "dict" (by decide)
 | list _=>exact b "list" (by decide)
 | tuple _=>exact b "tuple" (by decide)
theorem V8 {spR:Sp}{H:Hp}{Q:VK}{E:XK}{v:V}{l:List Nat}{k:Nat}(hv:Dt H v (U6 l))(hk:0<k)(hl:l.length<=1000)(q:∀H':Hp,z9 H H'->Q (.bl true) H'):d6 (d6 spR) [v,.int k] H Q E:=by
 cases hv with
 | @tup a xs ds e hs =>
  have ex:=G3 hs
  subst ex
  exact yg4 e hk hl q
theorem E6.plain {W:Kd}{n:Nat}{d e:PyData}{H:Hp}{v:V}{Q:VK}{E:XK}(hn:n<=60)(hf:E6 W n d e)(hv:Dt H v e)(q:∀H':Hp,z9 H H'->Q (.bl true) H'):d6 (d6 (d6 yd4)) [v,.int 2] H Q E:=by
 cases W with
 | pl =>
  obtain ⟨x,hx,rfl⟩:=hf
  obtain ⟨rfl,_⟩:=zo1 hx
  cases hv
  exact .inl ⟨_,2,rfl,q⟩
 | ls=>obtain ⟨l,hl,rfl⟩:=hf;exact V8 (k:=2) hv (by decide) (by have:=V1 hl;lia) q
 | st=>obtain ⟨l,m,hl,_,hp,_,rfl⟩:=hf;exact V8 (k:=2) hv (by decide) (by have:=V1 hl;have:=hp.length_eq;lia) q
 | tn=>obtain ⟨t,rfl,hT,rfl⟩:=hf;exact V8 (k:=2) hv (by decide) (by rw [hT.length];lia) q
 | nt =>
  obtain ⟨ds,ps,qs,h1,h2,h3,_,hp,_,rfl⟩:=hf
  have hql:=hp.length_eq
  have hpl:=(Y6 h3).1
  cases hv with
  | @tup a xs _ e hs =>
   have hxl:=hs.length
   rw [aa] at hxl
   refine .inr ⟨a,xs,2,rfl,by decide,e,by lia,λi x hx H1 s1 Q' E' q'=>?_,q⟩
   obtain ⟨di,hdi,hdx⟩:=S5 hs i x hx
   rw [au] at hdi
   obtain ⟨y,_,rfl⟩:=bG.mp hdi
   have:Dt H1 x (U6 [y.1,y.2]):=hdx.same s1
   exact V8 (k:=1) this (by decide) (by show 2<=1000;decide) q'
 | no=>exact hf.elim
def zv4:Sp:=λvs H Q _=>∃(W:Kd) (x:V) (d:PyData) (n:Nat),vs=[.str W.word,x,.int n]/\Dt H x d/\(∀ds,M3 d=some ds->ds.length<=1000)/\1<=n/\n<=60/\∀H',z9 H H'->Q (.bl true) H'
theorem g5:v9 ["_law_word","_law_thing_here","_law_many","_law_act_here","_law_due_here","_law_found","_law_refused"] ["_law_word","_law_thing_here","_law_many"] (y0 P9):=scq
theorem zm9 {X TE:Addr}{cs:Kd->Addr}(D:Def K mg "_law_good" P9 ["_law_word","_law_thing_here","_law_many"] f fd) (B:Blt mg) (AC:∀W,zf6 K (cs W)) (KL:∀W,ye1 P w K mg base 6 (cs W) "looked" ["self","thing"] (Q4 W K X)) (KA:p5 P w K mg base 3 "_law_act" ["_law_word","_law_many"] (zp0 cs)) (KD:p5 P w K mg base 4 "_law_due" ["_law_word","_law_thing_here","_law_many"] (yp7 K)) (KW:p5 P w K mg base 1 "_law_whole" ["_law_found"] Z9) (KP:p5 P w K mg base 4 "_law_plain" ["_law_found","_law_depth"] (d6 (d6 (d6 yd4)))) (EA:V6 K mg TE "NoThing" X):r8 P w K mg base CX0 7 f fd ["_law_word","_law_thing_here","_law_many"] zv4:=by
 refine D.F.ok g5 (λvs H Q E h=>?_) (λcdv A outer s H vs Q E hr h=>?_)
 ·obtain ⟨W,x,d,n,rfl,_⟩:=h
  rfl
 obtain ⟨W,x,d,n,rfl,hd,hlen,h1,hn,q⟩:=h
 apply d9
 ·apply y4
  ·exact DS.mk (n3 (i:=3) g5.nd rfl (Or.inl rfl) (o9 KA hr rfl (z0 (pv 0) (z0 (pv 2) z4))))
  apply y4
  ·exact DS.mk (n3 (i:=4) g5.nd rfl (Or.inl rfl) (o9 KD hr rfl (z0 (pv 0) (z0 (pv 1) (z0 (pv 2) z4)))))
  apply y4
  ·exact DS.mk (n3 (i:=5) g5.nd rfl (Or.inl rfl) zz1)
  apply y4
  ·exact DS.mk (n3 (i:=6) g5.nd rfl (Or.inl rfl) Y3)
  apply y4
  ·exact DS.mk (yc8 (zu3 (yo6 (i:=5) (AC W).cls (KL W) hr (pv 3) (z0 (pv 1) z4) g5.nd rfl (Or.inl rfl)) yd0) (xb3 EA.c EA.c (by simp) rfl EA.m (λea=>z7 (n3 (i:=6) g5.nd rfl (Or.inl rfl) Y3))) rfl rfl)
  apply y4
  ·exact DS.mk (t8 (PW.pt (L0 (w4 yn1 (K6 (pv 3) rfl) (pv 2) (w8 _)) (R5 (d8 (f8 (o9 KW hr rfl (z0 (K6 (pv 3) rfl) z4))))))) (z7 (y8 Y3)) y9)
  apply y4
  ·exact DS.mk (t8 (w4 (zn0 hr.units) (pv 4) (p3 z4) (w8 _)) (z7 (y8 (pv 6))) y9)
  exact DSs.mk (z7 (y8 (K5 (zz2 (pv 6)) (K5 (N5 (zn0 hr.units) (pv 5) (V7 W0 (pv 4) z8 (λ_ _=>rfl)) (w8 _)) (C1 (o9 KP hr rfl (z0 (pv 5) (z0 z8 z4))))))))
 refine t0 λN hN=>⟨_,rfl,_,rfl,W,n,rfl,λa H1 _ s1 hA=>hN _ _ ?_⟩
 clear hN N
 have hd1:=hd.same s1
 refine t0 λN hN=>⟨_,rfl,_,rfl,_,rfl,W,x,n,rfl,d,hd1,hlen,h1,hn,λe hf r v H2 s2 hr2 hv=>hN _ _ ?_,λhf r H2 s2 hr2=>hN _ _ ?_⟩
 ·clear hN N
  obtain ⟨dx,ha⟩:=hA.same s2
  refine t0 λN hN=>hN _ _ ?_
  clear hN N
  refine t0 λN hN=>hN _ _ ?_
  clear hN N
  refine t0 λN hN=>⟨λ_ _ _ _=>False,⟨_,rfl,a,dx,_,rfl,ha,rfl,_,rfl,a,cs W,n,x,d,rfl,⟨dx,ha⟩,AC W,h1,hn,hd1.same s2,hlen,λe' hf' v' H3 s3 hv'=>hN _ _ ?_,λz=>(hf.not_no z).elim⟩,λ_ _ _ _ z=>z.elim⟩
  clear hN N
  obtain rfl:=hf.uniq hf'
  have ha3:=s3 _ _ ha
  refine t0 λN hN=>⟨_,rfl,a,cs W,dx,_,_,rfl,ha3,(AC W).cls,(AC W).no,rfl,_,rfl,rfl,_,rfl,?_⟩
  show if (!decide (V.int n=V.int n))=true then _ else _
  rw [decide_eq_true rfl]
  refine w6 ⟨_,rfl,a,cs W,dx,_,_,rfl,ha3,(AC W).cls,(AC W).no,rfl,_,.int n,rfl,.int _,_,rfl,w6 (hN _ _ ?_)⟩
  clear hN N
  have hr3:=s3 _ _ hr2
  have hv3:=hv.same s3
  have hL:=hf.lay
  refine t0 λN hN=>⟨_,rfl,ax _,λp hp=>⟨.list [e],.list [],.lst (z6 hp _ _ _ hr3) (.cons (hv3.same (z6 hp _)) .nil),.lst z5 .nil,((g7.lst (.cons hL .nil)).mono (by decide)).shaped,by decide +kernel,_,rfl,w6 (hN _ _ ?_)⟩⟩
  clear hN N
  have s4:=z6 hp (.lst [])
  generalize upd H3 p (.lst [])=H4 at s4 ⊢
  refine ⟨_,rfl,_,rfl,_,rfl,u4 ⟨_,rfl,_,rfl,r,_,_,v,rfl,rfl,SqL.of (s4 _ _ hr3),rfl,e,e,hv'.same s4,hv3.same s4,(hL.mono (by decide)).shaped,(hL.mono (by decide)).shaped,_,rfl,?_⟩⟩
  rw [hL.eqv]
  exact u4 ⟨_,rfl,hf.plain (E:=E0) hn (hv'.same s4) λH5 s5=>q H5 (s1.trans (s2.trans (s3.trans (s4.trans s5))))⟩
 ·clear hN N
  obtain ⟨dx,ha⟩:=hA.same s2
  refine t0 λN hN=>hN _ _ ?_
  clear hN N
  refine t0 λN hN=>hN _ _ ?_
  clear hN N
  refine t0 λN hN=>⟨λσ' c _ H'=>c=.ref X/\σ'=[some (.str W.word),some x,some (.int n),some (.ref a),some (.ref r),some .non,some (.bl false)]/\z9 H2 H',⟨_,rfl,a,dx,_,rfl,ha,rfl,_,rfl,a,cs W,n,x,d,rfl,⟨dx,ha⟩,AC W,h1,hn,hd1.same s2,hlen,λe' hf'=>(hf'.not_no hf).elim,λ_ H3 s3=>⟨rfl,rfl,s3⟩⟩,?_⟩
  rintro σ' ea C' H3 ⟨eC,rfl,s3⟩ hea
  cases eC
  refine ⟨rfl,hN _ _ ?_⟩
  clear hN N
  have s4:=s3.trans (z6 hea (E5 ea X))
  generalize upd H3 ea (E5 ea X)=H4 at s4 ⊢
  have ha4:=s4 _ _ ha
  have hr4:=s4 _ _ hr2
  refine t0 λN hN=>⟨_,rfl,a,cs W,dx,_,_,rfl,ha4,(AC W).cls,(AC W).no,rfl,_,rfl,rfl,_,rfl,?_⟩
  show if (!decide (V.int n=V.int n))=true then _ else _
  rw [decide_eq_true rfl]
  refine w6 ⟨_,rfl,a,cs W,dx,_,_,rfl,ha4,(AC W).cls,(AC W).no,rfl,_,.int n,rfl,.int _,_,rfl,w6 (hN _ _ ?_)⟩
  clear hN N
  refine t0 λN hN=>⟨_,rfl,ax _,λp hp=>⟨.list [],.list [],.lst (z6 hp _ _ _ hr4) .nil,.lst z5 .nil,by decide +kernel,by decide +kernel,_,rfl,u4 ⟨_,rfl,q _ (s1.trans (s2.trans (s4.trans (z6 hp _))))⟩⟩⟩
theorem yt0 (W:Kd)(n:Nat):S1 W n (.list [.int n]):=by
 have h:Y0 60 n (.list [.int n])=none:=by
  show (if 1<=60 then (plD n (.int n)).bind (λx=>(some []).map λl=>x::l) else none)=none
  rw [if_pos (by decide),R0,if_neg (by lia)]
  rfl
 cases W with
 | pl=>rfl
 | ls=>exact h
 | st=>exact λl e=>by rw [h] at e;cases e
 | nt=>exact λds ps e1 _ e2=>by cases e1;cases e2
 | tn=>exact λt e=>by cases e
 | no=>trivial
def yy1:PyData:=.list [.bool true,.bool true,.bool false,.bool false,.bool false]
def zj8 (cs:Kd->Addr):Sp:=λvs H Q _=>∃(W:Kd) (a l:Addr) (n:Nat),vs=[.ref a,.ref l]/\zb2 H a (cs W) n/\H l=some (.lst [.int n])/\1<=n/\n<=60/\∀H',z9 H H'->Q (.bl true) H'
theorem b6:v9 ["_law_act_here","_law_thing_here","_law_kinds_here","e"] ["_law_act_here","_law_thing_here"] (y0 R7):=scq
theorem zg1 {C TE c1 c2 c3:Addr}{cs:Kd->Addr}(D:Def K mg "_law_kinds" R7 ["_law_act_here","_law_thing_here"] f fd) (B:Blt mg) (AC:∀W,zf6 K (cs W)) (KL:∀W,ye1 P w K mg base 6 (cs W) "looked" ["self","thing"] (Q4 W K C)) (ET:yh9 K mg TE) (EA:V6 K mg TE "NoThing" C) (e1:V6 K mg TE "NotIn" c1) (e2:V6 K mg TE "TooMany" c2) (e3:V6 K mg TE "NoTurning" c3) (AK:zk5 K C) (k1:PySem.W.kitOne K (.ref C) (.ref c1)=some false) (k2:PySem.W.kitOne K (.ref C) (.ref c2)=some false) (k3:PySem.W.kitOne K (.ref C) (.ref c3)=some false):r8 P w K mg base CX0 7 f fd ["_law_act_here","_law_thing_here"] (zj8 cs):=by
 refine D.F.ok b6 (λvs H Q E h=>?_) (λcdv A outer s H vs Q E hr h=>?_)
 ·obtain ⟨W,a,l,n,rfl,_⟩:=h
  rfl
 obtain ⟨W,a,l,n,rfl,hA,hl,h1,hn,q⟩:=h
 have hz:=p7
 apply d9
 ·apply y4
  ·exact DS.mk (n3 (i:=2) b6.nd rfl (Or.inl rfl) (p3 z4))
  apply y4
  ·exact DS.mk (yc8 (zu3 (yu2 (AC W).cls (KL W) hr (pv 0) (z0 (pv 1) z4)) yd0) (xf2 (i:=3) EA.c ET.c (by simp) rfl ET.m b6.nd rfl rfl (λea=>v8 (n3 (i:=2) b6.nd rfl (Or.inl rfl) (p3 (z0 (y6 (zk7 zh6) rfl B.isinstance u5 (z0 (pv 3) (z0 (e9 (v:=.ty "ValueError") rfl ET.v zf8 rfl) z4)))
    (z0 (y6 zk8 rfl B.isinstance u5 (z0 (pv 3) (z0 (F6 (v:=.ref C) rfl EA.m rfl) z4))) (z0 (y6 U5 rfl B.isinstance u5 (z0 (pv 3) (z0 (F6 (v:=.ref c1) rfl e1.m rfl) z4))) (z0 (y6 U5 rfl B.isinstance u5 (z0 (pv 3) (z0 (F6 (v:=.ref c2) rfl e2.m rfl) z4))) z4))))))
    (z7 (n3 (i:=2) b6.nd rfl (Or.inl rfl) (u0 zt0 (pv 2) (p3 (z0 (y6 U5 rfl B.isinstance u5 (z0 (pv 3) (z0 (F6 (v:=.ref c3) rfl e3.m rfl) z4))) z4))))))) rfl rfl)
  exact ⟨z7 (y8 (N5 (zn0 hr.units) (pv 2) (p3 (z0 Y3 (z0 Y3 (z0 Y3 (z0 Y3 (z0 Y3 z4)))))) (w8 _)))⟩
 refine t0 λN hN=>⟨ax _,λkl hkl=>hN _ _ ?_⟩
 clear hN N
 have s1:=z6 hkl (.lst [])
 generalize upd H kl (.lst [])=H1 at s1 ⊢
 obtain ⟨dx,ha⟩:=hA.same s1
 have hd:Dt H1 (.ref l) (.list [.int n]):=.lst (s1 _ _ hl) (.cons (.int _) .nil)
 refine t0 λN hN=>⟨λσ' c _ H'=>c=.ref C/\σ'=[some (.ref a),some (.ref l),some (.ref kl),none]/\z9 H1 H',⟨_,rfl,a,dx,_,rfl,ha,rfl,_,rfl,a,cs W,n,.ref l,_,rfl,⟨dx,ha⟩,AC W,h1,hn,hd,λds e=>by cases e;show 1<=1000;decide,λe hf=>(hf.not_no (yt0 W n)).elim,λ_ H2 s2=>⟨rfl,rfl,s2⟩⟩,?_⟩
 rintro σ' ea C' H2 ⟨eC,rfl,s2⟩ hea
 cases eC
 refine ⟨rfl,?_⟩
 have s3:=s2.trans (z6 hea (E5 ea C))
 have x3:(upd H2 ea (E5 ea C)) ea=some (E5 ea C):=z5
 generalize upd H2 ea (E5 ea C)=H3 at s3 x3 ⊢
 have hcc:PySem.W.isIn K (.ref C) C=true:=by unfold PySem.W.isIn;simp
 refine ⟨_,rfl,ea,C,_,_,rfl,x3,EA.c,rfl,_,rfl,ea,C,C,rfl,x3,hcc,_,rfl,ea,C,c1,false,rfl,x3,AK,k1,_,rfl,ea,C,c2,false,rfl,x3,AK,k2,(by show 4<=sizeLine;lia),λl1 hl1=>?_⟩
 have s4:=z6 hl1 (.lst [V.bl true,V.bl true,V.bl false,V.bl false])
 have e4:(upd H3 l1 (.lst [V.bl true,V.bl true,V.bl false,V.bl false])) l1=some (.lst [V.bl true,V.bl true,V.bl false,V.bl false]):=z5
 generalize upd H3 l1 (.lst [V.bl true,V.bl true,V.bl false,V.bl false])=H4 at s4 e4 ⊢
 dsimp only [Y1]
 refine ⟨_,rfl,_,rfl,ea,C,c3,false,rfl,s4 _ _ x3,AK,k3,(by show 1<=sizeLine;lia),λl2 hl2=>?_⟩
 have s5:=z6 hl2 (.lst [V.bl false])
 have e5:(upd H4 l2 (.lst [V.bl false])) l2=some (.lst [V.bl false]):=z5
 generalize upd H4 l2 (.lst [V.bl false])=H5 at s5 e5 ⊢
 refine ⟨l1,l2,_,_,rfl,rfl,SqL.of (s5 _ _ e4),SqL.of e5,(by show 4+1<=sizeLine;lia),λl3 hl3=>hN _ _ ?_⟩
 clear hN N
 have s6:=z6 hl3 (.lst ([V.bl true,V.bl true,V.bl false,V.bl false]++[V.bl false]))
 have e6:(upd H5 l3 (.lst ([V.bl true,V.bl true,V.bl false,V.bl false]++[V.bl false]))) l3=some (.lst [V.bl true,V.bl true,V.bl false,V.bl false,V.bl false]):=z5
 generalize upd H5 l3 (.lst ([V.bl true,V.bl true,V.bl false,V.bl false]++[V.bl false]))=H6 at s6 e6 ⊢
 refine ⟨_,rfl,(by show 5<=sizeLine;lia),λl4 hl4=>?_⟩
 have bls:∀{G:Hp},Dts G [V.bl true,V.bl true,V.bl false,V.bl false,V.bl false] [.bool true,.bool true,.bool false,.bool false,.bool false]:=λ{G}=>.cons (.bl _) (.cons (.bl _) (.cons (.bl _) (.cons (.bl _) (.cons (.bl _) .nil))))
 have hL:g7 1 yy1:=⟨by decide +kernel,by decide +kernel⟩
 refine ⟨yy1,yy1,.lst (z6 hl4 _ _ _ e6) bls,.lst z5 bls,(hL.mono (by decide)).shaped,(hL.mono (by decide)).shaped,?_⟩
 rw [hL.eqv]
 exact q _ (s1.trans (s3.trans (s4.trans (s5.trans (s6.trans (z6 hl4 _))))))
def kds:List Kd:=[.pl,.ls,.st,.nt,.tn,.no]
theorem ye0 {i:Nat}{y:V}(h:[V.str "places",V.str "lists",V.str "sets",V.str "nets",V.str "turns",V.str "none"][i]?=some y):∃W:Kd,y=.str W.word:=by
 have h:(kds.map λW=>V.str W.word)[i]?=some y:=h
 obtain ⟨W,_,rfl⟩:=aI.mp (ay h)
 exact ⟨W,rfl⟩
def xf6:R2:=λx y H Q=>(∃d e,Dt H x d/\Dt H y e/\PySem.SeqAt.shaped d=true/\PySem.SeqAt.shaped e=true/\Q (.bl (!PyData.eqv d e)) H)∨(∃a b kvs,x=.ref a/\y=.ref b/\H a=some (.dK kvs)/\H b=some (.dK kvs)/\(kvs=[]∨∃k i,kvs=[(k,.int i)])/\Q (.bl false) H)
theorem xa8 {X:Cx}(hu:X.A.units+64<cLine):OpR X (compareOp .NotEq) xf6:=yz8 (zn1 hu) (yt6 hu)
theorem yl3 {kvs:List (Key×V)}(h:[((.int 0:PyData),(.int 1:PyData))]=kvs.map kvD):kvs=[(.inl 0,.int 1)]:=by
 cases kvs with
 | nil=>cases h
 | cons a r =>
  cases r with
  | cons _ _=>simp at h
  | nil =>
   obtain ⟨k,v⟩:=a
   have h1:=(List.cons.inj h).1
   have ha:=congrArg Prod.fst h1
   have hb:=congrArg Prod.snd h1
   cases k with
   | inr t=>cases ha
   | inl i =>
    cases ha
    cases v with
    | int j=>cases hb;rfl
    | _=>cases hb
theorem ys9 {H:Hp}{x y:V}{d:PyData}{Q:VK}(h:yr0 d)(hx:Dt H x d)(hy:Dt H y d)(q:Q (.bl false) H):xf6 x y H Q:=by
 rcases h with h|rfl|rfl
 ·refine .inl ⟨d,d,hx,hy,(h.mono (by decide)).shaped,(h.mono (by decide)).shaped,?_⟩
  rw [h.eqv]
  exact q
 ·obtain ⟨a,k1,rfl,ha,e1⟩:=hx.dict
  obtain ⟨b,k2,rfl,hb,e2⟩:=hy.dict
  obtain rfl:=List.map_eq_nil_iff.mp e1.symm
  obtain rfl:=List.map_eq_nil_iff.mp e2.symm
  exact .inr ⟨a,b,[],rfl,rfl,ha,hb,.inl rfl,q⟩
 ·obtain ⟨a,k1,rfl,ha,e1⟩:=hx.dict
  obtain ⟨b,k2,rfl,hb,e2⟩:=hy.dict
  obtain rfl:=yl3 e1
  obtain rfl:=yl3 e2
  exact .inr ⟨a,b,_,rfl,rfl,ha,hb,.inr ⟨_,_,rfl⟩,q⟩
theorem J9:v9 ["_law_script","_law_many","_law_words","_law_cell_here","_law_thing_here","_law_word"] ["_law_script"] (y0 A0):=scq
theorem yz6 {cs:Kd->Addr}(D:Def K mg "law" A0 ["_law_script"] f fd) (B:Blt mg) (KC:p5 P w K mg base 1 "_law_cell" ["_law_script","_law_k"] (zv3 K)) (KT:p5 P w K mg base 3 "_law_thing" ["_law_cell_here","_law_many"] zk0) (KG:p5 P w K mg base 7 "_law_good" ["_law_word","_law_thing_here","_law_many"] zv4) (KK:p5 P w K mg base 7 "_law_kinds" ["_law_act_here","_law_thing_here"] (zj8 cs)) (KA:p5 P w K mg base 3 "_law_act" ["_law_word","_law_many"] (zp0 cs)):r8 P w K mg base CX0 8 f fd ["_law_script"] (yd3 K):=by
 refine D.F.ok J9 (λvs H Q E h=>?_) (λcdv A outer s H vs Q E hr h=>?_)
 ·obtain ⟨a,ns,rfl,_⟩:=h
  rfl
 obtain ⟨a,ns,rfl,hS,h63,hbits,q⟩:=h
 have hz:=p7
 apply d9
 ·apply y4
  ·exact DS.mk (n3 (i:=1) J9.nd rfl (Or.inl rfl) (u0 U8 z8 (u0 o7 (o9 KC hr rfl (z0 (pv 0) (z0 z8 z4))) z8)))
  apply y4
  ·exact DS.mk (n3 (i:=2) J9.nd rfl (Or.inl rfl) (p3 (z0 o8 (z0 o8 (z0 o8 (z0 o8 (z0 o8 (z0 o8 z4))))))))
  apply y4
  ·exact DS.mk (R3 PassesOwn.never rfl (zn8 (zt5 yd2 (pv 0) (zo2 z8) (zo2 z8))) (k8 (i:=3) J9.nd rfl (Or.inl rfl))
    (v8 (n3 (i:=4) J9.nd rfl (Or.inl rfl) (o9 KT hr rfl (z0 (pv 3) (z0 (pv 1) z4))))
    (v8 (R3 PassesOwn.never rfl (zn8 (pv 2)) (k8 (i:=5) J9.nd rfl (Or.inl rfl))
     (z7 (t8 (d8 (f8 (o9 KG hr rfl (z0 (pv 5) (z0 (pv 4) (z0 (pv 1) z4)))))) (z7 (y8 Y3)) y9)))
    (z7 (t8 (w4 (xa8 hr.units) (pv 4) (o9 KT hr rfl (z0 (pv 3) (z0 (pv 1) z4))) (w8 _)) (z7 (y8 Y3)) y9)))))
  apply y4
  ·exact DS.mk (R3 PassesOwn.never rfl (zn8 (pv 2)) (k8 (i:=5) J9.nd rfl (Or.inl rfl))
    (z7 (t8 (PW.pt (L0 (d8 (f8 (o9 KK hr rfl (z0 (o9 KA hr rfl (z0 (pv 5) (z0 (pv 1) z4))) (z0 (p3 (z0 (pv 1) z4)) z4))))) (R5 (d8 (f8 (o9 KG hr rfl (z0 (pv 5) (z0 (p3 z4) (z0 (pv 1) z4))))))))) (z7 (y8 Y3)) y9)))
  exact ⟨z7 (y8 Y3)⟩
 obtain ⟨n,en,hn1,hn⟩:=ys7 (ns.getD 0 0)
 refine t0 λN hN=>⟨_,rfl,a,ns,0,rfl,hS,_,_,rfl,rfl,(by show (0:Int)<60;decide),_,_,rfl,rfl,hN _ _ ?_⟩
 clear hN N
 dsimp only
 rw [en]
 refine t0 λN hN=>⟨(by show 6<=sizeLine;lia),λwl hwl=>hN _ _ ?_⟩
 clear hN N
 have s1:=z6 hwl (.lst [V.str "places",V.str "lists",V.str "sets",V.str "nets",V.str "turns",V.str "none"])
 have ew:(upd H wl (.lst [V.str "places",V.str "lists",V.str "sets",V.str "nets",V.str "turns",V.str "none"])) wl=some (.lst [V.str "places",V.str "lists",V.str "sets",V.str "nets",V.str "turns",V.str "none"]):=z5
 generalize upd H wl (.lst [V.str "places",V.str "lists",V.str "sets",V.str "nets",V.str "turns",V.str "none"])=H1 at s1 ew ⊢
 refine t0 λN hN=>⟨_,rfl,_,rfl,_,rfl,a,_,rfl,s1.seq hS,λsl hsl=>?_⟩
 have s2:=s1.trans (z6 hsl (.lst (K1 (ns.map V.int) (some 1) (some 25))))
 have ew2:=z6 hsl (.lst (K1 (ns.map V.int) (some 1) (some 25))) _ _ ew
 have esl:(upd H1 sl (.lst (K1 (ns.map V.int) (some 1) (some 25)))) sl=some (.lst (K1 (ns.map V.int) (some 1) (some 25))):=z5
 generalize upd H1 sl (.lst (K1 (ns.map V.int) (some 1) (some 25)))=H2 at s2 ew2 esl ⊢
 have hcut:∀(i:Nat) y,(K1 (ns.map V.int) (some 1) (some 25))[i]?=some y->∃z,y=V.int z:=λi y hy=>by
  have hm:=ay hy
  unfold K1 at hm
  obtain ⟨z,_,rfl⟩:=aI.mp (bV (cC hm))
  exact ⟨z,rfl⟩
 refine ⟨sl,rfl,⟨_,SqL.of esl⟩,G6 (xs:=K1 (ns.map V.int) (some 1) (some 25)) (λi σ Hh=>∃v3 v4 v5,σ=[some (.ref a),some (.int n),some (.ref wl),v3,v4,v5]/\z9 H2 Hh)
  ⟨none,none,none,rfl,z9.refl _⟩ (λi σ Hh _ ⟨_,_,_,_,ss⟩=>ss.seq (SqL.of esl)) ?_ ?_⟩
 ·clear hN
  rintro i y σ Hh hy ⟨v3,v4,v5,rfl,ss⟩
  obtain ⟨z,rfl⟩:=hcut i y hy
  refine t0 λM hM=>⟨_,rfl,_,rfl,z,n,rfl,hn1,hn,λv H3 s3 hfit hv=>hM _ _ ?_⟩
  clear hM M
  have ew3:=s3 _ _ (ss _ _ ew2)
  refine t0 λM hM=>⟨_,rfl,wl,rfl,⟨_,SqL.of ew3⟩,G6 (xs:=[V.str "places",V.str "lists",V.str "sets",V.str "nets",V.str "turns",V.str "none"]) (λi σ Hh=>∃v5,σ=[some (.ref a),some (.int n),some (.ref wl),some (.int z),some v,v5]/\z9 H3 Hh) ⟨v5,rfl,z9.refl _⟩ (λi σ Hh _ ⟨_,_,ss⟩=>ss.seq (SqL.of ew3)) ?_ ?_⟩
  ·clear hM
   rintro j y σ H4 hy ⟨v5,rfl,s4⟩
   obtain ⟨W,rfl⟩:=ye0 hy
   exact ⟨_,rfl,_,rfl,_,rfl,W,v,zp3 z n,n,rfl,hv.same s4,hfit.2,hn1,hn,λH5 s5=>⟨_,rfl,w6 ⟨_,rfl,s4.trans s5⟩⟩⟩
  ·rintro σ H4 ⟨v5,rfl,s4⟩
   refine hM _ _ ⟨_,rfl,_,rfl,_,rfl,z,n,rfl,hn1,hn,λv' H5 s5 _ hv'=>ys9 hfit.1 (hv.same (s4.trans s5)) hv' ⟨_,rfl,w6 ⟨_,_,_,rfl,ss.trans (s3.trans (s4.trans s5))⟩⟩⟩
 ·rintro σ Hh ⟨v3,v4,v5,rfl,ss⟩
  refine hN _ _ ?_
  clear hN N
  have ew3:=ss _ _ ew2
  refine t0 λM hM=>⟨_,rfl,wl,rfl,⟨_,SqL.of ew3⟩,G6 (xs:=[V.str "places",V.str "lists",V.str "sets",V.str "nets",V.str "turns",V.str "none"]) (λi σ H4=>∃v5,σ=[some (.ref a),some (.int n),some (.ref wl),v3,v4,v5]/\z9 Hh H4) ⟨v5,rfl,z9.refl _⟩ (λi σ H4 _ ⟨_,_,ss⟩=>ss.seq (SqL.of ew3)) ?_ ?_⟩
  ·clear hM
   rintro j y σ H4 hy ⟨v5,rfl,s4⟩
   obtain ⟨W,rfl⟩:=ye0 hy
   refine ⟨_,rfl,_,rfl,W,n,rfl,λx H5 _ s5 hA=>⟨_,rfl,(by show 1<=sizeLine;lia),λl hl=>?_⟩⟩
   refine ⟨W,x,l,n,rfl,hA.same (z6 hl _),z5,hn1,hn,λH6 s6=>⟨_,rfl,w6 ?_⟩⟩
   refine ⟨_,rfl,ax _,λl7 hl7=>⟨_,rfl,W,.ref l7,.list [],n,rfl,.lst z5 .nil,λds e=>by cases e;decide,hn1,hn,λH8 s8=>⟨_,rfl,w6 ⟨_,rfl,s4.trans (s5.trans ((z6 hl _).trans (s6.trans ((z6 hl7 _).trans s8))))⟩⟩⟩⟩
  ·rintro σ H4 ⟨v5,rfl,s4⟩
   exact hM _ _ (q H4)
end
def DI (K:W.Frag)(x:Str)(st:Stmt):Prop:=∃f fd,Fun K x x st f fd/\W.nsIn K mainGlobals x=some (some (.ref f))
def MI (K:W.Frag)(c:Addr)(m q:Str)(st:Stmt):Prop:=∃f fd,Fun K m q st f fd/\W.findIn K (.ref c) m=some (some (.ref f))/\W.isFn K (.ref f)=true
def yz2 (K:W.Frag)(c:Addr)(f:Str):Bool:=match W.findIn K (.ref c) f with|some none=>true|_=>false
def BA (x q:Str)(st:Stmt)(ps:List Str):Prop:=∀(kV doc pm:Value) (an:Option Addr) (cdv ct:Value) (us:List Value),us.length=ps.length->bindArgs (W.fnOf x q (X9 st) (Z4 st) (y0 st) .none kV doc pm an cdv ct) ⟨us,[]⟩=pure (ps.zip us)
structure CI (K:W.Frag) (c:Addr) (x:Str) (fs:List Str):Prop where
 n:W.nsIn K mainGlobals x=some (some (.ref c))
 cc:Cls K c
 ma:W.makesIn K c=true
 kp:W.keepIn K (.ref c)=true
 no:fs.all (yz2 K c)=true
structure EI (K:W.Frag) (x:Str) (C:Addr) (tl:List Value):Prop where
 n:W.nsIn K mainGlobals x=some (some (.ref C))
 c:L9 K C tl "ValueError.__new__"
structure EO (K:W.Frag) (x:Str) (C TE:Addr):Prop where
 e:EI K x C (.ref TE::bmV)
 i:W.isIn K (.ref C) TE=true
structure ZZ (P:Program) (w:World) (K:W.Frag) (mg:Str->Option Value) (base:Heap):Prop where
 mg:∀{x:Str} {v:Value},W.nsIn K mainGlobals x=some (some v)->mg x=some v
section
variable {P:Program}{w:World}{K:W.Frag}{mg:Str->Option Value}{base:Heap}{x m q:Str}{st:Stmt}{ps fs:List Str}{k:Nat}{sp:Sp}{c C TE:Addr}{tl:List Value}
section
variable {f:Addr}{oc:Value}{od an:Option Addr}{sl:Array (Option Value)}{kV dc pm cd ct:Value}
theorem DI.of (a:W.nsIn K mainGlobals x=some (some (.ref f)))(l:K.lookup f=some ⟨oc,od,.func (W.fnOf x x (X9 st) (Z4 st) (y0 st) .none kV dc pm an cd ct),sl⟩)(h:W.codeIn K cd x=true)(k:W.keepIn K (.ref f)=true):DI K x st:=⟨f,_,zl1 l h k,a⟩
theorem MI.of (a:W.findIn K (.ref c) m=some (some (.ref f)))(l:K.lookup f=some ⟨oc,od,.func (W.fnOf m q (X9 st) (Z4 st) (y0 st) .none kV dc pm an cd ct),sl⟩)(h:W.codeIn K cd q=true)(k:W.keepIn K (.ref f)=true)(i:W.isFn K (.ref f)=true):MI K c m q st:=⟨f,_,zl1 l h k,a,i⟩
end
theorem CI.of (a:W.nsIn K mainGlobals x=some (some (.ref c)))(pg:W.plainGet K c Str.empty=true)(hd:W.hasDictIn K c=true)(po:W.plainOver K c=true)(sa:W.findIn K (.ref c) "__setattr__"=some (some (.builtin "object.__setattr__"))) (mk:W.makesIn K c=true) (kp:W.keepIn K (.ref c)=true) (no:fs.all (yz2 K c)=true):CI K c x fs:=⟨a,⟨pg,hd,po,sa⟩,mk,kp,no⟩
theorem CI.f (I:CI K c x fs):yx2 K c fs:=⟨I.cc,λf hf=>by
 have h:=aX.mp I.no f hf
 unfold yz2 at h
 split at h
 ·assumption
 ·cases h⟩
theorem EI.of {nm qn:Str}{N:Addr}{bs:List Value}{hdct:Bool}{sn:List Str}{sub:List Value}{ab:Bool}{col:Option Bool}{dd:Option Addr}{k0 k1 k2 k3 k5:Option Value}{oN:Obj}(a:W.nsIn K mainGlobals x=some (some (.ref C)))
  (l:K.lookup C=some (excClassObj nm qn C N bs tl hdct sn sub ab col dd k0 k1 k2 k3 k5 "ValueError.__new__")) (n:K.lookup N=some oN) (o:W.nsOkIn K N=true) (i:W.nsIn K N "__init__"=some none) (t:W.tailIn K bmV tl=true):EI K x C tl:=⟨a,L9.mk' l n o i t⟩
theorem EO.at (I:EO K x C TE)(Z:ZZ P w K mg base):V6 K mg TE x C:=⟨Z.mg I.e.n,I.e.c,I.i⟩
theorem DI.kn (I:DI K x st)(Z:ZZ P w K mg base)(G:∀{f fd},Def K mg x st ps f fd->r8 P w K mg base CX0 k f fd ps sp)
  (h:BA x x st ps:=by intro _ _ _ _ _ _ us hl;rcases us with _|⟨_,_|⟨_,_|⟨_,_|⟨_,_|⟨_,_⟩⟩⟩⟩⟩ <;> first|rfl|simp at hl):p5 P w K mg base k x ps sp:=by
 obtain ⟨f,fd,F,a⟩:=I
 exact Def.known ⟨F,F.binds h,Z.mg a⟩ (G ⟨F,F.binds h,Z.mg a⟩)
theorem DI.kx {R:Prop}(I:DI K x st)(Z:ZZ P w K mg base)(G:∀{f fd},Def K mg x st ps f fd->R)
  (h:BA x x st ps:=by intro _ _ _ _ _ _ us hl;rcases us with _|⟨_,_|⟨_,_|⟨_,_|⟨_,_|⟨_,_⟩⟩⟩⟩⟩ <;> first|rfl|simp at hl):R:=by
 obtain ⟨f,fd,F,a⟩:=I
 exact G ⟨F,F.binds h,Z.mg a⟩
theorem MI.kn (I:MI K c m q st)(Z:ZZ P w K mg base)(G:∀{f fd},Fun K m q st f fd->r8 P w K mg base CX0 k f fd ps sp)
  (h:BA m q st ps:=by intro _ _ _ _ _ _ us hl;rcases us with _|⟨_,_|⟨_,_|⟨_,_|⟨_,_|⟨_,_⟩⟩⟩⟩⟩ <;> first|rfl|simp at hl):xh1 P w K mg base k c m ps sp:=by
 obtain ⟨f,fd,F,a,i⟩:=I
 exact ⟨f,fd,G F,⟨a,i,F.kp⟩,F.binds h⟩
theorem MI.kx (I:MI K c m q st)(Z:ZZ P w K mg base)(G:∀{f fd},Fun K m q st f fd->r8 P w K mg base (CX1 P w) k f fd ps sp)
  (h:BA m q st ps:=by intro _ _ _ _ _ _ us hl;rcases us with _|⟨_,_|⟨_,_|⟨_,_|⟨_,_|⟨_,_⟩⟩⟩⟩⟩ <;> first|rfl|simp at hl):ye1 P w K mg base k c m ps sp:=by
 obtain ⟨f,fd,F,a,i⟩:=I
 exact ⟨f,fd,G F,⟨a,i,F.kp⟩,F.binds h⟩
theorem MI.mak (I:MI K c "__init__" q st) (Z:ZZ P w K mg base) (N:CI K c x fs) (G:∀{f fd},Fun K "__init__" q st f fd->r8 P w K mg base CX0 k f fd ps sp)
  (h:BA "__init__" q st ps:=by intro _ _ _ _ _ _ us hl;rcases us with _|⟨_,_|⟨_,_|⟨_,_|⟨_,_|⟨_,_⟩⟩⟩⟩⟩ <;> first|rfl|simp at hl):xc7 P w K mg base k c x ps sp:=by
 obtain ⟨f,fd,F,a,i⟩:=I
 exact ⟨f,fd,G F,⟨N.ma,a,i,N.kp⟩,Z.mg N.n,F.binds h⟩
end
def MF (K:W.Frag)(f:Addr)(oc:Value)(od:Option Addr)(sl:Array (Option Value))(kV dc pm:Value)(an:Option Addr)(cd ct:Value)(m q:Str)(st:Stmt):Prop:=K.lookup f=some ⟨oc,od,.func (W.fnOf m q (X9 st) (Z4 st) (y0 st) .none kV dc pm an cd ct),sl⟩
theorem all_mk {l:W.OpenLaw}{w:World}{K:W.Frag}{h:Heap}{mg:Str->Option Value}{fa fL:Addr}(X:K.In h)(G:h.Ns mainGlobals mg)(hfa:mg "law"=some (.ref fa))
  (a0:DI K "is_whole" J7) (a1:DI K "is_turning" Q2) (a2:DI K "is_each_once" Z8) (a3:DI K "is_place" J6) (a4:DI K "is_turning_of" X5) (a5:DI K "need_row" J8) (a6:DI K "need_place" Q3) (a7:DI K "need_turning" V4) (a8:DI K "need_each_once" i7) (a9:DI K "row_of_places" X6) (a10:DI K "rising" ze5) (a11:DI K "rising_pair" T3) (a12:DI K "_law_cell" P8) (a13:DI K "_law_whole" Q1) (a14:DI K "_law_plain" W2) (a15:DI K "_law_order" R8) (a16:DI K "_law_odd" J4) (a17:DI K "_law_row" J5) (a18:DI K "_law_whole_row" Y5) (a19:DI K "_law_pairs" R9) (a20:DI K "_law_many_pairs" Z7) (a21:DI K "_law_thing" Q0) (a22:DI K "_law_places" T2) (a23:DI K "_law_net" J3) (a24:DI K "_law_due" J2) (a25:DI K "_law_act" J1) (a26:DI K "_law_good" P9) (a27:DI K "_law_kinds" R7)
  {od an:Option Addr} {sl:Array (Option Value)} {oc kV dc pm cd ct:Value} (aL:W.nsIn K mainGlobals "law"=some (some (.ref fL))) (lL:MF K fL oc od sl kV dc pm an cd ct "law" "law" A0) (cL:W.codeIn K cd "law"=true) (kL:W.keepIn K (.ref fL)=true)
  {tk0 tk1 tk2:Tok} (gc0:W.nsIn K mainGlobals "MOST_PLACES"=some (some (.int 60 tk0))) (gc1:W.nsIn K mainGlobals "MOST_IN_ROW"=some (some (.int 60 tk1))) (gc2:W.nsIn K mainGlobals "MOST_PAIRS"=some (some (.int 200 tk2)))
  {cAct:Addr} (nAct:CI K cAct "Act" ["many"]) (iActinit:MI K cAct "__init__" "Act.__init__" n4) (iActlooked:MI K cAct "looked" "Act.looked" R6) {cPlaces:Addr} (nPlaces:CI K cPlaces "Places" ["many"]) (iPlacesinit:MI K cPlaces "__init__" "Act.__init__" n4) (iPlaceslooked:MI K cPlaces "looked" "Places.looked" X4) {cLists:Addr} (nLists:CI K cLists "Lists" ["many"]) (iListsinit:MI K cLists "__init__" "Act.__init__" n4) (iListslooked:MI K cLists "looked" "Lists.looked" V2) {cSets:Addr} (nSets:CI K cSets "Sets" ["many"]) (iSetsinit:MI K cSets "__init__" "Act.__init__" n4) (iSetslooked:MI K cSets "looked" "Sets.looked" T1) {cNets:Addr} (nNets:CI K cNets "Nets" ["many"]) (iNetsinit:MI K cNets "__init__" "Act.__init__" n4) (iNetslooked:MI K cNets "looked" "Nets.looked" T0) {cTurns:Addr} (nTurns:CI K cTurns "Turns" ["many"]) (iTurnsinit:MI K cTurns "__init__" "Act.__init__" n4) (iTurnslooked:MI K cTurns "looked" "Turns.looked" V3) {xC0:Addr} (xe0:EI K "TurnError" xC0 bmV) {xC1:Addr} (xe1:EO K "NoThing" xC1 xC0) {xC2:Addr} (xe2:EO K "NotIn" xC2 xC0) (xp2:(xC1==xC2)=false) (xq2:(xC0==xC2)=false) {xC3:Addr} (xe3:EO K "TooMany" xC3 xC0) (xp3:(xC1==xC3)=false) (xq3:(xC0==xC3)=false) {xC4:Addr} (xe4:EO K "NoTurning" xC4 xC0) (xp4:(xC1==xC4)=false) (xq4:(xC0==xC4)=false) (xv:W.nsIn K mainGlobals "ValueError"=some none) (kSf:kSq K=true) (xa0:W.findIn K (.ref xC1) "__getattribute__"=some (some (.builtin "BaseException.__getattribute__"))) (xa1:W.findIn K (.ref xC1) "__getattr__"=some none) (xa2:W.findIn K (.ref xC1) "__class__"=some (some (.builtin "object.__class__"))) (xa3:W.mroIn K xC1 (.type "BaseException")=some true) (xa4:W.mroIn K xC1 (.type "object")=some true) (xa5:W.specialIn K (.builtin "object.__class__") "__get__"=some (some (.builtin "getset_descriptor.__get__"))) (xa6:W.takesIn K (.builtin "object.__class__")=some true) (xk2:W.kitOne K (.ref xC1) (.ref xC2)=some false) (xk3:W.kitOne K (.ref xC1) (.ref xC3)=some false) (xk4:W.kitOne K (.ref xC1) (.ref xC4)=some false)
  (zz:(["len","range","list","tuple","isinstance","int","bool","str","enumerate","sorted","sum","all","set","reversed","divmod","max","min"]:List Str).all (λx=>match W.nsIn K mainGlobals x with|some none=>true|_=>false)=true) :
  ∃fd:FuncData,(∀(s:Shared) (v:Value),BindsTo s fd ⟨[v],[]⟩ [("_law_script",v)])/\∀base:Heap,K.In base->base.Ns mainGlobals mg->r8 l.prog w K mg base CX0 8 fa fd ["_law_script"] (yd3 K):=by
 cases hfa.symm.trans (W.mg_of X G aL)
 have bi:∀x∈(["len","range","list","tuple","isinstance","int","bool","str","enumerate","sorted","sum","all","set","reversed","divmod","max","min"]:List Str),mg x=none:=λx hx=>W.mg_none_of X G (by have h:=aX.mp zz x hx;split at h <;> first|assumption|cases h)
 have B:Blt mg:=by constructor <;> exact bi _ (by simp)
 have j34:zp7 mg "MOST_PLACES" (.int 60):=⟨_,W.mg_of X G gc0,⟨_,rfl⟩⟩
 have j7:zp7 mg "MOST_IN_ROW" (.int 60):=⟨_,W.mg_of X G gc1,⟨_,rfl⟩⟩
 have j33:zp7 mg "MOST_PAIRS" (.int 200):=⟨_,W.mg_of X G gc2,⟨_,rfl⟩⟩
 refine ⟨W.fnOf "law" "law" (X9 A0) (Z4 A0) (y0 A0) .none kV dc pm an cd ct,λs v=>.of_eq rfl,λbase _ _=>?_⟩
 have Z:ZZ l.prog w K mg base:=⟨λa=>W.mg_of X G a⟩
 have j20:yh9 K mg xC0:=⟨Z.mg xe0.n,xe0.c,W.mg_none_of X G xv⟩
 have j0:=xe1.at Z
 have j17:=xe2.at Z
 have j18:=xe3.at Z
 have j19:=xe4.at Z
 have j2:=xe5 kSf
 have j15:zk5 K xC1:=⟨xa0,xa1,xa2,xa3,xa4,xa5,xa6⟩
 have j52:=xk2
 have j53:=xk3
 have j54:=xk4
 have j11:=a0.kn Z λD=>zs8 D B
 have j50:=a1.kn Z λD=>zg7 D B j11 j34
 have j48:=a2.kn Z λD=>A9 D B
 have j16:=a2.kn Z λD=>F4 D B
 have j49:=a3.kn Z λD=>zs7 D B j11
 have j51:=a4.kn Z λD=>D7 D B j50
 have j14:=a5.kx (R:=i4 l.prog w K mg base 1 "need_row" ["thing","most"] (Q6 xC1)) Z λD=>zs9 D B j0 j2
 have j13:=a6.kx Z λD=>zg8 D B j49 j0
 have j55:=a7.kx Z λD=>za0 D B j51 j0
 have j12:=a8.kx Z λD=>F5 D B j48 j16 j0
 have j4:=a9.kx Z λD=>D8 D B j14 j13
 have j3:=a10.kn Z λD=>yg3 D B
 have j56:=a11.kx Z λD=>zd7 D B j0 j4 j3
 have j27:=Y7.of (iActinit.mak Z nAct λF=>Z1 F) nAct.f.ac
 have j21:=iActlooked.kx Z λF=>zg0 F j0
 have j30:=Y7.of (iPlacesinit.mak Z nPlaces λF=>Z1 F) nPlaces.f.ac
 have j24:=iPlaceslooked.kx Z λF=>D6 F j13
 have j28:=Y7.of (iListsinit.mak Z nLists λF=>Z1 F) nLists.f.ac
 have j22:=iListslooked.kx Z λF=>A7 F j4 j7
 have j31:=Y7.of (iSetsinit.mak Z nSets λF=>Z1 F) nSets.f.ac
 have j25:=iSetslooked.kx Z λF=>zd5 F j4 j12 j3 j7
 have j29:=Y7.of (iNetsinit.mak Z nNets λF=>Z1 F) nNets.f.ac
 have j23:=iNetslooked.kx Z λF=>zd4 F j14 j56 j12 j3 j33
 have j32:=Y7.of (iTurnsinit.mak Z nTurns λF=>Z1 F) nTurns.f.ac
 have j26:=iTurnslooked.kx Z λF=>A8 F j55
 let cs:Kd->Addr:=λW=>match W with | .pl=>cPlaces | .ls=>cLists | .st=>cSets | .nt=>cNets | .tn=>cTurns | .no=>cAct
 have j35:yv8 l.prog w K mg base cs:=⟨j30,j28,j31,j29,j32,j27⟩
 have j5:∀W,zf6 K (cs W):=λW=>match W with | .pl=>nPlaces.f.ac | .ls=>nLists.f.ac | .st=>nSets.f.ac | .nt=>nNets.f.ac | .tn=>nTurns.f.ac | .no=>nAct.f.ac
 have j6:∀W,ye1 l.prog w K mg base 6 (cs W) "looked" ["self","thing"] (Q4 W K xC1):=λW=>match W with | .pl=>j24 | .ls=>j22 | .st=>j25 | .nt=>j23 | .tn=>j26 | .no=>j21
 have j36:=a12.kn Z λD=>zm8 D B
 have j1:=a13.kn Z λD=>zg6 D B
 have j44:=a14.kn Z λD=>zg4 D B j1
 have j9:=a15.kn Z λD=>zg2 D B
 have j42:=a16.kn Z λD=>zs5 D B
 have j45:=a17.kn Z λD=>zs6 D B
 have j47:=a18.kn Z λD=>F3 D B j9
 have j43:=a19.kn Z λD=>zg3 D B
 have j40:=a20.kn Z λD=>K4 D B
 have j46:=a21.kn Z λD=>zg5 D B j45 j9 j47 j43 j40 j42
 have j10:=a22.kn Z λD=>zd6 D B j1 j2
 have j41:=a23.kn Z λD=>zs4 D B j10 j2
 have j37:=a24.kn Z λD=>zs3 D B j1 j41 j10
 have j8:=a25.kn Z λD=>zs2 D B j35
 have j38:=a26.kn Z λD=>zm9 D B j5 j6 j8 j37 j1 j44 j0
 have j39:=a27.kn Z λD=>zg1 D B j5 j6 j20 j0 j17 j18 j19 j15 j52 j53 j54
 exact yz6 ⟨zl1 (st:=A0) lL cL kL,(zl1 (st:=A0) lL cL kL).binds (ps:=["_law_script"]) λ_ _ _ _ _ _ us hl=>match us,hl with|[_],_=>rfl,W.mg_of X G aL⟩ B j36 j46 j38 j39 j8
end Tb
open PySem PySem.W PyProof.Rows
set_option maxRecDepth 100000 in
set_option maxHeartbeats 0 in
theorem PySem.Challenge.cw_turnbase_k41_acts_look_holds : PySem.Challenge.rw_turnbase_k41_acts_look.Holds := by
 refine Tb.early.2 Tb.early2 Tb.early3 Tb.early4 Tb.early5 ?_
 refine Tb.walk (l := PySem.Challenge.rw_turnbase_k41_acts_look) (k := 8) (x := "_law_script") rfl rfl ⟨rfl, by decide, by decide⟩ (fun w h Y => PySem.W.kIn_of Y) ?F
 case F =>
  intro w mg fa h KX G hmg
  refine' Tb.all_mk KX G hmg ?a0 ?a1 ?a2 ?a3 ?a4 ?a5 ?a6 ?a7 ?a8 ?a9 ?a10 ?a11 ?a12 ?a13 ?a14 ?a15 ?a16 ?a17 ?a18 ?a19 ?a20 ?a21 ?a22 ?a23 ?a24 ?a25 ?a26 ?a27 ?aL ?lL ?cL ?kL ?gc0 ?gc1 ?gc2 ?nAct ?iActinit ?iActlooked ?nPlaces ?iPlacesinit ?iPlaceslooked ?nLists ?iListsinit ?iListslooked ?nSets ?iSetsinit ?iSetslooked ?nNets ?iNetsinit ?iNetslooked ?nTurns ?iTurnsinit ?iTurnslooked ?xe0 ?xe1 ?xe2 ?xp2 ?xq2 ?xe3 ?xp3 ?xq3 ?xe4 ?xp4 ?xq4 ?xv ?kSf ?xa0 ?xa1 ?xa2 ?xa3 ?xa4 ?xa5 ?xa6 ?xk2 ?xk3 ?xk4 ?zz
  (case a0 | a1 | a2 | a3 | a4 | a5 | a6 | a7 | a8 | a9 | a10 | a11 | a12 | a13 | a14 | a15 | a16 | a17 | a18 | a19 | a20 | a21 | a22 | a23 | a24 | a25 | a26 | a27 => refine' Tb.DI.of ?x1 ?x2 ?x3 ?x4; (case x1 | x2 | x3 | x4 => first | k_is | kernel_rfl | (unfold Tb.MF; k_is)))
  (case nAct | nPlaces | nLists | nSets | nNets | nTurns => refine' Tb.CI.of ?x1 ?x2 ?x3 ?x4 ?x5 ?x6 ?x7 ?x8; (case x1 | x2 | x3 | x4 | x5 | x6 | x7 | x8 => first | k_is | kernel_rfl | (unfold Tb.MF; k_is)))
  (case iActinit | iActlooked | iPlacesinit | iPlaceslooked | iListsinit | iListslooked | iSetsinit | iSetslooked | iNetsinit | iNetslooked | iTurnsinit | iTurnslooked => refine' Tb.MI.of ?x1 ?x2 ?x3 ?x4 ?x5; (case x1 | x2 | x3 | x4 | x5 => first | k_is | kernel_rfl | (unfold Tb.MF; k_is)))
  (case xe0 => refine' Tb.EI.of ?x1 ?x2 ?x3 ?x4 ?x5 ?x6; (case x1 | x2 | x3 | x4 | x5 | x6 => first | k_is | kernel_rfl | (unfold Tb.MF; k_is)))
  (case xe1 | xe2 | xe3 | xe4 => refine' ⟨Tb.EI.of ?x1 ?x2 ?x3 ?x4 ?x5 ?x6, ?x7⟩; (case x1 | x2 | x3 | x4 | x5 | x6 | x7 => first | k_is | kernel_rfl | (unfold Tb.MF; k_is)))
  (case aL | lL | cL | kL | gc0 | gc1 | gc2 | xv | kSf | xa0 | xa1 | xa2 | xa3 | xa4 | xa5 | xa6 | xk2 | xk3 | xk4 | zz => first | k_is | kernel_rfl | (unfold Tb.MF; k_is))
  (case xp2 | xq2 | xp3 | xq3 | xp4 | xq4 => decide)

