import PyProof.Rows.All
import KE.KDictList
import KE.KIsAll
import KE.KRevIter
import KE.KSortTup
import KE.LcSums
import KE.KItem
import Lean
import PySem.Challenge.RW_turnbase_k53_fixing
open Array renaming length_toList → aP, getElem?_toList → bE, append_assoc → fB, toList_map → fF, toList_inj → fG
open Bool renaming false_ne_true → aA, and_eq_true → bn, false_eq_true → bY, eq_false_iff → cJ, eq_iff_iff → du, false_and → fc, and_false → ff, or_eq_true → fP, or_true → fV
open Int renaming toNat_natCast → bG, le_of_lt → bJ, not_lt → cf, le_trans → cm, le_refl → dq, fdiv_eq_ediv_of_nonneg → dB, emod_lt_of_pos → dC, emod_nonneg → dS, le_antisymm → eY, fmod_eq_emod_of_nonneg → fh, natCast_ediv → fO
open List renaming getElem?_eq_getElem → aa, length_map → ae, getElem?_eq_some_iff → ag, getD_eq_getElem?_getD → ah, getElem?_map → al, length_append → ao, mem_singleton → aq, mem_cons_of_mem → ar, mem_of_getElem? → au, length_cons → av, mem_cons_self → aw, mem_cons → ax, size_toArray → ay, mem_map → az, getElem?_append_left → aE, mem_append_right → aF, mem_append → aH, getElem?_append_right → aI, map_append → aJ, length_take → aK, map_cons → aN, getElem?_eq_none → aQ, mem_append_left → aR, nodup_cons → aS, take_add_one → aT, length_range → aU, take_of_length_le → aV, length_singleton → aW, mem_nil_iff → aY, getElem?_range → aZ, append_assoc → ba, pairwise_iff_getElem → bg, mem_iff_getElem → bh, filter_cons → bj, length_replicate → bo, getElem?_set_ne → br, length_set → bt, append_nil → bu, getElem_mem → bw, pairwise_map → bx, nodup_append → bz, mem_filterMap → bA, getElem?_set_self → bB, take_length → bD, map_map → bF, length_drop → bH, all_eq_true → bI, replicate_succ → bK, take_append_of_le_length → bL, take_append_drop → bM, getElem?_take_of_lt → bN, length_nil → bO, getElem?_replicate → bS, map_congr_left → bT, drop_eq_getElem_cons → bV, not_mem_nil → bW, lookup_cons → bX, mem_of_mem_take → ci, getElem?_of_mem → ck, length_pos_iff → cp, range'_succ → cq, mem_range → cr, mem_flatten → cu, length_eq_zero_iff → cv, drop_of_length_le → cD, idxOf_lt_length_of_mem → cH, ext_getElem? → cI, take_zero → cM, toList_toArray → cN, length_erase_of_mem → cO, mem_filter → cP, find?_cons → cQ, filter_append → cR, nodup_nil → cW, flatten_cons → cX, find?_cons_of_pos → cY, find?_cons_of_neg → cZ, mem_erase_of_ne → de, eq_nil_of_length_eq_zero → df, perm_ext_iff_of_nodup → dz, drop_zero → dA, any_cons → dG, all_cons → dH, cons_append → dI, map_nil → dJ, length_pos_of_mem → dL, forIn_cons → dM, foldl_cons → dO, length_filter_le → dR, map_id → dU, length_reverse → dY, filterMap_cons → dZ, map_take → ez, pairwise_cons → eD, getElem?_drop → eE, take_sublist → eG, reverse_cons → eI, foldl_append → eJ, find?_append → eK, all_map → eL, nodup_range → eQ, mem_reverse → eR, mem_flatMap → eS, cons_ne_nil → eT, range_succ → eV, of_mem_zip → eW, dropLast_concat_getLast → eX, nodup_iff_pairwise_ne → eZ, mem_or_eq_of_mem_set → fg, take_nil → fj, sum_cons → fk, filter_eq_nil_iff → fq, singleton_append → ft, range_eq_range' → fu, mem_of_mem_drop → fv, flatMap_cons → fD, any_eq_false → fE, getElem_inj → fI, any_eq_true → fJ, nil_append → fN, drop_drop → fQ, map_drop → fR, map_set → fS, any_map → fU
open Nat renaming le_refl → af, le_trans → aD, zero_le → aG, lt_of_lt_of_le → aM, lt_irrefl → aO, ne_of_lt → aX, le_of_lt → bp, lt_of_le_of_lt → bC, zero_add → bP, sub_self → bQ, not_lt_zero → bR, le_succ → bU, lt_succ_self → bZ, le_add_right → cw, sub_zero → cE, lt_or_ge → cF, lt_succ_of_lt → cK, lt_of_le_of_ne → cT, one_mul → dh, mul_le_mul_right → di, ne_of_gt → dv, lt_trans → dw, one_pos → dE, lt_trichotomy → dF, min_eq_left → dP, le_antisymm → dQ, pow_le_pow_right → dW, add_mul → dX, add_sub_cancel → eF, succ_pos → eM, mul_comm → eN, le_of_eq → eO, add_comm → eP, mod_eq_of_lt → eU, mul_one → fA, succ_le_of_lt → fH, max_eq_right → fK, le_of_not_lt → fM, succ_mul → fW, pow_succ → fX
open Option renaming getD_some → cn, map_some → cz, map_eq_some_iff → cU, isSome_iff_exists → dD, isSome_map → fz, getD_none → fC
open PyProof.Rows renaming wpS_bind → gA, wpS_pure → gB, wpS_forRange → gC, seqObj → gD
open PySem renaming wpAny_bind → fY, Shared → fZ, wpAny_pure → gc, sizeLine → ge, Program → gf, wpAny → gg, starEach → gh, model → gn, World → gp, Around → gq, wpAny_holding → gr, wpAny_mono → gu, bootBuiltins → gv, keywordEach → gw, FuncData → gz
open PySem.Heap renaming get?_push_of_some → ap, lt_size → aB, get?_push_size → aC, size_push → cV
set_option Elab.async false
set_option linter.all false
set_option compiler.extract_closed false
set_option genSizeOf false
local macro_rules | `(tactic| trivial) => `(tactic| (intro _ _ _ _ _ _ us hl; rcases us with _ | ⟨_, _ | ⟨_, _ | ⟨_, _ | ⟨_, _ | ⟨_, _ | ⟨_, _⟩⟩⟩⟩⟩⟩ <;> first | rfl | simp at hl))
namespace Tb
open PySem PySem.W
def xm8 (st:SharedT->Thread->Option (SharedT×Thread))(ok thr:Thread->Bool):Nat->SharedT->Thread->Option SharedT
 | 0,_,_=>none
 | n+1,s,t=>match thr t with
  | true=>some s
  | false=>match ok t with
   | false=>none
   | true=>match st s t with
    | some (s',t')=>xm8 st ok thr n s' t'
    | none=>none
theorem yx8 {tb:String->Option Builtin}:∀{n:Nat} {s r:SharedT} {t:Thread},xm8 (stepT (denote tb) p w) (stepOk n₀ ann) through n s t=some r->topRun tb p w n₀ ann n s.abs t=some r.abs
 | 0,_,_,_,h=>by cases h
 | n+1,s,r,t,h=>by
  unfold xm8 at h
  unfold topRun
  cases ht:through t with
  | true=>rw[ht]at h;cases h;rfl
  | false =>
   rw[ht]at h
   cases hk:stepOk n₀ ann t with
   | false=>rw[hk]at h;cases h
   | true =>
    rw[hk]at h
    cases hs:stepT (denote tb) p w s t with
    | none=>rw[hs]at h;cases h
    | some q =>
     obtain⟨s₂,t₂⟩:=q
     rw[hs]at h
     rw[stepT_spec hs]
     exact yx8 h
def zl1:List Obj->Nat->BT->Option BT
 | [],_,T=>some T
 | o::r,k,T=>match ((T.ins k o).get k).isSome with
  | true=>zl1 r (k+1) (T.ins k o)
  | false=>none
theorem zv6 :∀{l:List Obj} {k:Nat} {T T':BT},zl1 l k T=some T'->(absHeap T' (k+l.length) life).objs=(absHeap T k life).objs++l.toArray
 | [],k,T,T',h=>by
  cases h
  simp
 | o::r,k,T,T',h=>by
  unfold zl1 at h
  cases hs:((T.ins k o).get k).isSome with
  | false=>rw[hs]at h;cases h
  | true =>
   rw[hs]at h
   have ih:=zv6 (life:=life) h
   rw[absHeap_ins hs]at ih
   rw[av,show k+(r.length+1)=k+1+r.length by lia,ih]
   show((absHeap T k life).objs.push o)++r.toArray=_
   simp
theorem yn8 {h:Heap}(e:zl1 h.objs.toList 0 .nil=some T):absHeap T h.objs.size h.life=h:=by
 have q:=zv6 (life:=h.life) e;rw[bP,aP]at q;have a:(absHeap BT.nil 0 h.life).objs=#[]:=by
  apply Array.ext_getElem?;intro i;rw[absHeap_at];simp
 rw[a]at q;have:(absHeap T h.objs.size h.life).objs=h.objs:=by rw[q];simp
 show Heap.mk _ _=h;rw[show h=Heap.mk h.objs h.life from rfl];exact congrArg (Heap.mk · h.life) this
def xg9 (fo:Option fZ)(st:SharedT->Thread->Option (SharedT×Thread))(ok:Nat->Option Value->Thread->Bool)(p:gf)(N:Nat):Option (fZ×SharedT) :=
 match fo with
 | none=>none
 | some s₀=>match zl1 s₀.heap.objs.toList 0 .nil with
  | none=>none
  | some T=>match xm8 st (ok s₀.heap.objs.size (s₀.heap.nsMap mainGlobals "__annotations__")) through N ⟨T,s₀.heap.objs.size,s₀.heap.life,s₀.gens,s₀.drawn,s₀.toks,s₀.os⟩ (topStub p) with
   | none=>none
   | some s₁=>some (s₀,s₁)
def yz1 {β:Type}:Nat->List β->List β
 | 0,_=>[]
 | _+1,[]=>[]
 | n+1,x::l=>x::yz1 n l
def yh9 {β:Type}:Nat->List β->List β
 | 0,l=>l
 | _+1,[]=>[]
 | n+1,_::l=>yh9 n l
theorem yn7 {β:Type}:∀(n:Nat) (l:List β),yz1 n l=l.take n
 | 0,_=>rfl
 | _+1,[]=>rfl
 | n+1,x::l=>congrArg (x :: ·) (yn7 n l)
theorem ze8 {β:Type}:∀(n:Nat) (l:List β),yh9 n l=l.drop n
 | 0,_=>rfl
 | _+1,[]=>rfl
 | n+1,_::l=>ze8 n l
theorem leftC {p q:gf}{Xt:fZ->Bool}{β:Type}{Yf:fZ->List β}{Ya:gp->List β}(n:Nat)(e:opening p=plainProg p.main.scope.names)(hN:Nat.ble 600 N=true)(f:∀s,fenceModules? p s=some s)
  (hA:∀w os,(xg9 (some ⟨boot_heap w.params,Array.mk [],boot_drawn,boot_toks,os⟩) (stepT (denote treeTable) p w) stepOk p N).map (λr=>(r.1.heap.isNs mainGlobals&&r.1.gens.size==0,staticsOk (importedModules p.main.body) r.1.heap r.2.abs.heap&&namesBound p r.2.abs.heap&&gensDone r.2.abs&&laidKept r.1.heap r.2.abs.heap,openSeen q loose (importedModules p.main.body) Xt g0 r.2.abs))=some (true,true,openGood q loose))
  (hB:∀w os,(xg9 (some ⟨boot_heap w.params,Array.mk [],boot_drawn,boot_toks,os⟩) (stepT (denote treeTable) p w) stepOk p N).map (λr=>(Yf r.2.abs).take n)=some (yz1 n (Ya w)))
  (hC:∀w os,(xg9 (some ⟨boot_heap w.params,Array.mk [],boot_drawn,boot_toks,os⟩) (stepT (denote treeTable) p w) stepOk p N).map (λr=>((Yf r.2.abs).drop n).take n)=some (yz1 n (yh9 n (Ya w))))
  (hD:∀w os,(xg9 (some ⟨boot_heap w.params,Array.mk [],boot_drawn,boot_toks,os⟩) (stepT (denote treeTable) p w) stepOk p N).map (λr=>((Yf r.2.abs).drop n).drop n)=some (yh9 n (yh9 n (Ya w)))):LeftO p q loose Xt Yf Ya N g0:=λw=>by
 obtain⟨s₀,hs,hv⟩:=cU.mp (boot_open e hN f w)
 have es:(⟨boot_heap w.params,Array.mk [],boot_drawn,boot_toks,s₀.os⟩:fZ)=s₀:=by
  obtain⟨h1,h2⟩:=Prod.mk.inj hv
  obtain⟨h2,h3⟩:=Prod.mk.inj h2
  obtain⟨h3,h4⟩:=Prod.mk.inj h3
  rw[←h1,←h2,←h3,←h4]
 have a:=hA w s₀.os
 have b:=hB w s₀.os
 have c:=hC w s₀.os
 have d:=hD w s₀.os
 rw[es]at a b c d
 clear es hv
 unfold openEnds
 rw[hs]
 unfold xg9 at a b c d
 dsimp only at a b c d
 cases ht:zl1 s₀.heap.objs.toList 0 .nil with
 | none=>rw[ht]at a;cases a
 | some T =>
  rw[ht]at a b c d
  dsimp only at a b c d
  cases hr:xm8 (stepT (denote treeTable) p w) (stepOk s₀.heap.objs.size (s₀.heap.nsMap mainGlobals "__annotations__")) through N ⟨T,s₀.heap.objs.size,s₀.heap.life,s₀.gens,s₀.drawn,s₀.toks,s₀.os⟩ (topStub p) with
  | none=>rw[hr]at a;cases a
  | some s₁ =>
   rw[hr]at a b c d
   have a:=Option.some.inj a
   have b:=Option.some.inj b
   have c:=Option.some.inj c
   have d:=Option.some.inj d
   dsimp only at a b c d
   rw[yn7]at b c
   rw[ze8]at c
   rw[ze8,ze8]at d
   have c':(Yf s₁.abs).drop n=(Ya w).drop n:=by rw[←bM n ((Yf s₁.abs).drop n),c,d,bM]
   have b':Yf s₁.abs=Ya w:=by rw[←bM n (Yf s₁.abs),b,c',bM]
   have e1:=(Prod.mk.inj a).1
   have e2:=(Prod.mk.inj (Prod.mk.inj a).2).1
   have e3:=(Prod.mk.inj (Prod.mk.inj a).2).2
   have r:=yx8 hr
   have ab:(SharedT.mk T s₀.heap.objs.size s₀.heap.life s₀.gens s₀.drawn s₀.toks s₀.os).abs=s₀:=by
    show Shared.mk (absHeap T s₀.heap.objs.size s₀.heap.life) s₀.gens s₀.drawn s₀.toks s₀.os=s₀
    rw[yn8 ht]
   rw[ab]at r
   show Option.map _ (topFrom treeTable p w N s₀)=_
   unfold topFrom
   rw[e1]
   dsimp only
   rw[r]
   show Option.map _ (match staticsOk (importedModules p.main.body) s₀.heap s₁.abs.heap&&namesBound p s₁.abs.heap&&gensDone s₁.abs&&laidKept s₀.heap s₁.abs.heap with|true=>some s₁.abs|false=>none)=_
   rw[e2]
   exact congrArg some (Prod.ext e3 b')
end Tb
section
open PySem PySem.W PyProof.Rows
namespace Tb
def seenQ:gf:=view PySem.Challenge.pw_turnbase_k53_fixing [0,2,3,4,5,6,7,8,9,11,12,13,14,15,16,17,18,19,21,22,23,24,25,26,28,29,30,31,33,34,35,36,37,38,39,40,41,43,44,45,46,47,49,50,52,53,54,55,56,57,58,59,60]
end Tb
local macro_rules | `(tactic| o_head $H:term)=>`(tactic| refine W.holds_open (q:=Tb.seenQ) (loose:=[PySem.Str.ofString "NUMBERS_OF"]) (Xt:=λs=>xlAt Tb.seenQ [] s&&recOk (RowW.records (OpenRow.toRowW PySem.Challenge.rw_turnbase_k53_fixing.row)) s) (XP:=XL Tb.seenQ []) (Yf:=Hook.obs $H) (Ya:=Hook.val $H) (YP:=Hook.says $H) (N:=10760) ?hl (Hook.of $H) (Hook.keeps $H) (λs e=>xl_of s (Bool.and_eq_true_iff.mp e).1) XL.keeps (by rfl) (by rfl) (by rfl) (λs e=>recFacts_of (Bool.and_eq_true_iff.mp e).2) (by rfl) (by assumption) (by decide +kernel) ⟨rfl,rfl,rfl,rfl,rfl,by decide +kernel⟩ ?hw ?hc)
set_option maxRecDepth 100000 in
set_option maxHeartbeats 0 in
def Tb.early:PSigma (λT:(gp->OsState->Prop)×(gp->OsState->Prop)×(gp->OsState->Prop)×(gp->OsState->Prop)×Prop=>(∀w os,T.1 w os)->(∀w os,T.2.1 w os)->(∀w os,T.2.2.1 w os)->(∀w os,T.2.2.2.1 w os)->T.2.2.2.2->PySem.Challenge.rw_turnbase_k53_fixing.Holds):=by
 refine⟨((?A:gp->OsState->Prop),(?B:gp->OsState->Prop),(?C:gp->OsState->Prop),(?D:gp->OsState->Prop),?T),λha hb hc hd he=>?m⟩
 (case m =>
  w_on;refine W.holds_law (by kernel_rfl) λsaid=>?_;k_head
  (case hl =>
  refine Tb.leftC (β:=Option Obj) 190 (by kernel_rfl) (by decide) (λs=>by kernel_rfl) ?_ ?_ ?_ ?_ <;> intro w os <;> (try unfold Tb.seenQ) <;> (repeat (first|rw[PySem.W.Fast.te10274390034422433532]|rw[PySem.W.Fast.te14289696077712309145]|rw[PySem.W.Fast.te10156331382660048174]|rw[PySem.W.Fast.te6613529449190102663]|rw[PySem.W.Fast.te11892475500146522536]|rw[PySem.W.Fast.te4187177175401517315]|rw[PySem.W.Fast.te14364793385576792824]|rw[PySem.W.Fast.te1435165496053646825]|rw[PySem.W.Fast.te5923862056798008813]))
  .exact ha w os
  .exact hb w os
  .exact hc w os
  .exact hd w os)
  (case hw=>w_witness2)
  k_fill
  exact he)
set_option maxRecDepth 100000 in
set_option maxHeartbeats 0 in
theorem Tb.early2f:∀w a,Tb.early.1.1 (World.withFollow w "special-get-raises" false) a:=by
 intro w a;change _=_;kernel_rfl
set_option maxRecDepth 100000 in
set_option maxHeartbeats 0 in
theorem Tb.early2t:∀w a,Tb.early.1.1 (World.withFollow w "special-get-raises" true) a:=by
 intro w a;change _=_;kernel_rfl
set_option maxRecDepth 100000 in
set_option maxHeartbeats 0 in
theorem Tb.early3f:∀w a,Tb.early.1.2.1 (World.withFollow w "special-get-raises" false) a:=by
 intro w a;change _=_;kernel_rfl
set_option maxRecDepth 100000 in
set_option maxHeartbeats 0 in
theorem Tb.early3t:∀w a,Tb.early.1.2.1 (World.withFollow w "special-get-raises" true) a:=by
 intro w a;change _=_;kernel_rfl
set_option maxRecDepth 100000 in
set_option maxHeartbeats 0 in
theorem Tb.early4f:∀w a,Tb.early.1.2.2.1 (World.withFollow w "special-get-raises" false) a:=by
 intro w a;change _=_;kernel_rfl
set_option maxRecDepth 100000 in
set_option maxHeartbeats 0 in
theorem Tb.early4t:∀w a,Tb.early.1.2.2.1 (World.withFollow w "special-get-raises" true) a:=by
 intro w a;change _=_;kernel_rfl
set_option maxRecDepth 100000 in
set_option maxHeartbeats 0 in
theorem Tb.early5f:∀w a,Tb.early.1.2.2.2.1 (World.withFollow w "special-get-raises" false) a:=by
 intro w a;change _=_;kernel_rfl
set_option maxRecDepth 100000 in
set_option maxHeartbeats 0 in
theorem Tb.early5t:∀w a,Tb.early.1.2.2.2.1 (World.withFollow w "special-get-raises" true) a:=by
 intro w a;change _=_;kernel_rfl
theorem Tb.early2:∀w a,Tb.early.1.1 w a:=by
 intro w a;obtain⟨b,c⟩:∃b,w.withFollow "special-get-raises" b=w:=⟨_,World.withFollow_self w _⟩;rw[←c]
 cases b
 .exact Tb.early2f w a
 .exact Tb.early2t w a
theorem Tb.early3:∀w a,Tb.early.1.2.1 w a:=by
 intro w a;obtain⟨b,c⟩:∃b,w.withFollow "special-get-raises" b=w:=⟨_,World.withFollow_self w _⟩;rw[←c]
 cases b
 .exact Tb.early3f w a
 .exact Tb.early3t w a
theorem Tb.early4:∀w a,Tb.early.1.2.2.1 w a:=by
 intro w a;obtain⟨b,c⟩:∃b,w.withFollow "special-get-raises" b=w:=⟨_,World.withFollow_self w _⟩;rw[←c]
 cases b
 .exact Tb.early4f w a
 .exact Tb.early4t w a
theorem Tb.early5:∀w a,Tb.early.1.2.2.2.1 w a:=by
 intro w a;obtain⟨b,c⟩:∃b,w.withFollow "special-get-raises" b=w:=⟨_,World.withFollow_self w _⟩;rw[←c]
 cases b
 .exact Tb.early5f w a
 .exact Tb.early5t w a
end
set_option Elab.async false
set_option linter.all false
set_option maxRecDepth 100000
namespace L2
open PySem PySem.Spec PyProof.Rows
abbrev Key:=Sum Int Str
def zr3 : Key -> Value -> Bool
  | .inl k,v=>Value.isInt k v
  | .inr x,v=>Value.isStrOf x v
def wh5 (w : gp) : Key -> Int
  | .inl k=>hashInt k
  | .inr x=>hashStr w x
theorem g9 : ∀{k : Key} {v : Value}, zr3 k v = true -> (∃i t, k = Sum.inl i /\ v = Value.int i t)∨(∃x t, k = Sum.inr x /\ v = Value.str x t)
  | .inl i,v,h=>by
    obtain⟨t,e⟩:=Value.isInt_shape (k:=i) (v:=v) h
    exact .inl ⟨i,t,rfl,e⟩
  | .inr x,v,h=>by
    obtain⟨t,e⟩:=Value.isStrOf_shape (x:=x) (v:=v) h
    exact .inr ⟨x,t,rfl,e⟩
theorem xb8 (i:Int)(t:Tok):zr3 (.inl i) (.int i t)=true:=by simp[zr3,Value.isInt]
theorem xb9 (x:Str)(t:Tok):zr3 (.inr x) (.str x t)=true:=by simp[zr3,Value.isStrOf]
theorem xy5 (a b:Int):decide ((Sum.inl a:Key)=Sum.inl b)=(a==b):=by
  by_cases e:a=b
  . subst e;simp
  . have h : ¬(Sum.inl a : Key) = Sum.inl b := λq => e (Sum.inl.inj q);rw[decide_eq_false h];exact(beq_eq_false_iff_ne.mpr e).symm
theorem xy8 (a b:Str):decide ((Sum.inr a:Key)=Sum.inr b)=decide (a=b):=by
  by_cases e:a=b
  . subst e;simp
  . have h : ¬(Sum.inr a : Key) = Sum.inr b := λq => e (Sum.inr.inj q);rw[decide_eq_false h,decide_eq_false e]
theorem xy6 (a:Int)(b:Str):decide ((Sum.inl a:Key)=Sum.inr b)=false:=decide_eq_false (λq=>nomatch q)
theorem xy7 (a:Str)(b:Int):decide ((Sum.inr a:Key)=Sum.inl b)=false:=decide_eq_false (λq=>nomatch q)
def g7 (prog:gf)(w:gp):PySem.KeyKind prog w Key where
  is:=zr3
  hash:=wh5 w
  inj:=λv a b ha hb=>by
    rcases g9 ha with⟨i,t,rfl,rfl⟩|⟨x,t,rfl,rfl⟩
    . rcases g9 hb with⟨j, u, rfl, e⟩|⟨y, u, rfl, e⟩
      . injection e with e1 _;rw[e1]
      . exact nomatch e
    . rcases g9 hb with⟨j, u, rfl, e⟩|⟨y, u, rfl, e⟩
      . exact nomatch e
      . injection e with e1 _;rw[e1]
  byValue:=λk v h=>by
    rcases g9 h with⟨i,t,rfl,rfl⟩|⟨x,t,rfl,rfl⟩ <;> rfl
  pyHash:=λhv h=>by
    rcases g9 hv with⟨i,t,rfl,rfl⟩|⟨x,t,rfl,rfl⟩
    . exact wpAny_pyHash_int h
    . exact wpAny_pyHash_str h
  eqBool:=λhu hv h=>by
    rcases g9 hu with⟨i,t,rfl,rfl⟩|⟨x,t,rfl,rfl⟩
    . rcases g9 hv with⟨j, u, rfl, rfl⟩|⟨y, u, rfl, rfl⟩
      . rw[xy5]at h;exact wpAny_eqBool_int h
      . rw[xy6]at h;exact SeqAt.EqAt.int_str i t y u _ _ _ _ h
    . rcases g9 hv with⟨j, u, rfl, rfl⟩|⟨y, u, rfl, rfl⟩
      . rw[xy7]at h;exact SeqAt.EqAt.str_int x t j u _ _ _ _ h
      . rw[xy8]at h;exact wpAny_eqBool_str h
  «strs»:=λk x t v h=>by
    rcases g9 h with⟨i,u,rfl,e⟩|⟨y,u,rfl,e⟩
    . exact nomatch e
    . injection e with e1 _
      subst e1
      cases v <;> rfl
theorem yj4 (prog:gf)(w:gp)(i:Int)(t:Tok):(g7 prog w).is (.inl i) (.int i t)=true:=xb8 i t
theorem yj5 (prog:gf)(w:gp)(x:Str)(t:Tok):(g7 prog w).is (.inr x) (.str x t)=true:=xb9 x t
inductive V where
  | non|bl (b:Bool)|int (i:Int)|str (x:Str)|byt (b:Array UInt8)|flt (b:UInt64)|ref (a:Addr)|ty (n:String)
  deriving DecidableEq
def p8 : V -> Value -> Prop
  | .non,u=>u=Value.none
  | .bl b,u=>u=Value.bool b
  | .int i,u=>∃t,u=Value.int i t
  | .str x,u=>∃t,u=Value.str x t
  | .byt b,u=>∃t,u=Value.bytes b t
  | .flt b,u=>∃t,u=Value.float b t
  | .ref a,u=>u=Value.ref a
  | .ty n,u=>u=Value.type n
abbrev r8:List V->List Value->Prop:=Paired p8
theorem r8.length {xs:List V}{us:List Value}(r:r8 xs us):xs.length=us.length:=Paired.length r
theorem r8.get : ∀{xs : List V} {us : List Value} {i : Nat} {x : V}, r8 xs us -> xs[i]? = some x -> ∃u, us[i]? = some u /\ p8 x u
  | _,_,_,_,.nil,e=>by simp at e
  | _,_,0,_,.cons r _,e=>by simp at e;subst e;exact⟨_,rfl,r⟩
  | _,_,i+1,x,.cons _ t,e=>by
    obtain⟨u,h1,h2⟩:=r8.get (i:=i) (x:=x) t (by simpa using e)
    exact⟨u,by simpa using h1,h2⟩
theorem r8.set (r : p8 x u) : ∀{xs : List V} {us : List Value} (i : Nat), r8 xs us -> r8 (xs.set i x) (us.set i u)
  | _,_,_,.nil=>.nil
  | _,_,0,.cons _ t=>.cons r t
  | _,_,i+1,.cons q t=>.cons q (r8.set r i t)
theorem r8.append : ∀{xs ys : List V} {us ws : List Value}, r8 xs us -> r8 ys ws -> r8 (xs ++ ys) (us ++ ws)
  | _,_,_,_,.nil,s=>s
  | _,_,_,_,.cons r t,s=>.cons r (r8.append t s)
theorem r8.take : ∀{xs : List V} {us : List Value} (n : Nat), r8 xs us -> r8 (xs.take n) (us.take n)
  | _,_,0,_=>.nil
  | _,_,_+1,.nil=>.nil
  | _,_,n+1,.cons r t=>.cons r (r8.take n t)
theorem r8.drop : ∀{xs : List V} {us : List Value} (n : Nat), r8 xs us -> r8 (xs.drop n) (us.drop n)
  | _,_,0,r=>r
  | _,_,_+1,.nil=>.nil
  | _,_,n+1,.cons _ t=>r8.drop n t
def za7 : Option V -> Option Value -> Prop
  | some v,some u=>p8 v u
  | none,none=>True
  | _,_=>False
def KV {κ:Type}:List (κ×V)->List (κ×Value)->Prop:=Paired λ(p:κ×V) (q:κ×Value)=>p.1=q.1/\p8 p.2 q.2
def kV : Key -> V
  | .inl i=>.int i
  | .inr x=>.str x
inductive HO where
  | lst (xs:List V)
  | tup (xs:List V)
  | dK (kvs:List (Key×V))|dT (kvs:List (List Key×V))
  | set (S:Int->Bool) (n:Nat)
  | ins (C dx:Addr) (fs:List (Str×V))
  | own (x:Addr)
  | xd (fs:List (Str×V))
  | met (f x:Addr)
  | rng (lo hi:Int)
  | frz (o:Obj) (u:HO)
  | tbl (ps:Array Value)
  | ext (φ:Heap->Prop)
abbrev Hp:=Addr->Option HO
def upd (H:Hp)(a:Addr)(o:HO):Hp:=λb=>if b=a then some o else H b
theorem z4 :upd H a o a=some o:=by unfold upd;rw[if_pos rfl]
theorem z6 (h:b≠a):upd H a o b=H b:=by unfold upd;rw[if_neg h]
theorem l8 {H:Hp}(h:H a=some o)(h':H b=some u)(d:o≠u):a≠b:=by
  intro e;subst e;rw[h]at h';exact d (Option.some.inj h')
theorem z9 {H:Hp}(h:H a=some o)(h':H b=none):a≠b:=by
  intro e;subst e;rw[h]at h';cases h'
def yb3 (h:Heap)(a:Addr)(items:Array Value):Prop:=∃o,h.get? a=some o/\o.cls=.type "tuple"/\∃n,o.data=.seq items n/\o.dict=none
theorem yb3.new (h:Heap)(items:Array Value):yb3 (h.push { cls:=.type "tuple",data:=.seq items }) h.objs.size items:=⟨_,aC _ rfl,rfl,_,rfl,rfl⟩
theorem yb3.is (x:yb3 h a items):IsTup h a items:=let ⟨o,h1,h2,n,h3,_⟩:=x;⟨o,h1,h2,n,h3⟩
section
variable (P:gf)(w:gp)
def n6 (H : Hp)(h : Heap)(a : Addr) : HO -> Prop
  | .lst xs=>xs.length<=ge/\∃(its:List Value) (n:Nat),r8 xs its/\h.get? a=some { cls:=.type "list",data:=.seq its.toArray n }
  | .tup xs=>xs.length<=ge/\∃its:List Value,r8 xs its/\yb3 h a its.toArray
  | .dK kvs=>kvs.length<=ge/\(a==sysModules)=false/\∃vs,KV kvs vs/\h.DictOf (g7 P w) a vs
  | .dT kvs=>kvs.length<=ge/\(a==sysModules)=false/\∃xs:List (List Key×Addr×Value),
      Paired (λ(p:List Key×V) (q:List Key×Addr×Value)=>p.1=q.1/\H q.2.1=some (.tup (p.1.map kV))/\p8 p.2 q.2.2) kvs xs /\
      ∃o es ep,h.get? a=some o/\o.ExactDict/\o.data=.dict es ep/\es.toList=xs.map (entryOfKey (tupleKind (g7 P w)))/\(xs.map (·.1)).Nodup
  | .set S n=>h.SetOf (intKind P w) a S n
  | .ins C dx fs=>H dx=some (.own a)/\fs.length<=1000/\dx≠a/\h.get? a=some (W.instObj C dx) /\
      ∃mA,h.Ns1 dx mA/\(∀f,za7 (fs.lookup f) (mA f))/\PySem.Within mA (fs.map (·.1))
  | .own _=>∃o,h.get? a=some o
  | .xd fs=>∃mA,h.Ns1 a mA/\∀f,za7 (fs.lookup f) (mA f)
  | .rng lo hi=>∃t u v,h.get? a=some { cls:=.type "range",data:=.fields #[.int lo t,.int hi u,.int 1 v] }
  | .frz o u=>h.get? a=some o/\n6 H h a u
  | .tbl ps=>h.get? a=some { cls:=.none,data:=.fields ps }
  | .met f x=>h.get? a=some (W.methodObj (.ref f) (.ref x))
  | .ext φ=>φ h/\(∃o,h.get? a=some o)/\∀h1 h2:Heap,φ h1->(∀o,h1.get? a=some o->h2.get? a=some o)->φ h2
def HOk (H:Hp)(h:Heap):Prop:=∀a o,H a=some o->n6 P w H h a o
end
section
variable {P:gf}{w:gp}{H H':Hp}{h h':Heap}{a:Addr}{o:HO}
theorem n6.lt (x:n6 P w H h a o):a<h.objs.size:=by
  cases o with
  | lst xs=>obtain⟨_,_,_,_,e⟩:=x;exact aB e
  | tup xs=>obtain⟨_,_,_,p⟩:=x;exact p.is.lt
  | dK kvs=>obtain⟨_,_,_,_,o,_,_,e,_⟩:=x;exact aB e
  | dT kvs=>obtain⟨_,_,_,_,o,_,_,e,_⟩:=x;exact aB e
  | set S n=>obtain⟨o,_,_,_,e,_⟩:=x;exact aB e
  | ins C dx fs=>obtain⟨_,_,_,e,_⟩:=x;exact aB e
  | own y=>obtain⟨_,e⟩:=x;exact aB e
  | xd fs=>obtain⟨_,⟨_,_,_,e,_⟩,_⟩:=x;exact aB e
  | rng lo hi=>obtain⟨_,_,_,e⟩:=x;exact aB e
  | frz ob u=>obtain⟨e,_⟩:=x;exact aB e
  | tbl ps=>exact aB (show h.get? a=some _ from x)
  | met f y=>exact aB (show h.get? a=some _ from x)
  | ext φ=>obtain⟨_,⟨_,e⟩,_⟩:=x;exact aB e
theorem Paired.mapP {α β : Type}{F G : α -> β -> Prop} : ∀{l₁ : List α} {l₂ : List β}, Paired F l₁ l₂ -> (∀a b, F a b -> G a b) -> Paired G l₁ l₂
  | _,_,.nil,_=>.nil
  | _,_,.cons r t,f=>.cons (f _ _ r) (Paired.mapP t f)
theorem Paired.imp' {α β:Type}{F G:α->β->Prop}(f:∀a b,F a b->G a b){l₁:List α}{l₂:List β}(r:Paired F l₁ l₂):Paired G l₁ l₂:=Paired.mapP r f
theorem n6.stay (x : n6 P w H h a o)(k : ∀b u, (b = a∨H b = some (.own a)) -> h.get? b = some u -> h'.get? b = some u)
    (m:∀b,H b=some (.own a)->H' b=some (.own a)) (s:∀b xs,H b=some (.tup xs)->H' b=some (.tup xs)):n6 P w H' h' a o:=by
  induction o with
  | lst xs=>obtain⟨z,j,n,r,e⟩:=x;exact⟨z,j,n,r,k _ _ (.inl rfl) e⟩
  | tup xs=>obtain⟨z,j,r,g,e,c⟩:=x;exact⟨z,j,r,g,k _ _ (.inl rfl) e,c⟩
  | dK kvs=>obtain⟨z,y,B,r,g,es,i,e,c⟩:=x;exact⟨z,y,B,r,g,es,i,k _ _ (.inl rfl) e,c⟩
  | dT kvs =>
    obtain⟨z,y,xs,r,g,es,i,e,c⟩:=x;exact⟨z,y,xs,Paired.mapP r λp q z=>⟨z.1,s _ _ z.2.1,z.2.2⟩,g,es,i,k _ _ (.inl rfl) e,c⟩
  | set S n=>obtain⟨g,es,i,t,e,c⟩:=x;exact⟨g,es,i,t,k _ _ (.inl rfl) e,c⟩
  | ins C dx fs =>
    obtain⟨d,z,A,e,mA,⟨od,es,i,l,c⟩,r⟩:=x;exact⟨m _ d,z,A,k _ _ (.inl rfl) e,mA,⟨od,es,i,k _ _ (.inr d) l,c⟩,r⟩
  | own y=>obtain⟨g,e⟩:=x;exact⟨g,k _ _ (.inl rfl) e⟩
  | xd fs=>obtain⟨mA,⟨od,es,i,e,c⟩,r⟩:=x;exact⟨mA,⟨od,es,i,k _ _ (.inl rfl) e,c⟩,r⟩
  | rng lo hi=>obtain⟨t,u,v,e⟩:=x;exact⟨t,u,v,k _ _ (.inl rfl) e⟩
  | frz g u ih=>obtain⟨e,q⟩:=x;exact⟨k _ _ (.inl rfl) e,ih q⟩
  | tbl ps =>
    have e:h.get? a=some { cls:=.none,data:=.fields ps }:=x;show h'.get? a=some { cls:=.none,data:=.fields ps };exact k a _ (.inl rfl) e
  | met f y =>
    have e:h.get? a=some (W.methodObj (.ref f) (.ref y)):=x;show h'.get? a=some (W.methodObj (.ref f) (.ref y));exact k a _ (.inl rfl) e
  | ext φ=>obtain⟨p,⟨o,e⟩,st⟩:=x;exact⟨st _ _ p λo q=>k _ _ (.inl rfl) q,⟨o,k _ _ (.inl rfl) e⟩,st⟩
theorem HOk.lt (x:HOk P w H h)(e:H a=some o):a<h.objs.size:=(x a o e).lt
theorem HOk.fresh (x:HOk P w H h)(e:h.objs.size<=a):H a=none:=by
  cases q:H a with
  | none=>rfl
  | some u=>exact absurd (aM (x.lt q) e) (aO _)
theorem HOk.kept (x:HOk P w H h)(k:∀b u,h.get? b=some u->h'.get? b=some u):HOk P w H h':=λa o e =>
  (x a o e).stay (λb u _ q=>k b u q) (λ_ q=>q) λ_ _ q=>q
theorem HOk.laid (x:HOk P w H h)(k:∀b u,h.get? b=some u->h'.get? b=some u)(hp:h.objs.size<=a)(new:n6 P w (upd H a o) h' a o):HOk P w (upd H a o) h':=λb u e=>by
  have hn:=x.fresh hp
  by_cases hb:b=a
  . subst hb;rw[z4]at e;cases e;exact new
  . rw[z6 hb]at e
    exact(x b u e).stay (λc v _ q=>k c v q) (λc q=>by rw[z6 (z9 q hn)];exact q) λc xs q=>by rw[z6 (z9 q hn)];exact q
end
def Rd (H:Hp)(a:Addr)(u:HO):Prop:=H a=some u∨∃o,H a=some (.frz o u)
theorem Rd.ok (r:Rd H a u)(x:HOk P w H h):n6 P w H h a u:=by
  rcases r with r|⟨o,r⟩
  . exact x a u r
  . obtain⟨_, q⟩ := x a _ r;exact q
def Mut : Option HO -> Prop
  | some (.lst _)=>True
  | some (.dK _)=>True
  | some (.dT _)=>True
  | some (.set _ _)=>True
  | some (.ins _ _ _)=>True
  | some (.ext _)=>True
  | _=>False
section
variable {P:gf}{w:gp}{H:Hp}{h h':Heap}{x e:Addr}{o':HO}
theorem HOk.write (ok : HOk P w H h)(mu : Mut (H x))(he : e = x∨H e = some (.own x))(k : ∀b u, b ≠ e -> h.get? b = some u -> h'.get? b = some u)(heo : ∃u, h'.get? e = some u)
    (new:n6 P w (upd H x o') h' x o'):HOk P w (upd H x o') h':=λb u q=>by
  have nown:∀c y,H c=some (.own y)->c≠x:=λc y r z=>by subst z;rw[r]at mu;exact mu
  have ntup:∀c xs,H c=some (.tup xs)->c≠x:=λc xs r z=>by subst z;rw[r]at mu;exact mu
  by_cases hb:b=x
  . subst hb;rw[z4]at q;cases q;exact new
  . rw[z6 hb]at q
    by_cases hbe:b=e
    . have q':H b=some (.own x):=by
        rcases he with z|z
        . exact absurd (hbe.trans z) hb
        . rw[hbe];exact z
      rw[q]at q';cases q'
      obtain⟨v,hv⟩:=heo
      exact⟨v,by rw[hbe];exact hv⟩
    . refine(ok b u q).stay (λc v hc r => k c v ?_ r) (λc r => by rw[z6 (nown c b r)]; exact r) λc xs r => by rw[z6 (ntup c xs r)]; exact r
      rcases hc with rfl|hc
      . exact hbe
      . rintro rfl
        rcases he with z|z
        . exact nown c b hc z
        . rw[hc]at z;cases z;exact hb rfl
end
structure Un (fs ex:List Addr) (H H':Hp) (h h':Heap):Prop where
  keep:∀b o,h.get? b=some o->H b=none->b∉fs->b∉ex->h'.get? b=some o
  slot:∀b o,h.get? b=some o->H b=none->b∈fs->b∉ex->∃sl,h'.get? b=some { o with slots:=sl }
  free:∀b o,h.get? b=some o->H b=none->b∉ex->H' b=none
  there:∀b o,h.get? b=some o->b∉ex->∃o',h'.get? b=some o'
  tups:∀b xs,H b=some (.tup xs)->H' b=some (.tup xs)
  frzs:∀b o u,H b=some (.frz o u)->H' b=some (.frz o u)
  tbls:∀b ps,H b=some (.tbl ps)->∃more,H' b=some (.tbl (ps++more))
section
variable {fs fs' ex ex':List Addr}{H H1 H2:Hp}{h h1 h2 h':Heap}{a x e:Addr}{o:HO}
theorem Un.any (u:Un fs ex H H1 h h1){a:Obj}(q:h.get? b=some a)(n:H b=none)(d:b∉ex):∃sl,h1.get? b=some { a with slots:=sl }:=by
  by_cases c:b∈fs
  . exact u.slot b a q n c d
  . exact⟨a.slots,u.keep b a q n c d⟩
theorem Un.kept (k:∀b u,h.get? b=some u->h'.get? b=some u):Un fs ex H H h h' :=
  ⟨λb ob q _ _ _=>k b ob q,λb ob q _ _ _=>⟨ob.slots,k b ob q⟩,λ_ _ _ n _=>n,λb ob q _=>⟨ob,k b ob q⟩,λ_ _ q=>q,λ_ _ _ q=>q,λ_ ps q=>⟨#[],by rw[q];simp⟩⟩
theorem Un.refl:Un fs ex H H h h:=Un.kept λ_ _ q=>q
theorem Un.laid (k:∀b u,h.get? b=some u->h'.get? b=some u)(hp:h.objs.size<=a)(hn:H a=none):Un fs ex H (upd H a o) h h' where
  keep:=λb u q _ _ _=>k b u q
  slot:=λb u q _ _ _=>⟨u.slots,k b u q⟩
  free:=λb u q n _=>by rw[z6 (aX (aM (aB q) hp))];exact n
  there:=λb u q _=>⟨u,k b u q⟩
  tups:=λb xs q=>by rw[z6 (z9 q hn)];exact q
  frzs:=λb u xs q=>by rw[z6 (z9 q hn)];exact q
  tbls:=λb ps q=>⟨#[],by rw[z6 (z9 q hn),q];simp⟩
theorem Un.write (c:Mut (H x))(j:e=x∨H e=some (.own x))(k:∀b u,b≠e->h.get? b=some u->h'.get? b=some u)(d:∃u,h'.get? e=some u):Un fs ex H (upd H x o) h h':=by
  have i:∀b,H b=none->b≠x:=λb n z=>by subst z;rw[n]at c;exact c
  have g:∀b,H b=none->b≠e:=λb n z=>by
    subst z;rcases j with r|r
    . exact i b n r
    . rw[n]at r;cases r
  have f:∀b u,H b=some u->¬Mut (some u)->b≠x:=λb u q l z=>by subst z;rw[q]at c;exact l c
  refine⟨λb u q n _ _=>k b u (g b n) q,λb u q n _ _=>⟨u.slots,k b u (g b n) q⟩,λb u q n _=>by rw[z6 (i b n)];exact n,λb u q _=>?_,
    λb xs q=>by rw[z6 (f b _ q λz=>z)];exact q,λb u xs q=>by rw[z6 (f b _ q λz=>z)];exact q,λb ps q=>⟨#[],by rw[z6 (f b _ q λz=>z),q];simp⟩⟩
  by_cases a:b=e
  . subst a;exact d
  . exact⟨u,k b u a q⟩
end
def trk (h:Heap)(H:Hp):List Addr:=(List.range h.objs.size).filter λa=>(H a).isSome
def yc8 (h:Heap)(H:Hp):Heap:=W.hideAll h (trk h H)
theorem xb4 (h:Heap)(H:Hp):(yc8 h H).objs.size=h.objs.size:=W.hideAll_size _ _
theorem xh5 {h:Heap}(e:h.get? b=some o)(n:H b=none):(yc8 h H).get? b=some o :=
  W.hideAll_get _ e λhm=>by
    have q:(H b).isSome=true:=(cP.mp hm).2
    rw[n]at q;simp at q
theorem xs4 {h:Heap}(e:(yc8 h H).get? b=some o):h.get? b=some o/\H b=none:=by
  have a:h.get? b=some o:=W.of_hideAll (trk h H) e;refine⟨a,?_⟩
  cases q:H b with
  | none=>rfl
  | some x =>
    have c:b∈trk h H:=cP.mpr ⟨cr.mpr (aB a),by simp[q]⟩;have z:(yc8 h H).get? b=none:=W.hideAll_none (trk h H) c;rw[z]at e;cases e
def xq4 (g h:Heap)(L:Addr):List (Addr×Obj):=(List.range h.objs.size).filterMap λa=>if a=L∨(g.get? a).isSome=true then none else(h.get? a).map λo=>(a,o)
def R5 (g h:Heap)(L d:Addr):List (Addr×Obj):=(xq4 g h L).filter λp=>decide (p.1≠d)
structure Mod (K:W.Frag) (mg:Str->Option Value) (base:Heap):Prop where
  kin:K.In base
  glob:base.Ns mainGlobals mg
  blt:∃mb,base.Ns builtinsNs mb/\∀x:Str,x≠"__name__"->mb x=gv x
  nolimit:base.NoLimit
structure Cx where
  prog:gf
  w:gp
  K:W.Frag
  mg:Str->Option Value
  base:Heap
  A:gq
  N:List Str
  s₀:fZ
  H₀:Hp
  env:Env
  outer:List Env
  stack:List Env
  ex:List Addr
  fn:Str->Bool
  calm:Bool
  pn:List (Addr×Obj)
  xe:Value->fZ->Prop
def frs (l:List Env):List Addr:=l.filterMap (·.frame)
abbrev Cx.fs (X:Cx):List Addr:=frs X.outer
def Vis (sc:Scope)(x:Str):Prop:=sc.names.lookup x=some .local∨sc.names.lookup x=some .cell∨sc.names.lookup x=some .free
def Loc (sc:Scope)(x:Str):Prop:=sc.names.lookup x=some .local∨sc.names.lookup x=some .cell
def wg4 (env:Env)(h:Heap)(m:Str->Option Value)(x:Str)(u:Value):Prop :=
  (env.kindOf x=some .local/\m x=some u)∨((env.kindOf x=some .cell∨env.kindOf x=some .free)/\∃c,env.cells.lookup x=some c/\h.IsCell c (some u))
structure Cx.Ok (X:Cx):Prop where
  mod:Mod X.K X.mg X.base
  kind:X.env.scope.kind=.function
  glob:X.env.globals=mainGlobals
  blt:X.env.builtins=builtinsNs
  above:X.s₀.heap.objs.size<=X.env.locals
  inj:∀x y c,X.env.cells.lookup x=some c->X.env.cells.lookup y=some c->x=y
  has:∀x,(X.env.kindOf x=some .cell∨X.env.kindOf x=some .free)->∃c,X.env.cells.lookup x=some c
  cab:∀x c,X.fn x=true->X.env.cells.lookup x=some c->X.s₀.heap.objs.size<=c
  hd:X.calm=true->X.A.handled=none
  frames:X.A.frames=some X.stack
  stk:X.stack=X.outer∨(X.stack=X.env::X.outer/\X.env.frame=some X.env.locals)
  exf:∀b∈X.ex,b≠X.env.locals/\∀x c,X.env.cells.lookup x=some c->c≠b
  bs:∀b o,X.base.get? b=some o->X.s₀.heap.get? b=some o/\X.H₀ b=none
  bsz:X.base.objs.size<=X.s₀.heap.objs.size
  noex:∀b o,X.base.get? b=some o->b∉X.ex
  exfs:∀b∈X.ex,b∉X.fs
  funs:X.s₀.heap.FunFrames X.base X.outer
  frf:∀b∈X.fs,X.H₀ b=none
structure Inv (X:Cx) (pins:List (Addr×Obj)) (σ:List (Option V)) (H:Hp) (s:fZ):Prop where
  ok:X.Ok
  os:s.os=X.s₀.os
  bare:AllBare s.gens
  base:Un X.fs X.ex X.H₀ H X.s₀.heap s.heap
  loc:∃m,s.heap.Ns X.env.locals m/\∀(i:Nat) (x:Str) (v:V),X.N[i]?=some x->σ[i]?=some (some v)->Vis X.env.scope x->∃u,p8 v u/\wg4 X.env s.heap m x u
  cell:∀x c,X.env.cells.lookup x=some c->∃v,s.heap.IsCell c v
  free:H X.env.locals=none
  freeC:∀x c,X.env.cells.lookup x=some c->H c=none
  pin:∀p∈X.pn++pins,s.heap.get? p.1=some p.2/\H p.1=none/\p.1≠X.env.locals/\p.1∉X.fs/\∀v,p.2.data≠.cell v
  hok:HOk X.prog X.w H s.heap
  len:σ.length=X.N.length
section
variable {X:Cx}{pins:List (Addr×Obj)}{σ:List (Option V)}{H H':Hp}{s:fZ}{h':Heap}
theorem Cx.Ok.nofr (ok:X.Ok)(e:X.base.get? b=some o):b∉X.fs:=λhb=>by
  have:=(ok.funs.mem hb).1
  rw[e]at this;cases this
theorem Inv.bs (I:Inv X pins σ H s):∀b o,X.base.get? b=some o->s.heap.get? b=some o/\H b=none:=λb o e =>
  ⟨I.base.keep b o (I.ok.bs b o e).1 (I.ok.bs b o e).2 (I.ok.nofr e) (I.ok.noex b o e),I.base.free b o (I.ok.bs b o e).1 (I.ok.bs b o e).2 (I.ok.noex b o e)⟩
theorem Inv.bk (I:Inv X pins σ H s):∀b o,X.base.get? b=some o->s.heap.get? b=some o:=λb o e=>(I.bs b o e).1
theorem Inv.mod (I:Inv X pins σ H s):Mod X.K X.mg X.base:=I.ok.mod
theorem Inv.kIn (I:Inv X pins σ H s):X.K.In s.heap:=I.ok.mod.kin.keeps I.bk
theorem Inv.fr (I:Inv X pins σ H s):∃m,Fr X.base X.env.locals s.heap m :=
  let ⟨m,hn,_⟩:=I.loc
  ⟨m,hn,I.bk,aD I.ok.bsz I.ok.above⟩
theorem Inv.lt (I:Inv X pins σ H s):X.env.locals<s.heap.objs.size:=let ⟨_,hn,_⟩:=I.loc;hn.lt
theorem Inv.sz (I:Inv X pins σ H s):X.s₀.heap.objs.size<=s.heap.objs.size:=aD I.ok.above (bp I.lt)
theorem Inv.nofs (I:Inv X pins σ H s){a:Addr}(h:s.heap.objs.size<=a):a∉X.fs:=λhb=>by
  obtain⟨_,o,ho,_⟩:=I.ok.funs.mem hb
  exact absurd (aM (aB ho) (aD I.sz h)) (aO _)
theorem Inv.cne (I:Inv X pins σ H s):∀x c,X.env.cells.lookup x=some c->c≠X.env.locals:=λx c e z=>by
  obtain⟨v,o,ho,hd⟩:=I.cell x c e
  obtain⟨m,⟨o',es,ep,ho',hd',_⟩,_⟩:=I.loc
  rw[z,ho']at ho;cases ho;rw[hd']at hd;cases hd
theorem Inv.funs (I:Inv X pins σ H s):s.heap.FunFrames X.base X.outer:=by
  have all:∀(l:List Env),(∀b∈frs l,b∈X.fs)->X.s₀.heap.FunFrames X.base l->s.heap.FunFrames X.base l:=by
    intro l
    induction l with
    | nil=>intro _ _;trivial
    | cons env r ih =>
      intro f i;obtain⟨h,⟨L,o,d,j,k,g⟩,hr⟩:=i;have a:L∈X.fs:=f L (by unfold frs;rw[dZ,d];exact aw);obtain⟨sl,e⟩:=I.base.slot L o k (I.ok.frf L a) a λz=>I.ok.exfs L z a;exact⟨h,⟨L,_,d,j,e,g⟩,ih (λb c=>f b (by unfold frs;rw[dZ,d];exact ar _ c)) hr⟩
  exact all X.outer (λ_ c=>c) I.ok.funs
theorem Inv.stack (I:Inv X pins σ H s):s.heap.FunFrames X.base X.stack:=by
  rcases I.ok.stk with e|⟨e,a⟩
  . rw[e];exact I.funs
  . rw[e];obtain⟨m,b,_⟩:=I.loc;refine .cons (by rw[I.ok.kind];decide) a b ?_ I.funs;exact Heap.get?_none_of_le (aD I.ok.bsz I.ok.above)
theorem Inv.stkSub (I:Inv X pins σ H s):∀b∈frs X.stack,b∈X.env.locals::X.fs:=λb hb=>by
  rcases I.ok.stk with e|⟨e,hf⟩
  . rw[e]at hb;exact ar _ hb
  . rw[e]at hb
    unfold frs at hb
    rw[dZ,hf]at hb
    exact hb
theorem Inv.stkFree (I:Inv X pins σ H s):∀b∈frs X.stack,H b=none:=λb hb=>by
  rcases ax.mp (I.stkSub b hb) with e|hb
  . rw[e];exact I.free
  . obtain⟨_, o, ho, _⟩ := I.ok.funs.mem hb
    exact I.base.free b o ho (I.ok.frf b hb) λz=>I.ok.exfs b z hb
theorem Inv.step {ch : List Addr}(I : Inv X pins σ H s)
    (g:∀b∈ch,(b∈X.ex∨X.s₀.heap.objs.size<=b)/\b≠X.env.locals/\(∀x c,X.env.cells.lookup x=some c->c≠b)/\∀p∈X.pn++pins,p.1≠b)
    (keep:∀b o,b≠X.env.locals->b∉X.fs->b∉ch->s.heap.get? b=some o->H b=none->h'.get? b=some o)
    (y:∀b o,b≠X.env.locals->b∈X.fs->b∉ch->s.heap.get? b=some o->H b=none->∃sl,h'.get? b=some { o with slots:=sl }) (free:∀b o,b∉ch->s.heap.get? b=some o->H b=none->H' b=none)
    (there:∀b o,b∉ch->s.heap.get? b=some o->∃o',h'.get? b=some o')
    (G:∀b xs,H b=some (.tup xs)->H' b=some (.tup xs)) (D:∀b o u,H b=some (.frz o u)->H' b=some (.frz o u)) (F:∀b ps,H b=some (.tbl ps)->∃more,H' b=some (.tbl (ps++more)))
    (ns:∀m,s.heap.Ns X.env.locals m->h'.Ns X.env.locals m) (K:HOk X.prog X.w H' h') (R:AllBare g') :
    Inv X pins σ H' { s with heap:=h',gens:=g',drawn:=d',toks:=t' }:=by
  have E:∀b o,X.s₀.heap.get? b=some o->b≠X.env.locals:=λb o e=>aX (aM (aB e) I.ok.above)
  have t:∀b o,X.s₀.heap.get? b=some o->b∉X.ex->b∉ch:=λb o e a A=>by
    rcases (g b A).1 with z|z
    . exact a z
    . exact absurd (aM (aB e) z) (aO _)
  have f:∀x c,X.env.cells.lookup x=some c->∀v,s.heap.IsCell c v->h'.IsCell c v:=λx c e v ⟨o,B,J⟩=>by
    have h:c∉ch:=λz=>(g c z).2.2.1 x c e rfl
    by_cases M:c∈X.fs
    . obtain⟨sl, q⟩ := y c o (I.cne x c e) M h B (I.freeC x c e)
      exact⟨_,q,J⟩
    . exact⟨o,keep c o (I.cne x c e) M h B (I.freeC x c e),J⟩
  refine⟨I.ok,I.os,R,⟨λb o e n A a=>?_,λb o e n A a=>?_,λb o e n a=>?_,λb o e a=>?_,λb xs e=>G b xs (I.base.tups b xs e),λb o xs e=>D b o xs (I.base.frzs b o xs e),λb ps e=>?_⟩,?_,λx c e=>?_,?_,λx c e=>?_,λp N=>?_,K,I.len⟩
  . exact keep b o (E b o e) A (t b o e a) (I.base.keep b o e n A a) (I.base.free b o e n a)
  . obtain⟨sl, j⟩ := I.base.slot b o e n A a
    obtain⟨L,C⟩:=y b _ (E b o e) A (t b o e a) j (I.base.free b o e n a)
    exact⟨L,C⟩
  . obtain⟨o', j⟩ := I.base.there b o e a
    exact free b o' (t b o e a) j (I.base.free b o e n a)
  . obtain⟨o', j⟩ := I.base.there b o e a
    exact there b o' (t b o e a) j
  . obtain⟨U, j⟩ := I.base.tbls b ps e
    obtain⟨V,C⟩:=F b _ j
    exact⟨U++V,by rw[C,fB]⟩
  . obtain⟨m, T, S⟩ := I.loc
    refine⟨m,ns m T,λi x v j C Q=>?_⟩
    obtain⟨u,r,l⟩:=S i x v j C Q
    refine⟨u,r,?_⟩
    rcases l with l|⟨k,c,e,z⟩
    . exact .inl l
    . exact .inr ⟨k,c,e,f x c e _ z⟩
  . obtain⟨v, z⟩ := I.cell x c e
    exact⟨v,f x c e v z⟩
  . obtain⟨m, ⟨o, _, _, B, _⟩, _⟩ := I.loc
    exact free _ o (λz=>(g _ z).2.1 rfl) B I.free
  . obtain⟨v, o, B, J⟩ := I.cell x c e
    exact free c o (λz=>(g c z).2.2.1 x c e rfl) B (I.freeC x c e)
  . obtain⟨e, n, O, P, d⟩ := I.pin p N
    have h:p.1∉ch:=λz=>(g p.1 z).2.2.2 p N rfl
    exact⟨keep p.1 p.2 O P h e n,free p.1 p.2 h e n,O,P,d⟩
theorem Inv.un (I:Inv X pins σ H s)(u:Un X.fs [] H H' s.heap h')(g:HOk X.prog X.w H' h'):Inv X pins σ H' { s with heap:=h',toks:=t' }:=by
  obtain⟨m,⟨o,es,l,h,r⟩,_⟩:=id I.loc;obtain⟨sl,i⟩:=u.any h I.free (by simp);exact I.step (g':=s.gens) (d':=s.drawn) (ch:=[]) (λ_ z=>nomatch z) (λb o _ f _ e n=>u.keep b o e n f (by simp)) (λb o _ f _ e n=>u.slot b o e n f (by simp)) (λb o _ e n=>u.free b o e n (by simp)) (λb o _ e=>u.there b o e (by simp)) u.tups u.frzs u.tbls (λp j=>by
    obtain⟨o',d,c,a,k⟩:=j
    rw[h]at a;cases a
    exact⟨_,d,c,i,k⟩) g I.bare
theorem Inv.call (I : Inv X pins σ H s)(u : Un (frs X.stack) ch H H' s.heap h')(j : HOk X.prog X.w H' h')(q : AllBare g')
    (d:∀b∈ch,(b∈X.ex∨X.s₀.heap.objs.size<=b)/\b≠X.env.locals/\(∀x c,X.env.cells.lookup x=some c->c≠b)/\∀p∈X.pn++pins,p.1≠b) :
    Inv X pins σ H' { s with heap:=h',gens:=g',drawn:=d',toks:=t' }:=by
  obtain⟨m,⟨o,es,y,k,r⟩,_⟩:=id I.loc;obtain⟨sl,i⟩:=u.any k I.free λz=>(d _ z).2.1 rfl;exact I.step (ch:=ch) d (λb o i l a e n=>u.keep b o e n (λz=>(ax.mp (I.stkSub b z)).elim i l) a) (λb o _ _ a e n=>u.any e n a) (λb o a e n=>u.free b o e n a) (λb o a e=>u.there b o e a) u.tups u.frzs u.tbls (λA t=>by
    obtain⟨o',h,g,f,v⟩:=t
    rw[k]at f;cases f
    exact⟨_,h,g,i,v⟩) j q
theorem Inv.turned (I : Inv X pins σ H s)(k : ∀b o, b ≠ it -> s.heap.get? b = some o -> h'.get? b = some o)(l : H it = none)(f : it ≠ X.env.locals)
    (h1:it∈X.ex∨X.s₀.heap.objs.size<=it) (h2:∀x c,X.env.cells.lookup x=some c->c≠it) (h:∀p∈X.pn++pins,p.1≠it):Inv X pins σ H { s with heap:=h',toks:=t' }:=by
  have d:∀b u,H b=some u->b≠it:=λb u e z=>by rw[z,l]at e;cases e
  refine I.step (g' := s.gens) (d' := s.drawn) (ch := [it]) (λb i => ?_) (λb o _ _ a e _ => k b o (λz => a (by simp[z])) e) (λb o _ _ a e _ => ⟨o.slots, k b o (λz => a (by simp[z])) e⟩) (λ_ _ _ _ n => n)
    (λb o a e=>⟨o,k b o (λz=>a (by simp[z])) e⟩) (λ_ _ e=>e) (λ_ _ _ e=>e) (λb ps e=>⟨#[],by rw[e];simp⟩) (λm j=>?_) (λb u e=>?_) I.bare
  . have e : b = it := by simpa using i
    subst e;exact⟨h1,f,h2,h⟩
  . obtain⟨o, es, g, t, r⟩ := j;exact⟨o,es,g,k _ o (Ne.symm f) t,r⟩
  . refine(I.hok b u e).stay (λc v a q => k c v ?_ q) (λ_ q => q) λ_ _ q => q;rcases a with z|z
    . rw[z];exact d b u e
    . exact d c _ z
theorem Inv.tok (I:Inv X pins σ H s)(t:Nat):Inv X pins σ H { s with toks:=t }:=I.un (h':=s.heap) (t':=t) Un.refl I.hok
theorem Inv.kept (I:Inv X pins σ H s)(k:∀b u,s.heap.get? b=some u->h'.get? b=some u):Inv X pins σ H { s with heap:=h',toks:=t' }:=I.un (Un.kept k) (I.hok.kept k)
theorem Inv.laid {a : Addr}(I : Inv X pins σ H s)(k : ∀b u, s.heap.get? b = some u -> h'.get? b = some u)(hp : s.heap.objs.size <= a)(new : n6 X.prog X.w (upd H a o) h' a o) :
    Inv X pins σ (upd H a o) { s with heap:=h',toks:=t' }:=I.un (Un.laid k hp (I.hok.fresh hp)) (I.hok.laid k hp new)
theorem Inv.write (I : Inv X pins σ H s)(mu : Mut (H x))(he : e = x∨H e = some (.own x))(k : ∀b u, b ≠ e -> s.heap.get? b = some u -> h'.get? b = some u)(heo : ∃u, h'.get? e = some u)
    (new:n6 X.prog X.w (upd H x o) h' x o):Inv X pins σ (upd H x o) { s with heap:=h',toks:=t' }:=I.un (Un.write mu he k heo) (I.hok.write mu he k heo new)
theorem Inv.pins_of (I:Inv X pins σ H s)(h:∀p∈pins',s.heap.get? p.1=some p.2/\H p.1=none/\p.1≠X.env.locals/\p.1∉X.fs/\∀v,p.2.data≠.cell v):Inv X pins' σ H s :=
  ⟨I.ok,I.os,I.bare,I.base,I.loc,I.cell,I.free,I.freeC,λp hp=>(aH.mp hp).elim (λz=>I.pin p (aR _ z)) (h p),I.hok,I.len⟩
theorem zr7 {N:List Str}(e:N.Nodup){i j:Nat}(a:N[i]?=some x)(b:N[j]?=some x):i=j:=by
  obtain⟨h1,c⟩:=ag.mp a;obtain⟨h2,d⟩:=ag.mp b;exact(fI e).mp (c.trans d.symm)
theorem za5 {E : Value -> fZ -> Prop}{Q : Unit -> fZ -> Prop}(I : Inv X pins σ H s)(hN : X.N.Nodup)(hi : X.N[i]? = some x)(hx : Loc X.env.scope x)(r : p8 v u)
    (h:∀s',Inv X pins (σ.set i (some v)) H s'->(∃a,Heap.SameBut a s.heap s'.heap/\(a=X.env.locals∨X.env.cells.lookup x=some a))->Q () s') (hf:X.fn x=true∨X.env.scope.names.lookup x=some .local:=by first|exact .inl rfl|exact .inr rfl|assumption):gg M A (storeName X.env x u) Q E s:=by
  obtain⟨m,hn,hl⟩:=id I.loc;have hcls:(X.env.scope.kind == .class || (X.env.scope.kind == .module&&X.env.locals != X.env.globals))=false:=by rw[I.ok.kind];rfl
  have hiσ:i<σ.length:=by rw[I.len];exact(ag.mp hi).1
  have cne:=I.cne;have tracked:∀{a:Addr} {h':Heap},(∃o,s.heap.get? a=some o/\H a=none)->Heap.SameBut a s.heap h'->HOk X.prog X.w H h':=λ{a h'} ha hs b ob e=>by
    obtain⟨_,_,hfree⟩:=ha;refine(I.hok b ob e).stay (λc w' hc q=>(hs.2 c ?_).trans q) (λ_ q=>q) λ_ _ q=>q;rintro rfl;rcases hc with rfl|hc
    . rw[hfree]at e;cases e
    . rw[hfree]at hc;cases hc
  rcases hx with hk|hk
  . refine wpAny_storeName_local hk hn (λh' hn' hs => ?_) hcls;obtain⟨oL,_,_,hoL,_⟩:=id hn;refine h _ ⟨I.ok,I.os,I.bare,⟨λb o e n hb hx=>?_,λb o e n hb hx=>?_,I.base.free,λb o e hx=>?_,I.base.tups,I.base.frzs,I.base.tbls⟩,⟨_,hn',λj y v' e1 e2 e3=>?_⟩,λy c e=>?_,I.free,I.freeC,λp hp=>?_,tracked ⟨oL,hoL,I.free⟩ hs,by simpa using I.len⟩ ⟨_,hs,.inl rfl⟩
    . exact(hs.2 b (aX (aM (aB e) I.ok.above))).trans (I.base.keep b o e n hb hx)
    . obtain⟨sl, e1⟩ := I.base.slot b o e n hb hx;exact⟨sl,(hs.2 b (aX (aM (aB e) I.ok.above))).trans e1⟩
    . obtain⟨o', e1⟩ := I.base.there b o e hx;exact⟨o',(hs.2 b (aX (aM (aB e) I.ok.above))).trans e1⟩
    . by_cases hj : j = i
      . subst hj;rw[hi]at e1;cases e1;rw[bB hiσ]at e2
        cases e2
        exact⟨u,r,.inl ⟨hk,by simp⟩⟩
      . rw[br (Ne.symm hj)]at e2;obtain⟨u',r',q⟩:=hl j y v' e1 e2 e3;refine⟨u',r',?_⟩;rcases q with⟨k,e⟩|⟨k,c,e,z⟩
        . refine .inl ⟨k, ?_⟩;have:y≠x:=λe=>hj (zr7 hN e1 (e ▸ hi));simp[this,e]
        . exact .inr ⟨k,c,e,z.sameBut hs (cne y c e)⟩
    . obtain⟨w', z⟩ := I.cell y c e;exact⟨w',z.sameBut hs (cne y c e)⟩
    . obtain⟨e, n, ne, nf, d⟩ := I.pin p hp;exact⟨(hs.2 p.1 ne).trans e,n,ne,nf,d⟩
  . have hfn:X.fn x=true:=by
      rcases hf with z|z
      . exact z
      . rw[z]at hk;cases hk
    obtain⟨c,hc⟩:=I.ok.has x (.inl hk);obtain⟨w',z⟩:=I.cell x c hc;refine wpAny_storeName_cell I.ok.kind hk hc z (λh' hc' hs=>?_);obtain⟨oc,hoc,hocd⟩:=id z;refine h { s with heap:=h' } ⟨I.ok,I.os,I.bare,⟨λb o e n hb hx=>?_,λb o e n hb hx=>?_,I.base.free,λb o e hx=>?_,I.base.tups,I.base.frzs,I.base.tbls⟩,⟨m,hn.sameBut hs (Ne.symm (cne x c hc)),λj y v' e1 e2 e3=>?_⟩,λy c' e=>?_,I.free,I.freeC,λp hp=>?_,tracked ⟨oc,hoc,I.freeC x c hc⟩ hs,by simpa using I.len⟩ ⟨c,hs,.inr hc⟩
    . exact(hs.2 b (aX (aM (aB e) (I.ok.cab x c hfn hc)))).trans (I.base.keep b o e n hb hx)
    . obtain⟨sl, e1⟩ := I.base.slot b o e n hb hx;exact⟨sl,(hs.2 b (aX (aM (aB e) (I.ok.cab x c hfn hc)))).trans e1⟩
    . obtain⟨o', e1⟩ := I.base.there b o e hx;exact⟨o',(hs.2 b (aX (aM (aB e) (I.ok.cab x c hfn hc)))).trans e1⟩
    . by_cases hj : j = i
      . subst hj;rw[hi]at e1;cases e1;rw[bB hiσ]at e2
        cases e2
        exact⟨u,r,.inr ⟨.inl hk,c,hc,hc'⟩⟩
      . rw[br (Ne.symm hj)]at e2;obtain⟨u',r',q⟩:=hl j y v' e1 e2 e3;refine⟨u',r',?_⟩;rcases q with q|⟨k,c',e,z'⟩
        . exact .inl q
        . refine .inr ⟨k, c', e, z'.sameBut hs ?_⟩;rintro rfl;exact hj (zr7 hN e1 (I.ok.inj _ _ _ e hc ▸ hi))
    . by_cases hcc : c' = c
      . subst hcc;exact⟨_,hc'⟩
      . obtain⟨w2, z2⟩ := I.cell y c' e;exact⟨w2,z2.sameBut hs hcc⟩
    . obtain⟨e, n, ne, nf, d⟩ := I.pin p hp;refine⟨(hs.2 p.1 ?_).trans e,n,ne,nf,d⟩;intro q;rw[q,hoc]at e;have q':oc=p.2:=Option.some.inj e;exact d w' (by rw[←q'];exact hocd)
theorem zv5 {E : Value -> fZ -> Prop}{Q : Unit -> fZ -> Prop}(I : Inv X pins σ H s)(hN : X.N.Nodup)(hi : X.N[i]? = some x)(hx : Loc X.env.scope x)(r : p8 v u)
    (h:∀s',Inv X pins (σ.set i (some v)) H s'->Q () s') (hf:X.fn x=true∨X.env.scope.names.lookup x=some .local:=by first|exact .inl rfl|exact .inr rfl|assumption):gg M A (storeName X.env x u) Q E s :=
  za5 I hN hi hx r (λs' I' _=>h s' I') hf
theorem Inv.call' {s' : fZ}(I : Inv X pins σ H s)(g : s'.os = s.os)(u : Un (frs X.stack) ch H H' s.heap s'.heap)(d : HOk X.prog X.w H' s'.heap)(f : AllBare s'.gens)
    (a:∀b∈ch,(b∈X.ex∨X.s₀.heap.objs.size<=b)/\b≠X.env.locals/\(∀x c,X.env.cells.lookup x=some c->c≠b)/\∀p∈X.pn++pins,p.1≠b):Inv X pins σ H' s':=by
  obtain⟨h',g',d',t',o'⟩:=s';have e:o'=s.os:=g;subst e;exact I.call (g':=g') (t':=t') (d':=d') u d f a
end
abbrev XK:=Value->Option Addr->Hp->Prop
abbrev St:=List (Option V)
abbrev VK:=V->Hp->Prop
abbrev TE:=St->Hp->VK->Prop
abbrev TT:=St->Hp->(Bool->Hp->Prop)->Prop
abbrev TA:=St->Hp->(List V->Hp->Prop)->Prop
structure zc1 where
  nx:St->Hp->Prop
  rt:VK
  bk:St->Hp->Prop:=λ_ _=>False
  ct:St->Hp->Prop:=λ_ _=>False
abbrev TS:=zc1->St->Hp->Prop
def EP (X:Cx)(pins:List (Addr×Obj))(σ:St)(Q:VK)(u:Value)(s':fZ):Prop:=∃v H',Inv X pins σ H' s'/\p8 v u/\Q v H'
def TP (X:Cx)(pins:List (Addr×Obj))(σ:St)(Q:Bool->Hp->Prop)(b:Bool)(s':fZ):Prop:=∃H',Inv X pins σ H' s'/\Q b H'
def AP (X:Cx)(pins:List (Addr×Obj))(σ:St)(Q:List V->Hp->Prop)(us:List Value)(s':fZ):Prop:=∃vs H',Inv X pins σ H' s'/\r8 vs us/\Q vs H'
def SP (X:Cx)(pins:List (Addr×Obj))(D:zc1)(f:Flow)(s':fZ):Prop :=
  match f with
  | .next=>∃σ' H',Inv X pins σ' H' s'/\D.nx σ' H'
  | .brk=>∃σ' H',Inv X pins σ' H' s'/\D.bk σ' H'
  | .cont=>∃σ' H',Inv X pins σ' H' s'/\D.ct σ' H'
  | .ret u=>∃v σ' H',Inv X pins σ' H' s'/\p8 v u/\D.rt v H'
def PE (X:Cx)(e:Expr)(t:TE):Prop :=
  ∀(pins:List (Addr×Obj)) (s:fZ) (σ:St) (H:Hp) (Q:VK),Inv X pins σ H s->t σ H Q->gg (gn X.prog X.w) X.A (eval e X.env) (EP X pins σ Q) X.xe s
def PT (X:Cx)(e:Expr)(t:TT):Prop :=
  ∀(pins:List (Addr×Obj)) (s:fZ) (σ:St) (H:Hp) (Q:Bool->Hp->Prop),Inv X pins σ H s->t σ H Q->gg (gn X.prog X.w) X.A (isTrue e X.env (eval e X.env)) (TP X pins σ Q) X.xe s
def PW (X:Cx)(e:Expr)(t:TT):Prop :=
  ∀(whole:Sem Value) (pins:List (Addr×Obj)) (s:fZ) (σ:St) (H:Hp) (Q:Bool->Hp->Prop),Inv X pins σ H s->t σ H Q->gg (gn X.prog X.w) X.A (isTrue e X.env whole) (TP X pins σ Q) X.xe s
theorem PW.pt (h:PW X e t):PT X e t:=h _
def PA (X:Cx)(es:List Expr)(t:TA):Prop :=
  ∀(pos:Pos) (pins:List (Addr×Obj)) (s:fZ) (σ:St) (H:Hp) (Q:List V->Hp->Prop),Inv X pins σ H s->t σ H Q->gg (gn X.prog X.w) X.A (spliced (backTo pos (gh es X.env))) (AP X pins σ Q) X.xe s
def PS (X:Cx)(st:Stmt)(t:TS):Prop :=
  ∀(pins:List (Addr×Obj)) (s:fZ) (σ:St) (H:Hp) (D:zc1),Inv X pins σ H s->t D σ H->gg (gn X.prog X.w) X.A (exec st X.env) (SP X pins D) X.xe s
def PSs (X:Cx)(st:List Stmt)(t:TS):Prop :=
  ∀(pins:List (Addr×Obj)) (s:fZ) (σ:St) (H:Hp) (D:zc1),Inv X pins σ H s->t D σ H->gg (gn X.prog X.w) X.A (execs st X.env) (SP X pins D) X.xe s
theorem thn {α:Type}{t:Sem α}{Q Q':α->fZ->Prop}{E:Value->fZ->Prop}(h:gg M A t Q E s)(hQ:∀a s,Q a s->Q' a s):gg M A t Q' E s:=gu h hQ λ_ _ x=>x
section
variable {X:Cx}
def wb9 (i:Nat):TE:=λσ H Q=>∃v,σ[i]?=some (some v)/\Q v H
def tC (v:V):TE:=λ_ H Q=>Q v H
theorem wa2 {pos:Pos}(hN:X.N[i]?=some x)(hv:Vis X.env.scope x)(hd:(x==("__debug__":Str))=false:=by decide)(hcd:(x==("__classdict__":Str))=false:=by decide):PE X (.Name x pos) (wb9 i):=by
  intro pins s σ H Q I h;obtain⟨v,e,h⟩:=h;obtain⟨m,hn,hl⟩:=I.loc;obtain⟨u,r,l⟩:=hl i x v hN e hv;have fin:EP X pins σ Q u s:=⟨v,H,I,r,h⟩;rcases l with⟨hk,hm⟩|⟨hk,c,hc,hcell⟩
  . exact wpAny_Name (wpAny_loadName_local I.ok.kind hk hn hm fin) hd
  . rcases hk with hk|hk
    . exact wpAny_Name (wpAny_loadName_cell I.ok.kind hk hc hcell fin) hd
    . exact wpAny_Name (wpAny_loadName_free I.ok.kind hk hc hcell fin hcd) hd
theorem y8 {i j pos}:PE X (.Constant (.int i) j pos) (tC (.int i)):=λ_ _ _ H _ I h=>wpAny_Constant_int ⟨.int i,H,I.tok _,⟨_,rfl⟩,h⟩
theorem Y3 {b j pos}:PE X (.Constant (.bool b) j pos) (tC (.bl b)):=λ_ _ _ H _ I h=>Constant_bool ⟨.bl b,H,I,rfl,h⟩
theorem ye9 {j pos}:PE X (.Constant .none j pos) (tC .non):=λ_ _ _ H _ I h=>Constant_none ⟨.non,H,I,rfl,h⟩
theorem W7 {x j pos}:PE X (.Constant (.str x) j pos) (tC (.str x)):=λ_ _ _ H _ I h=>Calls.Constant_str ⟨.str x,H,I.tok _,⟨_,rfl⟩,h⟩
def Gl (X:Cx)(x:Str):Prop:=X.env.kindOf x=some .globalImplicit
theorem A6 {E : Value -> fZ -> Prop}{σ : St}{u : Value}{pos : Pos}{Q : Value -> fZ -> Prop}(I : Inv X pins σ H s)(hg : Gl X x)(hm : X.mg x = some u)(h : Q u s)
    (hd:(x==("__debug__":Str))=false:=by decide):gg (gn X.prog X.w) X.A (eval (.Name x pos) X.env) Q E s :=
  Calls.Name_function_global I.ok.kind hg (Calls.loadGlobal_global (by rw[I.ok.glob];exact I.mod.glob.keeps I.bk) hm h) hd
theorem J4 {E : Value -> fZ -> Prop}{σ : St}{u : Value}{pos : Pos}{Q : Value -> fZ -> Prop}(I : Inv X pins σ H s)(hg : Gl X x)(hm : X.mg x = none)(hv : gv x = some u)(h : Q u s)
    (hn:x≠"__name__":=by decide) (hd:(x==("__debug__":Str))=false:=by decide):gg (gn X.prog X.w) X.A (eval (.Name x pos) X.env) Q E s:=by
  obtain⟨mb,h1,h2⟩:=I.mod.blt;exact Calls.Name_function_global I.ok.kind hg (Calls.loadGlobal_builtin (by rw[I.ok.glob];exact I.mod.glob.keeps I.bk) hm (by rw[I.ok.blt];exact h1.keeps I.bk) ((h2 x hn).trans hv) h) hd
theorem zp0 (hg:Gl X x)(hm:X.mg x=some u)(r:p8 v u)(hd:(x==("__debug__":Str))=false:=by decide):PE X (.Name x pos) (tC v) :=
  λ_ _ _ H _ I h=>A6 I hg hm ⟨v,H,I,r,h⟩ hd
theorem Q6 {pos:Pos}(hg:Gl X x)(hm:X.mg x=none)(hv:gv x=some u)(r:p8 v u)(hn:x≠"__name__":=by decide)(hd:(x==("__debug__":Str))=false:=by decide):PE X (.Name x pos) (tC v) :=
  λ_ _ _ H _ I h=>J4 I hg hm hv ⟨v,H,I,r,h⟩ hn hd
variable {a b:Expr}{ta tb:TE}{pos:Pos}
def PC (X:Cx)(op:CmpOp)(a b:Expr)(t:TE):Prop :=
  ∀(pins:List (Addr×Obj)) (s:fZ) (σ:St) (H:Hp) (Q:VK),Inv X pins σ H s->t σ H Q ->
    gg (gn X.prog X.w) X.A (eval a X.env) (λv s₁=>gg (gn X.prog X.w) X.A (eval b X.env) (λu s₂=>gg (gn X.prog X.w) X.A (compareOp op v u) (EP X pins σ Q) X.xe s₂) X.xe s₁) X.xe s
theorem xk6 (b:Expr){a:CmpOp}(h:a≠.In)(h2:a≠.NotIn):behindInMarks a b=false:=by
  have c:(a==CmpOp.In)=false:=by cases a <;> first|rfl|exact absurd rfl h
  have d:(a==CmpOp.NotIn)=false:=by cases a <;> first|rfl|exact absurd rfl h2
  cases b <;> simp[behindInMarks,c,d]
def wi7 (ta:TE):TE:=λσ H Q=>ta σ H λx H1=>Q (.bl (decide (x=.non))) H1
theorem p8.none_iff (r:p8 x v):(v==Value.none)=decide (x=.non):=by
  cases x with
  | non=>cases r;rfl
  | bl _=>cases r;rfl
  | int _=>obtain⟨t,rfl⟩:=r;rfl
  | str _=>obtain⟨t,rfl⟩:=r;rfl
  | byt _=>obtain⟨t,rfl⟩:=r;rfl
  | flt _=>obtain⟨t,rfl⟩:=r;rfl
  | ref _=>cases r;rfl
  | ty _=>cases r;rfl
theorem xz7 {j pos'}(c:PE X a ta):PC X .Is a (.Constant .none j pos') (wi7 ta):=by
  intro pins s σ H Q I h;refine thn (c pins s σ H _ I h) λv s1 ⟨x,H1,b,e,d⟩=>?_;exact Constant_none (is_none_gen ⟨.bl _,H1,b,by rw[e.none_iff];rfl,d⟩)
def tB (t:TE):TT:=λσ H Q=>t σ H λx H1=>∃c,x=.bl c/\Q c H1
theorem zt3 (h:PC X op a b t)(h1:behindInMarks op b=false:=by first|exact xk6 _ (by decide) (by decide)|rfl):PT X (.Compare a [op] [b] pos) (tB t):=by
  intro pins s σ H Q I hw;refine wpAny_isTrue_Compare1 (thn (h pins s σ H _ I hw) λv s1 h1=>thn h1 λu s2 h2=>thn h2 λc s3 ⟨x,H1,I1,r1,q1⟩=>?_) h1;obtain⟨d,rfl,q⟩:=q1
  cases r1
  exact wpAny_truthy_bool ⟨H1,I1,q⟩
theorem Z4 {e:Expr}(h:PE X e t)(he:∀whole,isTrue e X.env whole=(do let v ←whole;standAt e.pos;holding [v] (truthy v)):=by intro _;rfl):PT X e (tB t):=by
  intro pins s σ H Q I hw;refine isTrue_plain (thn (h pins s σ H _ I hw) λv s1 ⟨x,H1,I1,r1,q1⟩=>?_) (he _);obtain⟨d,rfl,q⟩:=q1
  cases r1
  exact wpAny_truthy_bool ⟨H1,I1,q⟩
variable {tA tB':TT}{R5:List Expr}
def tOr (t u:TT):TT:=λσ H Q=>t σ H λc H1=>if c=true then Q true H1 else u σ H1 Q
def wi9 (t:TT):TT:=λσ H Q=>t σ H λc H1=>Q (!c) H1
theorem M7 (b:PT X a tA):PW X (.BoolOp .Or [a] pos) tA:=by
  intro d pins s σ H Q I h;refine isTrue_or (thn (b pins s σ H Q I h) λc s1 e=>?_)
  cases c with
  | false=>exact isTrue_or_nil e
  | true=>exact e
theorem B3 (f:PT X a tA)(g:PW X (.BoolOp .Or (b::R5) pos) tB'):PW X (.BoolOp .Or (a::b::R5) pos) (tOr tA tB'):=by
  intro i pins s σ H Q I h;refine isTrue_or (thn (f pins s σ H _ I h) λc s1 ⟨H1,d,e⟩=>?_)
  cases c with
  | true=>exact⟨H1,d,e⟩
  | false=>exact g i pins s1 σ H1 Q d e
theorem Y7 (b:PT X a tA):PT X (.UnaryOp .Not a pos) (wi9 tA):=by
  intro pins s σ H Q I h;exact isTrue_not (b pins s σ H (λc H1=>Q (!c) H1) I h)
def wf1 (ta tb:TE):TE:=λσ H Q=>ta σ H λx H1=>∃c,x=.bl c/\if c=true then tb σ H1 Q else Q (.bl false) H1
def wf7 (ta:TE):TE:=λσ H Q=>ta σ H λx H1=>∃c,x=.bl c/\Q (.bl (!c)) H1
theorem B2 {op}(h:PE X a t):PE X (.BoolOp op [a] pos) t:=λpins s σ H Q I hw=>BoolOp_one (h pins s σ H Q I hw)
theorem zd1 (f:PE X a ta)(g:PE X (.BoolOp .And (b::R5) pos) tb):PE X (.BoolOp .And (a::b::R5) pos) (wf1 ta tb):=by
  intro pins s σ H Q I h;refine BoolOp_and (thn (f pins s σ H _ I h) λv s1 ⟨x,H1,e,i,d⟩=>?_);obtain⟨c,rfl,d⟩:=d
  cases i
  refine wpAny_truthy_bool ?_
  cases c with
  | true=>exact g pins s1 σ H1 Q e d
  | false=>exact⟨.bl false,H1,e,rfl,d⟩
theorem wa0 (e:PE X a ta):PE X (.UnaryOp .Not a pos) (wf7 ta):=by
  intro pins s σ H Q I h;refine UnaryOp_ (thn (e pins s σ H _ I h) λv s1 ⟨x,H1,d,f,b⟩=>?_);obtain⟨c,rfl,b⟩:=b
  cases f
  exact not_of (wpAny_truthy_bool ⟨.bl (!c),H1,d,rfl,b⟩)
def tIf (t:TT)(ta tb:TE):TE:=λσ H Q=>t σ H λc H1=>if c=true then ta σ H1 Q else tb σ H1 Q
theorem zs6 (hc:PT X c tA)(g:PE X a ta)(i:PE X b tb):PE X (.IfExp c a b pos) (tIf tA ta tb):=by
  intro pins s σ H Q I h;refine wpAny_IfExp (thn (hc pins s σ H _ I h) λd s1 ⟨H1,e,f⟩=>?_)
  cases d with
  | true=>exact g pins s1 σ H1 Q e f
  | false=>exact i pins s1 σ H1 Q e f
end
def SqL (K:W.Frag)(H:Hp)(a:Addr)(xs:List V):Prop :=
  Rd H a (.lst xs) ∨
    ∃(o:Obj) (its:Array Value) (n:Nat),K.lookup a=some o/\o.cls=.type "list"/\o.dict=none/\o.data=.seq its n/\its.size<=ge/\r8 xs its.toList
def SqT (K:W.Frag)(H:Hp)(a:Addr)(xs:List V):Prop :=
  Rd H a (.tup xs) ∨
    ∃(o:Obj) (its:Array Value) (n:Nat),K.lookup a=some o/\o.cls=.type "tuple"/\o.data=.seq its n/\its.size<=ge/\r8 xs its.toList
def wg6 : Value -> Option V
  | .none=>some .non
  | .bool b=>some (.bl b)
  | .int i _=>some (.int i)
  | .str x _=>some (.str x)
  | .bytes b _=>some (.byt b)
  | .float b _=>some (.flt b)
  | .ref a=>some (.ref a)
  | .type n=>some (.ty n)
  | _=>none
theorem p8.abs (r:p8 x u):wg6 u=some x:=by
  cases x with
  | non=>cases r;rfl
  | bl _=>cases r;rfl
  | int _=>obtain⟨t,rfl⟩:=r;rfl
  | str _=>obtain⟨t,rfl⟩:=r;rfl
  | byt _=>obtain⟨t,rfl⟩:=r;rfl
  | flt _=>obtain⟨t,rfl⟩:=r;rfl
  | ref _=>cases r;rfl
  | ty _=>cases r;rfl
theorem p8.inj (r:p8 x u)(q:p8 y u):x=y:=Option.some.inj (r.abs.symm.trans q.abs)
theorem r8.inj : ∀{xs ys : List V} {us : List Value}, r8 xs us -> r8 ys us -> xs = ys
  | _,_,_,.nil,.nil=>rfl
  | _,_,_,.cons r t,.cons r' t'=>by rw[r.inj r',r8.inj t t']
section
variable {X:Cx}{pins:List (Addr×Obj)}{σ:St}{H:Hp}{s:fZ}{a:Addr}{xs ys:List V}
theorem SqL.of {K:W.Frag}(h:H a=some (.lst xs)):SqL K H a xs:=.inl (.inl h)
theorem SqT.of {K:W.Frag}(h:H a=some (.tup xs)):SqT K H a xs:=.inl (.inl h)
theorem Inv.list (I:Inv X pins σ H s)(h:SqL X.K H a xs):∃b:List Value,r8 xs b/\PlainL s.heap a b.toArray/\xs.length<=ge:=by
  rcases h with h|⟨o,b,n,f,c,d,g,i,r⟩
  . obtain⟨z, b, n, r, e⟩ := h.ok I.hok;exact⟨b,r,⟨_,n,e,rfl,rfl,rfl⟩,z⟩
  . refine⟨b.toList, r, ⟨o, n, I.kIn a o f, c, d, by simpa using g⟩, ?_⟩;have e:=r.length;simp only[aP]at e;lia
theorem Inv.tuple (I:Inv X pins σ H s)(h:SqT X.K H a xs):∃b:List Value,r8 xs b/\IsTup s.heap a b.toArray/\xs.length<=ge:=by
  rcases h with h|⟨o,b,n,d,c,f,g,r⟩
  . obtain⟨z, b, r, p⟩ := h.ok I.hok;exact⟨b,r,p.is,z⟩
  . refine⟨b.toList, r, ⟨o, I.kIn a o d, c, n, by simpa using f⟩, ?_⟩;have e:=r.length;simp only[aP]at e;lia
theorem Inv.list_inj (I:Inv X pins σ H s)(h:SqL X.K H a xs)(h':SqL X.K H a ys):xs=ys:=by
  obtain⟨c,r,⟨o,n,e,_,_,d⟩,_⟩:=I.list h;obtain⟨b,i,⟨o',n',g,_,_,f⟩,_⟩:=I.list h';rw[e]at g;cases g;rw[d]at f;injection f with d1 _
  have:c=b:=by simpa using congrArg Array.toList d1
  subst this;exact r.inj i
theorem Inv.tuple_inj (I:Inv X pins σ H s)(h:SqT X.K H a xs)(h':SqT X.K H a ys):xs=ys:=by
  obtain⟨c,r,⟨o,e,_,n,d⟩,_⟩:=I.tuple h;obtain⟨b,i,⟨o',g,_,n',f⟩,_⟩:=I.tuple h';rw[e]at g;cases g;rw[d]at f;injection f with d1 _
  have:c=b:=by simpa using congrArg Array.toList d1
  subst this;exact r.inj i
end
abbrev Cx.wish (X:Cx) (E:Value->fZ->Prop):Cx:={ X with xe:=E }
abbrev Cx.nox (X:Cx):Cx:=X.wish λ_ _=>False
theorem Cx.Ok.wish {X:Cx}(ok:X.Ok)(E:Value->fZ->Prop):(X.wish E).Ok :=
  ⟨ok.mod,ok.kind,ok.glob,ok.blt,ok.above,ok.inj,ok.has,ok.cab,ok.hd,ok.frames,ok.stk,ok.exf,ok.bs,ok.bsz,ok.noex,ok.exfs,ok.funs,ok.frf⟩
theorem Cx.Ok.unwish {X:Cx}{E:Value->fZ->Prop}(ok:(X.wish E).Ok):X.Ok :=
  ⟨ok.mod,ok.kind,ok.glob,ok.blt,ok.above,ok.inj,ok.has,ok.cab,ok.hd,ok.frames,ok.stk,ok.exf,ok.bs,ok.bsz,ok.noex,ok.exfs,ok.funs,ok.frf⟩
section
variable {X:Cx}{pins:List (Addr×Obj)}{σ:St}{H:Hp}{s:fZ}{E:Value->fZ->Prop}
theorem Inv.wish (I:Inv X pins σ H s)(E:Value->fZ->Prop):Inv (X.wish E) pins σ H s:=⟨I.ok.wish E,I.os,I.bare,I.base,I.loc,I.cell,I.free,I.freeC,I.pin,I.hok,I.len⟩
theorem Inv.unwish (I:Inv (X.wish E) pins σ H s):Inv X pins σ H s:=⟨I.ok.unwish,I.os,I.bare,I.base,I.loc,I.cell,I.free,I.freeC,I.pin,I.hok,I.len⟩
theorem SP.unwish (h:SP (X.wish E) pins D f s'):SP X pins D f s':=by
  cases f with
  | next=>obtain⟨a,H',I,q⟩:=h;exact⟨a,H',I.unwish,q⟩
  | brk=>obtain⟨a,H',I,q⟩:=h;exact⟨a,H',I.unwish,q⟩
  | cont=>obtain⟨a,H',I,q⟩:=h;exact⟨a,H',I.unwish,q⟩
  | ret u=>obtain⟨v,a,H',I,r,q⟩:=h;exact⟨v,a,H',I.unwish,r,q⟩
theorem PSs.nox {st:List Stmt}(h:PSs X.nox st t):PSs X st t:=λpins s σ H D I hw =>
  gu (h pins s σ H D (I.wish _) hw) (λ_ _ q=>q.unwish) λ_ _ z=>False.elim z
end
section
variable {X:Cx}{st:Stmt}{R5:List Stmt}{t u:TS}{e:Expr}{te:TE}{pos:Pos}
def wf6:TS:=λD σ H=>D.nx σ H
def wb8 (t u:TS):TS:=λD σ H=>t { D with nx:=u D } σ H
theorem u4:PSs X [] wf6:=λ_ _ σ H _ I h=>wpAny_execs_nil ⟨σ,H,I,h⟩
theorem z7 (h1:PS X st t)(h2:PSs X R5 u):PSs X (st::R5) (wb8 t u):=by
  intro pins s σ H D I h;refine wpAny_execs_cons (thn (h1 pins s σ H { D with nx:=u D } I h) λf s1 q=>?_)
  cases f with
  | next =>
    obtain⟨b,H',a,q⟩:=q;exact h2 pins s1 b H' D a q
  | ret v=>exact q
  | brk=>exact q
  | cont=>exact q
theorem z8 (h1:PS X st t):PSs X [st] t:=by
  intro pins s σ H D I h;refine wpAny_execs_cons (thn (h1 pins s σ H D I h) λf s1 q=>?_)
  cases f with
  | next=>exact wpAny_execs_nil q
  | ret v=>exact q
  | brk=>exact q
  | cont=>exact q
theorem Inv.quiet {σ:St}(I:Inv X pins σ H s):interactive X.env=false:=by simp[interactive,I.ok.kind]
def wf4 (te:TE):TS:=λD σ H=>te σ H λ_ H1=>D.nx σ H1
theorem i5 (he:PE X e te)(hs:swapsWith e none pos.line X.env=pure false:=by rfl):PS X (.Expr e pos) (wf4 te):=by
  intro pins s σ H D I h;exact wpAny_Expr_any (thn (he pins s σ H _ I h) λv s1 ⟨x,H1,I1,r1,q1⟩=>⟨σ,H1,I1,q1⟩) I.quiet hs
def wj0 (te:TE):TS:=λD σ H=>te σ H D.rt
theorem v0 (b:PE X e te):PS X (.Return (some e) pos) (wj0 te):=by
  intro pins s σ H D I h;exact wpAny_Return_some (thn (b pins s σ H _ I h) λv s1 ⟨x,H1,a,d,c⟩=>⟨x,σ,H1,a,d,c⟩)
def wf5 (c:TT)(t u:TS):TS:=λD σ H=>c σ H λb H1=>if b=true then t D σ H1 else u D σ H1
theorem n4 (hc:PT X c tc)(g:PSs X a t)(i:PSs X b u):PS X (.If c a b pos) (wf5 tc t u):=by
  intro pins s σ H D I h;refine wpAny_If (thn (hc pins s σ H _ I h) λd s1 ⟨H1,e,f⟩=>?_)
  cases d with
  | true=>exact g pins s1 σ H1 D e f
  | false=>exact i pins s1 σ H1 D e f
def wb6:TS:=λ_ _ _=>False
theorem K3:PS X st wb6:=λ_ _ _ _ _ _ h=>h.elim
end
abbrev TG:=V->St->Hp->(St->Hp->Prop)->Prop
abbrev TGs:=List V->St->Hp->(St->Hp->Prop)->Prop
def PG (X:Cx)(target:Expr)(t:TG):Prop :=
  ∀(pins:List (Addr×Obj)) (s:fZ) (σ:St) (H:Hp) (v:V) (u:Value) (Q:St->Hp->Prop),Inv X pins σ H s->p8 v u->t v σ H Q ->
    gg (gn X.prog X.w) X.A (assign target X.env u) (λ_ s'=>∃σ' H',Inv X pins σ' H' s'/\Q σ' H') X.xe s
def PGs (X:Cx)(ts:List Expr)(t:TGs):Prop :=
  ∀(pins:List (Addr×Obj)) (s:fZ) (σ:St) (H:Hp) (vs:List V) (us:List Value) (Q:St->Hp->Prop),Inv X pins σ H s->r8 vs us->t vs σ H Q ->
    gg (gn X.prog X.w) X.A (assignInOrder ((assignEach ts X.env).map (·.2)) us) (λ_ s'=>∃σ' H',Inv X pins σ' H' s'/\Q σ' H') X.xe s
abbrev xw6:=V->V->V->Hp->(Hp->Prop)->Prop
def wc5 (X:Cx)(t:xw6):Prop :=
  ∀(pins:List (Addr×Obj)) (s:fZ) (σ:St) (H:Hp) (o i v:V) (ov iv u:Value) (Q:Hp->Prop),Inv X pins σ H s->p8 o ov->p8 i iv->p8 v u->t o i v H Q ->
    gg (gn X.prog X.w) X.A (setItem ov iv u) (λ_ s'=>∃H',Inv X pins σ H' s'/\Q H') X.xe s
abbrev TIp:=V->V->Hp->VK->Prop
def PIp (X:Cx)(op:Operator)(t:TIp):Prop :=
  ∀(pins:List (Addr×Obj)) (s:fZ) (σ:St) (H:Hp) (x y:V) (v u:Value) (Q:VK),Inv X pins σ H s->p8 x v->p8 y u->t x y H Q ->
    gg (gn X.prog X.w) X.A (inplaceOp op v u) (EP X pins σ Q) X.xe s
section
variable {X:Cx}{pos:Pos}
def h9 (i:Nat):TG:=λv σ H Q=>Q (σ.set i (some v)) H
theorem t9 (hN:X.N.Nodup)(hi:X.N[i]?=some x)(hx:Loc X.env.scope x)(hf:X.fn x=true∨X.env.scope.names.lookup x=some .local:=by first|exact .inl rfl|exact .inr rfl|assumption):PG X (.Name x pos) (h9 i):=by
  intro pins s σ H v u Q I r h;exact wpAny_assign_Name (zv5 I hN hi hx r (λs' I'=>⟨_,H,I',h⟩) hf)
def wc8:TGs:=λvs σ H Q=>vs=[]/\Q σ H
def xh3 (t:TG)(u:TGs):TGs:=λvs σ H Q=>∃v r,vs=v::r/\t v σ H λσ' H'=>u r σ' H' Q
theorem Q7:PGs X [] wc8:=by
  intro pins s σ H b a Q I r h;obtain⟨e,h⟩:=h;subst e
  cases r
  exact assignInOrder_nil ⟨σ,H,I,h⟩
theorem i6 (h1 : PG X e t)(h2 : PGs X es u)
    (hs:(assignEach (e::es) X.env).map (·.2)=assign e X.env::(assignEach es X.env).map (·.2):=by rfl):PGs X (e::es) (xh3 t u):=by
  intro pins s σ H vs us Q I r h;obtain⟨v,vr,e1,h⟩:=h;subst e1
  cases r with
  | cons r rr =>
    rw[hs];refine assignInOrder_cons (thn (h1 pins s σ H _ _ _ I r h) λ_ s1 ⟨σ1,H1,I1,q1⟩=>?_);exact h2 pins s1 σ1 H1 _ _ Q I1 rr q1
def wc9 (K:W.Frag)(n:Nat)(t:TGs):TG:=λv σ H Q=>∃a xs,v=.ref a/\SqT K H a xs/\xs.length=n/\t xs σ H Q
theorem J9 {k : Nat}(hc : X.calm = true)(h : PGs X es t)
    (hn:(assignEach es X.env).length=n:=by rfl) (hst:(assignEach es X.env).findIdx? (·.1)=none:=by rfl):PG X (.Tuple es k pos) (wc9 X.K n t):=by
  intro pins s σ H v u Q I r hw;obtain⟨a,xs,e1,hq,hl,hw⟩:=hw;subst e1
  cases r
  obtain⟨its,rv,ht,hz⟩:=I.tuple hq;refine assign_Tuple_tuple (I.ok.hd hc) ht (by simp[hn,←hl,rv.length]) hst λh' hx=>?_;have I1:Inv X pins σ H { s with heap:=h' }:=I.kept (t':=s.toks) λb o e=>hx b o (aX (aB e)) e;exact h pins _ σ H xs _ Q I1 (by simpa using rv) hw
def wh1 (to ti:TE)(t:xw6):TG:=λv σ H Q=>to σ H λo H1=>ti σ H1 λi H2=>t o i v H2 λH3=>Q σ H3
theorem zs8 (ho : PE X o to)(hi : PE X i ti)(hs : wc5 X t)
    (ha : ∀v, assign (.Subscript o i pos) X.env v = (do
      let ov ←holding [v] (eval o X.env)
      let iv ←holding [v,ov] (eval i X.env)
      standAt pos
      holding [v,ov,iv] (setItem ov iv v)
      release [v,ov,iv] []):=by intro _;rfl):PG X (.Subscript o i pos) (wh1 to ti t):=by
  intro pins s σ H v u Q I r h
  rw[ha]
  refine fY (gr (thn (ho pins s σ H _ I h) λov s1 ⟨x,H1,I1,r1,q1⟩=>?_))
  refine fY (gr (thn (hi pins s1 σ H1 _ I1 q1) λiv s2 ⟨y,H2,I2,r2,q2⟩=>?_))
  refine fY (wpAny_standAt (fY (gr (thn (hs pins s2 σ H2 x y v ov iv u _ I2 r1 r2 r q2) λ_ s3 ⟨H3,I3,q3⟩=>?_))))
  exact wpAny_release ⟨σ,H3,I3,q3⟩
def yt8 (te:TE)(g:TG):TS:=λD σ H=>te σ H λx H1=>g x σ H1 D.nx
theorem zd3 (he : PE X e te)(hg : PG X tg g)(hs : swapsWithSole [tg] e pos.line X.env = pure false := by rfl)(hw : swappedStores [tg] e X.env = pure none := by rfl)
    (h1:(assignEach [tg] X.env).map (·.2)=[assign tg X.env]:=by rfl):PS X (.Assign [tg] e pos) (yt8 te g):=by
  intro pins s σ H D I h;refine wpAny_Assign_stores (thn (he pins s σ H _ I h) λv s1 ⟨x,H1,I1,r1,q1⟩=>?_) hs hw;rw[h1];exact thn (hg pins s1 σ H1 x v _ I1 r1 q1) λ_ s2 q=>q
theorem u0 (hN : X.N.Nodup)(hi : X.N[i]? = some x)(hx : Loc X.env.scope x)(he : PE X e te)(hs : swapsWith e (some (.Name x pos')) pos.line X.env = pure false := by rfl)(hf : X.fn x = true∨X.env.scope.names.lookup x = some .local := by first|exact .inl rfl|exact .inr rfl|assumption) :
    PS X (.Assign [.Name x pos'] e pos) (yt8 te (h9 i)):=by
  intro pins s σ H D I h;refine wpAny_Assign_Name (thn (he pins s σ H _ I h) λv s1 ⟨y,H1,I1,r1,q1⟩=>?_) hs;exact zv5 I1 hN hi hx r1 (λs2 I2=>⟨_,H1,I2,q1⟩) hf
def wi3 (i:Nat)(te:TE)(ti:TIp):TS:=λD σ H=>∃x,σ[i]?=some (some x)/\te σ H λy H1=>ti x y H1 λz H2=>D.nx (σ.set i (some z)) H2
theorem ys2 (hN : X.N.Nodup)(hi : X.N[i]? = some x)(hx : Loc X.env.scope x)(he : PE X e te)(ho : PIp X op ti)(hf : X.fn x = true∨X.env.scope.names.lookup x = some .local := by first|exact .inl rfl|exact .inr rfl|assumption) :
    PS X (.AugAssign (.Name x pos') op e pos) (wi3 i te ti):=by
  intro pins s σ H D I h;obtain⟨v,e1,h⟩:=h;obtain⟨m,hn,hl⟩:=I.loc;have vis:Vis X.env.scope x:=by rcases hx with k|k;exact .inl k;exact .inr (.inl k)
  obtain⟨u,r,l⟩:=hl i x v hi e1 vis;refine wpAny_AugAssign_Name ?_;have go:gg (gn X.prog X.w) X.A (eval e X.env) (λw s₂=>gg (gn X.prog X.w) X.A (inplaceOp op u w) (λr s₃=>gg (gn X.prog X.w) X.A (storeName X.env x r) (λ_=>SP X pins D .next) X.xe s₃) X.xe s₂) X.xe s:=by
    refine thn (he pins s σ H _ I h) λw s1 ⟨y,H1,I1,r1,q1⟩=>?_;refine thn (ho pins s1 σ H1 v y u w _ I1 r r1 q1) λz s2 ⟨zv,H2,I2,r2,q2⟩=>?_;exact zv5 I2 hN hi hx r2 (λs3 I3=>⟨_,H2,I3,q2⟩) hf
  rcases l with⟨hk,hm⟩|⟨hk,c,hc,hcell⟩
  . exact wpAny_loadName_local I.ok.kind hk hn hm go
  . rcases hk with hk|hk
    . exact wpAny_loadName_cell I.ok.kind hk hc hcell go
    . rcases hx with k|k
      . have : X.env.scope.names.lookup x = some .free := hk;rw[k]at this;cases this
      . have : X.env.scope.names.lookup x = some .free := hk;rw[k]at this;cases this
def ipI (f:Int->Int->Int):TIp:=λx y H Q=>∃i j,x=.int i/\y=.int j/\Q (.int (f i j)) H
theorem xx7:PIp X .Add (ipI λi j=>i+j):=by
  intro pins s σ H x y v u Q I c d h;obtain⟨i,j,a,b,q⟩:=h;subst a;subst b;obtain⟨t,rfl⟩:=c;obtain⟨e,rfl⟩:=d;exact iadd_int ⟨.int _,H,I.tok _,⟨_,rfl⟩,q⟩
theorem xx9:PIp X .Sub (ipI λi j=>i-j):=by
  intro pins s σ H x y v u Q I c d h;obtain⟨i,j,a,b,q⟩:=h;subst a;subst b;obtain⟨t,rfl⟩:=c;obtain⟨e,rfl⟩:=d;exact isub_int ⟨.int _,H,I.tok _,⟨_,rfl⟩,q⟩
end
section
variable {X:Cx}{pos:Pos}
def xp4 (c:TT)(tb:TS):TS:=λD σ H=>∃W:Nat->St->Hp->Prop,(∃m,W m σ H)/\∀m σ H,W m σ H ->
  c σ H λb H1=>if b=true then ∃N:St->Hp->Prop,(∀σ' H',N σ' H'->∃m',m'<m/\W m' σ' H')/\tb { D with nx:=N,ct:=N,bk:=D.nx } σ H1 else D.nx σ H1
theorem yl2 (u:PassesOwn (gn X.prog X.w) X.A X.env X.xe)(hc:PT X c tc)(y:PSs X a tb):PS X (.While c a [] pos) (xp4 tc tb):=by
  intro pins s σ H D I h;obtain⟨W,⟨z,C⟩,e⟩:=h;refine wpAny_While (codeAny_whileLoop (λn s'=>∃σ' H',Inv X pins σ' H' s'/\W n σ' H') ?_ z ⟨σ,H,I,C⟩);rintro n s1 ⟨k,H1,x,E⟩;refine wpAny_passesOwn u (thn (hc pins s1 k H1 _ x (e n k H1 E)) λb B ⟨H2,r,i⟩=>?_)
  cases b with
  | true =>
    obtain⟨N,t,i⟩:=i;rw[if_pos rfl];refine wpAny_passesOwn u (thn (y pins B k H2 _ r i) λf F j=>?_)
    cases f with
    | next =>
      obtain⟨g,d,l,p⟩:=j;obtain⟨o,m,q⟩:=t g d p;exact⟨o,m,g,d,l,q⟩
    | cont =>
      obtain⟨g,d,l,p⟩:=j;obtain⟨o,m,q⟩:=t g d p;exact⟨o,m,g,d,l,q⟩
    | brk=>exact j
    | ret v=>exact j
  | false =>
    rw[if_neg aA];exact wpAny_execs_nil ⟨k,H2,r,i⟩
end
structure It where
  go:Nat->Hp->Prop
  yld:Nat->Hp->V->Hp->Prop
  stop:Nat->Hp->Prop
def zc2 (X:Cx)(pins:List (Addr×Obj))(H:Hp)(b:Addr):Prop :=
  H b=none/\b≠X.env.locals/\b∉X.fs/\(b∈X.ex∨X.s₀.heap.objs.size<=b)/\(∀x c,X.env.cells.lookup x=some c->c≠b)/\∀p∈X.pn++pins,p.1≠b
theorem Inv.fpOk {σ:St}{s:fZ}{b:Addr}(I:Inv X pins σ H s)(a:s.heap.objs.size<=b)(d:H' b=none):zc2 X pins H' b:=by
  refine⟨d,dv (aM I.lt a),I.nofs a,.inr (aD I.sz a),λx c e z=>?_,λp f z=>?_⟩
  . obtain⟨v, q⟩ := I.cell x c e;exact absurd (aM q.lt (by rw[z];exact a)) (aO _)
  . exact absurd (aM (aB (I.pin p f).1) (by rw[z];exact a)) (aO _)
structure yg6 (P:gf) (w:gp) (K:W.Frag) (tg:Expr) (J:It) (fp:List Addr) (it:Addr) (tn:Nat->Heap->Prop):Prop where
  mem:it∈fp
  obj:∀i h,tn i h->∀b∈fp,∃o,h.get? b=some o/\∀v,o.data≠.cell v
  keep:∀i h h',tn i h->(∀b∈fp,∀o,h.get? b=some o->h'.get? b=some o)->tn i h'
  item:∀(X:Cx),X.prog=P->X.w=w->X.K=K->X.calm=true->∀(i:Nat) (pins:List (Addr×Obj)) (s:fZ) (σ:St) (H:Hp) (E:Value->fZ->Prop),Inv X pins σ H s->(∀b∈fp,zc2 X pins H b)->tn i s.heap->J.go i H ->
    gg (gn P w) X.A (pyNext (.ref it)) (λr s1=>∃u,r=some u /\
      gg (gn P w) X.A (letOwnedTupleGo tg (.ref it) u) (λ_ s2=>∃x H',Inv X pins σ H' s2/\p8 x u/\J.yld i H x H'/\tn (i+1) s2.heap/\∀b∈fp,H' b=none) E s1) E s
  done:∀(X:Cx),X.prog=P->X.w=w->X.K=K->X.calm=true->∀(i:Nat) (pins:List (Addr×Obj)) (s:fZ) (σ:St) (H:Hp) (E:Value->fZ->Prop),Inv X pins σ H s->(∀b∈fp,zc2 X pins H b)->tn i s.heap->J.stop i H ->
    gg (gn P w) X.A (pyNext (.ref it)) (λr s1=>r=none/\Inv X pins σ H s1) E s
  self:∀(A:gq) (i:Nat) (s:fZ) (Q:Value->fZ->Prop) (E:Value->fZ->Prop),tn i s.heap->Q (.ref it) s->gg (gn P w) A (pyIter (.ref it)) Q E s
abbrev TI:=St->Hp->(It->Hp->Prop)->Prop
def PIE (X:Cx)(pins:List (Addr×Obj))(σ:St)(tg:Expr)(R:It->Hp->Prop)(itv:Value)(s2:fZ):Prop :=
  ∃(it:Addr) (fp:List Addr) (tn:Nat->Heap->Prop) (J:It) (H':Hp),itv=.ref it/\Inv X pins σ H' s2/\yg6 X.prog X.w X.K tg J fp it tn/\tn 0 s2.heap/\(∀b∈fp,zc2 X pins H' b)/\R J H'
def PI (X:Cx)(tg iter:Expr)(wi:TI):Prop :=
  ∀(pins:List (Addr×Obj)) (s:fZ) (σ:St) (H:Hp) (R:It->Hp->Prop),Inv X pins σ H s->wi σ H R ->
    gg (gn X.prog X.w) X.A (eval iter X.env) (λv s1=>gg (gn X.prog X.w) X.A (pyIter v) (PIE X pins σ tg R) X.xe s1) X.xe s
theorem yi3 {E : Value -> fZ -> Prop}{s : fZ}{o : Obj}{Q : Unit -> fZ -> Prop}(d : s.heap.get? it = some o)(hc : o.cls = .type n)(b : o.data = .fields vs)
    (c:["enumerate","zip","dict_itemiterator","dict_reverseitemiterator","odict_iterator","itertools.zip_longest","itertools.pairwise"].contains n=false) (a:Q () s):gg M A (letOwnedTupleGo tg (.ref it) u) Q E s:=by
  unfold letOwnedTupleGo
  cases tg <;> first
    | exact gc a
    | (cases u <;> first
        | exact gc a
        | (refine fY (wpAny_load d ?_)
           rw[hc,b]
           show gg M A (if (["enumerate","zip","dict_itemiterator","dict_reverseitemiterator","odict_iterator","itertools.zip_longest","itertools.pairwise"].contains n&&vs[0]?==some (rawInt _))=true then _ else _) Q E s
           rw[if_neg (by intro h;rw[c,fc]at h;cases h)]
           exact gc a))
def Itl (K:W.Frag)(a:Addr):It :=
  ⟨λi H=>∃xs x,SqL K H a xs/\xs[i]?=some x,λi H x H'=>H'=H/\∀xs,SqL K H a xs->xs[i]?=some x,λi H=>∃xs,SqL K H a xs/\xs.length<=i⟩
def Itt (K:W.Frag)(a:Addr):It :=
  ⟨λi H=>∃xs x,SqT K H a xs/\xs[i]?=some x,λi H x H'=>H'=H/\∀xs,SqT K H a xs->xs[i]?=some x,λi H=>∃xs,SqT K H a xs/\xs.length<=i⟩
def Itr (lo:Int)(n:Nat):It:=⟨λi _=>i<n,λi H x H'=>H'=H/\x=.int (lo+i),λi _=>n<=i⟩
theorem ya9 {P:gf}{w:gp}{K:W.Frag}{tg:Expr}(a it:Addr):yg6 P w K tg (Itl K a) [it] it (λi h=>h.IsListIter it a i) where
  mem:=by simp
  obj:=λi h st b f=>by
    have e:b=it:=by simpa using f
    subst e
    obtain⟨o,e,c,d⟩:=st
    exact⟨o,e,λv z=>by rw[d]at z;cases z⟩
  keep:=λi h h' st k=>st.at λo e=>k it (by simp) o e
  item:=by
    intro X A C y G i pins s σ H E I j st B
    subst A C y
    obtain⟨xs,x,l,D⟩:=B
    obtain⟨F,rv,p,Q⟩:=I.list l
    obtain⟨u,N,R⟩:=rv.get D
    obtain⟨m,n,M,q,r,t⟩:=j it (by simp)
    refine wpAny_pyNext_list_item st p.isList (x:=u) (by simpa using N) λh' g S=>?_
    have J:Inv X pins σ H { s with heap:=h' }:=I.turned (t':=s.toks) (λb o f e=>(S.2 b f).trans e) m n q r t
    obtain⟨o,e,c,d⟩:=id g
    exact⟨u,rfl,yi3 (s:={ s with heap:=h' }) e c d (by decide) ⟨x,H,J,R,⟨rfl,λys O=>by rw[I.list_inj O l];exact D⟩,g,λb f=>(j b f).1⟩⟩
  done:=by
    intro X A C y G i pins s σ H E I j st B
    subst A C y
    obtain⟨xs,l,D⟩:=B
    obtain⟨F,rv,p,Q⟩:=I.list l
    obtain⟨m,n,M,q,r,t⟩:=j it (by simp)
    have T:=rv.length
    exact wpAny_pyNext_list_end (I.ok.hd G) st p.isList (by simp;lia) λh' L=>⟨rfl,I.turned (t':=s.toks) (λb o f e=>L b o f e) m n q r t⟩
  self:=λ_ _ _ _ _ st h=>wpAny_pyIter_listiter st h
theorem zv7 {P:gf}{w:gp}{K:W.Frag}{tg:Expr}(a it:Addr):yg6 P w K tg (Itt K a) [it] it (λi h=>h.IsTupleIter it a i) where
  mem:=by simp
  obj:=λi h st b f=>by
    have e:b=it:=by simpa using f
    subst e
    obtain⟨o,e,c,d⟩:=st
    exact⟨o,e,λv z=>by rw[d]at z;cases z⟩
  keep:=λi h h' st k=>st.at λo e=>k it (by simp) o e
  item:=by
    intro X B D A G i pins s σ H E I l st C
    subst B D A
    obtain⟨xs,x,m,F⟩:=C
    obtain⟨g,rv,p,Q⟩:=I.tuple m
    obtain⟨u,N,R⟩:=rv.get F
    obtain⟨n,q,M,r,t,y⟩:=l it (by simp)
    refine wpAny_pyNext_tuple_item st (show s.heap.IsTuple a g.toArray from p) (x:=u) (by simpa using N) λh' j S=>?_
    have J:Inv X pins σ H { s with heap:=h' }:=I.turned (t':=s.toks) (λb o f e=>(S.2 b f).trans e) n q r t y
    obtain⟨o,e,c,d⟩:=id j
    exact⟨u,rfl,yi3 (s:={ s with heap:=h' }) e c d (by decide) ⟨x,H,J,R,⟨rfl,λys O=>by rw[I.tuple_inj O m];exact F⟩,j,λb f=>(l b f).1⟩⟩
  done:=by
    intro X B D A G i pins s σ H E I l st C
    subst B D A
    obtain⟨xs,m,F⟩:=C
    obtain⟨g,rv,p,Q⟩:=I.tuple m
    obtain⟨n,q,M,r,t,y⟩:=l it (by simp)
    have T:=rv.length
    exact wpAny_pyNext_tuple_end (I.ok.hd G) st (show s.heap.IsTuple a g.toArray from p) (by simp;lia) λh' L=>⟨rfl,I.turned (t':=s.toks) (λb o f e=>L b o f e) n q r t y⟩
  self:=λ_ _ _ _ _ st h=>wpAny_pyIter_tupleiter st h
theorem yu4 {P:gf}{w:gp}{K:PySem.W.Frag}{tg:Expr}(it:Addr)(lo:Int)(n:Nat):yg6 P w K tg (Itr lo n) [it] it (λi h=>IsRangeIter h it (lo+(i:Nat)*1) ((n:Int)-(i:Nat)) 1) where
  mem:=by simp
  obj:=λi h st b a=>by
    have e:b=it:=by simpa using a
    subst e
    exact⟨_,st,λv z=>by
      have F:Data.fields _=Data.cell v:=z
      cases F⟩
  keep:=λi h h' st k=>k it (by simp) _ st
  item:=by
    intro X q x p r i pins s σ H E I d st u
    subst q x p
    obtain⟨f,g,B,j,l,m⟩:=d it (by simp)
    have W:=Walks.range (prog:=X.prog) (w:=X.w) (I.ok.hd r) it lo 1 n
    refine W.item i s _ _ u st λv h' tk C c D=>?_
    obtain⟨t,rfl⟩:=C
    have y:Inv X pins σ H { s with heap:=h',toks:=tk }:=I.turned (λb o a e=>D b o (by simpa using a) e) f g j l m
    refine⟨_,rfl,yi3 (s:={ s with heap:=h',toks:=tk }) (n:="range_iterator") c rfl rfl (by decide) ⟨.int (lo+i),H,y,⟨t,?_⟩,⟨rfl,rfl⟩,c,λb a=>(d b a).1⟩⟩
    rw[Int.mul_one]
  done:=by
    intro X q x p r i pins s σ H E I d st u
    subst q x p
    obtain⟨f,g,B,j,l,m⟩:=d it (by simp)
    exact wpAny_pyNext_range_end (I.ok.hd r) st (by have:n<=i:=u;lia) λh' A=>⟨rfl,I.turned (t':=s.toks) (λb o a e=>A b o a e) f g j l m⟩
  self:=λ_ _ _ _ _ st h=>wpAny_pyIter_rangeiter st h
section
variable {X:Cx}{tg:Expr}
def wd4 (K:W.Frag)(tl:TE):TI:=λσ H R=>tl σ H λx H1=>∃a,x=.ref a/\(∃xs,SqL K H1 a xs)/\R (Itl K a) H1
def wh4 (K:W.Frag)(tl:TE):TI:=λσ H R=>tl σ H λx H1=>∃a,x=.ref a/\(∃xs,SqT K H1 a xs)/\R (Itt K a) H1
theorem Y8 (hl:PE X l tl):PI X tg l (wd4 X.K tl):=by
  intro pins s σ H R I h;refine thn (hl pins s σ H _ I h) λv s1 ⟨x,H1,c,j,i⟩=>?_;obtain⟨a,e,⟨xs,f⟩,q⟩:=i;subst e
  cases j
  obtain⟨g,rv,p,k⟩:=c.list f;refine wpAny_pyIter_list p.isList ?_;refine⟨s1.heap.objs.size,[s1.heap.objs.size],_,_,H1,rfl,c.kept (t':=s1.toks) λb o e=>ap _ e,ya9 a _,⟨_,aC _ rfl,rfl,rfl⟩,λb d=>?_,q⟩;have e:b=s1.heap.objs.size:=by simpa using d
  subst e;exact c.fpOk (af _) (c.hok.fresh (af _))
theorem zd2 (hl:PE X l tl):PI X tg l (wh4 X.K tl):=by
  intro pins s σ H R I h;refine thn (hl pins s σ H _ I h) λv s1 ⟨x,H1,c,j,i⟩=>?_;obtain⟨a,e,⟨xs,g⟩,q⟩:=i;subst e
  cases j
  obtain⟨d,rv,p,k⟩:=c.tuple g;refine wpAny_pyIter_tuple (show s1.heap.IsTuple a d.toArray from p) ?_;refine⟨s1.heap.objs.size,[s1.heap.objs.size],_,_,H1,rfl,c.kept (t':=s1.toks) λb o e=>ap _ e,zv7 a _,⟨_,aC _ rfl,rfl,rfl⟩,λb f=>?_,q⟩;have e:b=s1.heap.objs.size:=by simpa using f
  subst e;exact c.fpOk (af _) (c.hok.fresh (af _))
theorem xm0 {σ : St}{s : fZ}{R : It -> Hp -> Prop}{E : Value -> fZ -> Prop}{lo hi : Int}{c : Nat}(I : Inv X pins σ H s)(h1 : -(2 ^ 62) <= lo)(h2 : lo<2 ^ 62)(g : -(2 ^ 62) <= hi)(h : hi<2 ^ 62)
    (q:R (Itr lo (hi-lo).toNat) H):gg (gn X.prog X.w) X.A (pyIter (.ref s.heap.objs.size)) (PIE X pins σ tg R) E { s with heap:=s.heap.push { cls:=.type "range",data:=.fields #[.int lo t,.int hi u,.int 1 v] },toks:=c }:=by
  refine wpAny_pyIter_range (IsRange.new ..) (small_one h1 h2 g h) ?_;have a:Inv X pins σ H { s with heap:=s.heap.push { cls:=.type "range",data:=.fields #[.int lo t,.int hi u,.int 1 v] },toks:=c }:=I.kept λb o e=>ap _ e;refine⟨(s.heap.push { cls:=.type "range",data:=.fields #[.int lo t,.int hi u,.int 1 v] }).objs.size,[(s.heap.push { cls:=.type "range",data:=.fields #[.int lo t,.int hi u,.int 1 v] }).objs.size],_,_,H,rfl,
    a.kept (t':=c) λb o e=>ap _ e,yu4 _ lo (hi-lo).toNat,?_,λb i=>?_,q⟩
  . have d : lo+((0 : Nat) : Int)*1 = lo := by simp
    have f:(((hi-lo).toNat:Nat):Int)-((0:Nat):Int)=Builtin.Range.rangeSize lo hi 1:=by rw[rangeSize_one];split <;> lia
    show IsRangeIter _ _ (lo+((0:Nat):Int)*1) ((((hi-lo).toNat:Nat):Int)-((0:Nat):Int)) 1;rw[d,f];exact aC _ rfl
  . have e : b = (s.heap.push { cls := .type "range", data := .fields #[.int lo t, .int hi u, .int 1 v] }).objs.size := by simpa using i
    subst e;exact a.fpOk (af _) (a.hok.fresh (af _))
def wd6 (ta:TA):TI:=λσ H R=>ta σ H λvs H1=>∃j:Int,vs=[.int j]/\-(2 ^ 62)<=j/\j<2 ^ 62/\R (Itr 0 j.toNat) H1
theorem T0 (hg:Gl X "range")(hm:X.mg "range"=none)(ha:PA X [a] ta)(hs:gh [a] X.env=[(false,eval a X.env)]:=by rfl):PI X tg (.Call (.Name "range" p) [a] [] pos) (wd6 ta):=by
  intro pins s σ H R I h;refine Call_ (J4 I hg hm boot_range (PyProof.Rows.callWith_type1 (thn (ha pos pins s σ H _ I h) λus s1 ⟨vs,H1,I1,r1,q1⟩=>?_) hs rfl));obtain⟨j,e,q1,q2,q⟩:=q1;subst e
  cases r1 with
  | cons r rr =>
    cases rr
    obtain⟨t,rfl⟩:=r;exact call_range_1 (xm0 I1 (by lia) (by lia) q1 q2 (by simpa using q))
def wi6 (wi:TI)(g:TG)(tb:TS):TS:=λD σ H=>wi σ H λJ H1=>∃W:Nat->Nat->St->Hp->Prop,(∃m,W 0 m σ H1)/\∀i m σ H,W i m σ H ->
  (J.stop i H/\D.nx σ H)∨(J.go i H/\∃N:St->Hp->Prop,(∀σ' H',N σ' H'->∃m',m'<m/\W (i+1) m' σ' H')/\∀x H',J.yld i H x H'->g x σ H' λσ2 H2=>tb { D with nx:=N,ct:=N,bk:=D.nx } σ2 H2)
def yf0 (fp:List Addr)(h:Heap):List (Addr×Obj):=fp.filterMap λb=>(h.get? b).map λo=>(b,o)
theorem P6 {h:Heap}(hb:b∈fp)(e:h.get? b=some o):(b,o)∈yf0 fp h:=bA.mpr ⟨b,hb,by rw[e];rfl⟩
theorem xc2 {h:Heap}{p:Addr×Obj}(d:p∈yf0 fp h):p.1∈fp/\h.get? p.1=some p.2:=by
  obtain⟨b,c,e⟩:=bA.mp d
  cases q:h.get? b with
  | none=>rw[q]at e;cases e
  | some o =>
    rw[q]at e;have a:(b,o)=p:=Option.some.inj e;subst a;exact⟨c,q⟩
theorem Inv.pinned {σ:St}{s:fZ}(I:Inv X pins σ H s)(hf:∀b∈fp,zc2 X pins H b)(ho:∀b∈fp,∃o,s.heap.get? b=some o/\∀v,o.data≠.cell v):Inv X (pins++yf0 fp s.heap) σ H s :=
  I.pins_of λp hp=>(aH.mp hp).elim (λz=>I.pin p (aF _ z)) λz=>by
    obtain⟨hb,e⟩:=xc2 z
    obtain⟨f0,f1,f2,_⟩:=hf p.1 hb
    obtain⟨o,e',d⟩:=ho p.1 hb
    rw[e]at e';cases e'
    exact⟨e,f0,f1,f2,d⟩
theorem Inv.unpinned {σ:St}(I:Inv X (pins++pl) σ H s):Inv X pins σ H s:=I.pins_of λp hp=>I.pin p (aF _ (aR _ hp))
theorem Z9 (hp : PassesOwn (gn X.prog X.w) X.A X.env X.xe)(hc : X.calm = true)(hi : PI X tg iter wi)(hg : PG X tg g)(hb : PSs X body tb)
    (hs:∀x,foldedSetIterable iter X.env x=pure x:=by intro _;rfl):PS X (.For tg iter body [] pos) (wi6 wi g tb):=by
  intro pins s σ H D I h;refine wpAny_For (thn (hi pins s σ H _ I h) λv s1 h1=>thn h1 λitv s2 h2=>?_) hs;obtain⟨it,fp,tn,J,H2,e,I2,T,st2,f2,W,⟨m0,w0⟩,turn⟩:=h2;subst e;have stat:∀{H':Hp},(∀b∈fp,H' b=none)->∀b∈fp,zc2 X pins H' b:=λhn b hb=>⟨hn b hb,(f2 b hb).2⟩;refine codeAny_forLoop_any (λn s'=>∃i σ' H',Inv X pins σ' H' s'/\tn i s'.heap/\(∀b∈fp,H' b=none)/\W i n σ' H') ?_ m0 ⟨0,σ,H2,I2,st2,λb hb=>(f2 b hb).1,w0⟩;rintro n s3 ⟨i,σ3,H3,I3,st3,fr3,w3⟩;rcases turn i n σ3 H3 w3 with⟨stop,qn⟩|⟨go,N,hN,step⟩
  . refine wpAny_passesOwn hp (thn (T.done X rfl rfl rfl hc i pins s3 σ3 H3 X.xe I3 (stat fr3) st3 stop) λr s4 ⟨hr, I4⟩ => ?_);subst hr;exact wpAny_execs_nil ⟨σ3,H3,I4,qn⟩
  . refine wpAny_passesOwn hp (thn (T.item X rfl rfl rfl hc i pins s3 σ3 H3 X.xe I3 (stat fr3) st3 go) λr s4 ⟨u, hr, h4⟩ => ?_);subst hr;refine wpAny_passesOwn hp (thn h4 λ_ s5 ⟨x,H5,I5,r5,y5,st5,fr5⟩=>?_);have I5':=I5.pinned (stat fr5) (T.obj _ _ st5);refine wpAny_passesOwn hp (thn (hg _ s5 σ3 H5 x u _ I5' r5 (step x H5 y5)) λ_ s6 ⟨σ6,H6,I6,q6⟩=>?_);refine wpAny_passesOwn hp (thn (hb _ s6 σ6 H6 _ I6 q6) λf s7 q7=>?_);have again:∀{σ7:St} {H7:Hp},Inv X (pins++yf0 fp s5.heap) σ7 H7 s7->N σ7 H7->∃m,m<n/\∃i σ' H',Inv X pins σ' H' s7/\tn i s7.heap/\(∀b∈fp,H' b=none)/\W i m σ' H':=λ{σ7 H7} I7 n7=>by
      obtain⟨m',hm,w7⟩:=hN σ7 H7 n7;refine⟨m',hm,i+1,σ7,H7,I7.unpinned,T.keep _ _ _ st5 λb hb o e=>(I7.pin (b,o) (aF _ (aF _ (P6 hb e)))).1,λb hb=>?_,w7⟩;obtain⟨o,e,d⟩:=T.obj _ _ st5 b hb;exact(I7.pin (b,o) (aF _ (aF _ (P6 hb e)))).2.1
    cases f with
    | next=>obtain⟨σ7,H7,I7,n7⟩:=q7;exact again I7 n7
    | cont=>obtain⟨σ7,H7,I7,n7⟩:=q7;exact again I7 n7
    | brk=>obtain⟨σ7,H7,I7,q7⟩:=q7;exact⟨σ7,H7,I7.unpinned,q7⟩
    | ret v=>obtain⟨x7,σ7,H7,I7,r7,q7⟩:=q7;exact⟨x7,σ7,H7,I7.unpinned,r7,q7⟩
end
theorem V5 {K : PySem.W.Frag}{xs : List V}{g : TG}{tb : TS}{D : zc1}{H : Hp}(b : Nat -> St -> Hp -> Prop)(f : b 0 σ H)(hl : ∀i σ H, i <= xs.length -> b i σ H -> SqL K H a xs)
    (j:∀i x σ H,xs[i]?=some x->b i σ H->g x σ H λσ2 H2=>tb { D with nx:=b (i+1),ct:=b (i+1),bk:=D.nx } σ2 H2) (h:∀σ H,b xs.length σ H->D.nx σ H) :
    ∃W:Nat->Nat->St->Hp->Prop,(∃m,W 0 m σ H)/\∀i m σ H,W i m σ H ->
      ((Itl K a).stop i H/\D.nx σ H)∨((Itl K a).go i H/\∃N:St->Hp->Prop,(∀d H',N d H'->∃m',m'<m/\W (i+1) m' d H')/\∀x H',(Itl K a).yld i H x H'->g x σ H' λσ2 H2=>tb { D with nx:=N,ct:=N,bk:=D.nx } σ2 H2):=by
  refine⟨λi m σ H=>m=xs.length-i/\i<=xs.length/\b i σ H,⟨xs.length,by simp,aG _,f⟩,?_⟩;rintro i m σ H ⟨rfl,hi,p⟩;have q:=hl i σ H hi p;by_cases c:i<xs.length
  . refine .inr ⟨⟨xs, xs[i], q, by simp[c]⟩, b (i+1), λd H' k => ⟨xs.length-(i+1), by lia, rfl, c, k⟩, λx H' y => ?_⟩;obtain⟨e,y⟩:=y;subst e;exact j i x σ _ (y xs q) p
  . have e : i = xs.length := by lia
    subst e;exact .inl ⟨⟨xs,q,af _⟩,h σ H p⟩
theorem yc5 {K : PySem.W.Frag}{xs : List V}{g : TG}{tb : TS}{D : zc1}{H : Hp}(b : Nat -> St -> Hp -> Prop)(f : b 0 σ H)(hl : ∀i σ H, i <= xs.length -> b i σ H -> SqT K H a xs)
    (j:∀i x σ H,xs[i]?=some x->b i σ H->g x σ H λσ2 H2=>tb { D with nx:=b (i+1),ct:=b (i+1),bk:=D.nx } σ2 H2) (h:∀σ H,b xs.length σ H->D.nx σ H) :
    ∃W:Nat->Nat->St->Hp->Prop,(∃m,W 0 m σ H)/\∀i m σ H,W i m σ H ->
      ((Itt K a).stop i H/\D.nx σ H)∨((Itt K a).go i H/\∃N:St->Hp->Prop,(∀d H',N d H'->∃m',m'<m/\W (i+1) m' d H')/\∀x H',(Itt K a).yld i H x H'->g x σ H' λσ2 H2=>tb { D with nx:=N,ct:=N,bk:=D.nx } σ2 H2):=by
  refine⟨λi m σ H=>m=xs.length-i/\i<=xs.length/\b i σ H,⟨xs.length,by simp,aG _,f⟩,?_⟩;rintro i m σ H ⟨rfl,hi,p⟩;have q:=hl i σ H hi p;by_cases c:i<xs.length
  . refine .inr ⟨⟨xs, xs[i], q, by simp[c]⟩, b (i+1), λd H' k => ⟨xs.length-(i+1), by lia, rfl, c, k⟩, λx H' y => ?_⟩;obtain⟨e,y⟩:=y;subst e;exact j i x σ _ (y xs q) p
  . have e : i = xs.length := by lia
    subst e;exact .inl ⟨⟨xs,q,af _⟩,h σ H p⟩
theorem xb1 {lo : Int}{g : TG}{tb : TS}{D : zc1}{H : Hp}(a : Nat -> St -> Hp -> Prop)(d : a 0 σ H)
    (h:∀i σ H,i<n->a i σ H->g (.int (lo+i)) σ H λσ2 H2=>tb { D with nx:=a (i+1),ct:=a (i+1),bk:=D.nx } σ2 H2) (f:∀σ H,a n σ H->D.nx σ H) :
    ∃W:Nat->Nat->St->Hp->Prop,(∃m,W 0 m σ H)/\∀i m σ H,W i m σ H ->
      ((Itr lo n).stop i H/\D.nx σ H)∨((Itr lo n).go i H/\∃N:St->Hp->Prop,(∀c H',N c H'->∃m',m'<m/\W (i+1) m' c H')/\∀x H',(Itr lo n).yld i H x H'->g x σ H' λσ2 H2=>tb { D with nx:=N,ct:=N,bk:=D.nx } σ2 H2):=by
  refine⟨λi m σ H=>m=n-i/\i<=n/\a i σ H,⟨n,by simp,aG _,d⟩,?_⟩;rintro i m σ H ⟨rfl,hi,p⟩;by_cases b:i<n
  . refine .inr ⟨b, a (i+1), λc H' j => ⟨n-(i+1), by lia, rfl, b, j⟩, λx H' y => ?_⟩;obtain⟨e,y⟩:=y;subst e y;exact h i σ _ b p
  . have e : i = n := by lia
    subst e;exact .inl ⟨af _,f σ H p⟩
theorem xp8 {D : zc1}(d : St -> Hp -> Prop)(μ : St -> Hp -> Nat)(e : d σ H)
    (f:∀σ H,d σ H->c σ H λb H1=>if b=true then tb { D with nx:=λa H'=>d a H'/\μ a H'<μ σ H,ct:=λa H'=>d a H'/\μ a H'<μ σ H,bk:=D.nx } σ H1 else D.nx σ H1)
    (mono:∀σ H Q Q',(∀b H1,Q b H1->Q' b H1)->c σ H Q->c σ H Q'):xp4 c tb D σ H:=by
  refine⟨λm σ H=>m=μ σ H/\d σ H,⟨_,rfl,e⟩,?_⟩;rintro m σ H ⟨rfl,p⟩;refine mono σ H _ _ (λb H1 q=>?_) (f σ H p)
  cases b with
  | true=>exact⟨_,λa H' ⟨g,l⟩=>⟨_,l,rfl,g⟩,q⟩
  | false=>exact q
abbrev R2:=V->V->Hp->VK->Prop
def OpR (X:Cx)(f:Value->Value->Sem Value)(r:R2):Prop :=
  ∀(pins:List (Addr×Obj)) (s:fZ) (σ:St) (H:Hp) (x y:V) (v u:Value) (Q:VK),Inv X pins σ H s->p8 x v->p8 y u->r x y H Q ->
    gg (gn X.prog X.w) X.A (f v u) (EP X pins σ Q) X.xe s
def UnR (X:Cx)(f:Value->Sem Value)(r:V->Hp->VK->Prop):Prop :=
  ∀(pins:List (Addr×Obj)) (s:fZ) (σ:St) (H:Hp) (x:V) (v:Value) (Q:VK),Inv X pins σ H s->p8 x v->r x H Q ->
    gg (gn X.prog X.w) X.A (f v) (EP X pins σ Q) X.xe s
def V1 (X:Cx)(f:Value)(r:List V->Hp->VK->Prop):Prop :=
  ∀(pins:List (Addr×Obj)) (s:fZ) (σ:St) (H:Hp) (xs:List V) (us:List Value) (Q:VK),Inv X pins σ H s->r8 xs us->r xs H Q ->
    gg (gn X.prog X.w) X.A (call f us) (EP X pins σ Q) X.xe s
def wg5 (X:Cx)(r:V->Hp->(Bool->Hp->Prop)->Prop):Prop :=
  ∀(pins:List (Addr×Obj)) (s:fZ) (σ:St) (H:Hp) (x:V) (v:Value) (Q:Bool->Hp->Prop),Inv X pins σ H s->p8 x v->r x H Q ->
    gg (gn X.prog X.w) X.A (truthy v) (TP X pins σ Q) X.xe s
def tOp (r:R2)(ta tb:TE):TE:=λσ H Q=>ta σ H λx H1=>tb σ H1 λy H2=>r x y H2 Q
def tUn (r:V->Hp->VK->Prop)(ta:TE):TE:=λσ H Q=>ta σ H λx H1=>r x H1 Q
def rI (C:Int->Int->Prop)(g:Int->Int->V):R2:=λx y H Q=>∃i j,x=.int i/\y=.int j/\C i j/\Q (g i j) H
def rI0 (g:Int->Int->V):R2:=λx y H Q=>∃i j,x=.int i/\y=.int j/\Q (g i j) H
def rU (g:Int->V):V->Hp->VK->Prop:=λx H Q=>∃i,x=.int i/\Q (g i) H
section
variable {X:Cx}{a b c:Expr}{ta tb tc:TE}{pos:Pos}
theorem xw7 (g : PE X a ta)(i : PE X b tb){σ : St}{R : V -> V -> Hp -> Prop}(I : Inv X pins σ H s)
    (h:ta σ H λx H1=>tb σ H1 λy H2=>R x y H2) {Q:Value->fZ->Prop} {f:Value->Value->Sem Value}
    (j:∀v u c x y H2,Inv X pins σ H2 c->p8 x v->p8 y u->R x y H2->gg (gn X.prog X.w) X.A (f v u) Q X.xe c) :
    gg (gn X.prog X.w) X.A (eval a X.env) (λv s₁=>gg (gn X.prog X.w) X.A (eval b X.env) (λu s₂=>gg (gn X.prog X.w) X.A (f v u) Q X.xe s₂) X.xe s₁) X.xe s:=by
  refine thn (g pins s σ H _ I h) λv s1 ⟨x,H1,d,m,k⟩=>?_;refine thn (i pins s1 σ H1 _ d k) λu c ⟨y,H2,e,n,l⟩=>?_;exact j v u c x y H2 e m n l
theorem o7 {c:Operator}(g:OpR X (binaryOp c) r)(e:PE X a ta)(f:PE X b tb):PE X (.BinOp a c b pos) (tOp r ta tb):=by
  intro pins s σ H Q I h;exact wpAny_BinOp (xw7 e f I h λv u k x y H2 d i j q=>g pins k σ H2 x y v u Q d i j q)
theorem zs7 {b:UnaryOp}{r:V->Hp->VK->Prop}(e:UnR X (unaryOp b) r)(d:PE X a ta):PE X (.UnaryOp b a pos) (tUn r ta):=by
  intro pins s σ H Q I h;exact UnaryOp_ (thn (d pins s σ H _ I h) λv s1 ⟨x,H1,c,g,f⟩=>e pins s1 σ H1 x v Q c g f)
theorem opI {f : Value -> Value -> Sem Value}{C : Int -> Int -> Prop}{g : Int -> Int -> Int}
    (a:∀(i j:Int) (t u:Tok) (s:fZ) (Q:Value->fZ->Prop) (E:Value->fZ->Prop),C i j->Q (.int (g i j) s.toks) { s with toks:=s.toks+1 }->gg (gn X.prog X.w) X.A (f (.int i t) (.int j u)) Q E s) :
    OpR X f (rI C λi j=>.int (g i j)):=by
  intro pins s σ H x y v u Q I c d h;obtain⟨i,j,rfl,rfl,b,q⟩:=h;obtain⟨t,rfl⟩:=c;obtain⟨e,rfl⟩:=d;exact a i j t e s _ _ b ⟨.int (g i j),H,I.tok _,⟨_,rfl⟩,q⟩
theorem xz3 {f : Value -> Value -> Sem Value}{g : Int -> Int -> Int}
    (a:∀(i j:Int) (t u:Tok) (s:fZ) (Q:Value->fZ->Prop) (E:Value->fZ->Prop),Q (.int (g i j) s.toks) { s with toks:=s.toks+1 }->gg (gn X.prog X.w) X.A (f (.int i t) (.int j u)) Q E s) :
    OpR X f (rI0 λi j=>.int (g i j)):=by
  intro pins s σ H x y v u Q I b c h;obtain⟨i,j,rfl,rfl,q⟩:=h;obtain⟨t,rfl⟩:=b;obtain⟨d,rfl⟩:=c;exact a i j t d s _ _ ⟨.int (g i j),H,I.tok _,⟨_,rfl⟩,q⟩
theorem xs6 {f : Value -> Value -> Sem Value}{g : Int -> Int -> Bool}
    (a:∀(i j:Int) (t u:Tok) (s:fZ) (Q:Value->fZ->Prop) (E:Value->fZ->Prop),Q (.bool (g i j)) s->gg (gn X.prog X.w) X.A (f (.int i t) (.int j u)) Q E s) :
    OpR X f (rI0 λi j=>.bl (g i j)):=by
  intro pins s σ H x y v u Q I b c h;obtain⟨i,j,rfl,rfl,q⟩:=h;obtain⟨t,rfl⟩:=b;obtain⟨d,rfl⟩:=c;exact a i j t d s _ _ ⟨.bl (g i j),H,I,rfl,q⟩
def wc3 (i j:Int):Prop:=0<j/\j<1073741824
def xq1 (i j:Int):Prop:=(-(2 ^ 64)<i/\i<2 ^ 64)∨(-(2 ^ 64)<j/\j<2 ^ 64)
theorem xq1.ok (h:xq1 i j):IntMulOk i j:=by
  rcases h with⟨h1,h2⟩|⟨h1,h2⟩
  . exact .of_left (intBits_le_64 h1 h2)
  . exact .of_right (intBits_le_64 h1 h2)
theorem R4:OpR X (binaryOp .Add) (rI0 λi j=>.int (i+j)):=xz3 λ_ _ _ _ _ _ _ q=>add_int q
theorem zj4:OpR X (binaryOp .Sub) (rI0 λi j=>.int (i-j)):=xz3 λ_ _ _ _ _ _ _ q=>sub_int q
theorem xz6:OpR X (binaryOp .Mult) (rI xq1 λi j=>.int (i*j)):=opI λ_ _ _ _ _ _ _ hc q=>mul_int q hc.ok
theorem N4:OpR X (binaryOp .FloorDiv) (rI wc3 λi j=>.int (i / j)):=opI λi j _ _ _ _ _ hc q=>by
  have h1:(0:Int)<j:=hc.1
  have h2:j<1073741824:=hc.2
  exact floordiv_int (by lia) (by rw[dB i (by lia)];exact q) (.inl (PyProof.noPylong_small (by lia)))
theorem P8:OpR X (binaryOp .Mod) (rI (λ_ j=>0<j) λi j=>.int (i % j)):=opI λi j _ _ _ _ _ hc q=>by
  have h1:(0:Int)<j:=hc
  exact mod_int' (by lia) (by rw[fh i (by lia)];exact q)
theorem xr5:OpR X (inplaceOp .Add) (rI0 λi j=>.int (i+j)):=xz3 λ_ _ _ _ _ _ _ q=>iadd_int q
theorem unI {f : Value -> Sem Value}{g : Int -> Int}
    (a:∀(i:Int) (t:Tok) (s:fZ) (Q:Value->fZ->Prop) (E:Value->fZ->Prop),Q (.int (g i) s.toks) { s with toks:=s.toks+1 }->gg (gn X.prog X.w) X.A (f (.int i t)) Q E s) :
    UnR X f (rU λi=>.int (g i)):=by
  intro pins s σ H x v Q I b h;obtain⟨i,rfl,q⟩:=h;obtain⟨t,rfl⟩:=b;exact a i t s _ _ ⟨.int (g i),H,I.tok _,⟨_,rfl⟩,q⟩
theorem ze5:UnR X (unaryOp .USub) (rU λi=>.int (-i)):=unI λ_ _ _ _ _ q=>neg_int q
end
def wf0 : V -> V -> Bool
  | .non,.non=>true | .non,.int _=>true | .int _,.non=>true | .non,.bl _=>true | .bl _,.non=>true | .non,.str _=>true | .str _,.non=>true
  | .int _,.int _=>true | .bl _,.bl _=>true | .str _,.str _=>true | .byt _,.byt _=>true
  | .int _,.str _=>true | .str _,.int _=>true | .bl _,.str _=>true | .str _,.bl _=>true
  | _,_=>false
def rEq:R2:=λx y H Q=>wf0 x y=true/\Q (.bl (decide (x=y))) H
def rNe:R2:=λx y H Q=>wf0 x y=true/\Q (.bl (!decide (x=y))) H
theorem yu9 :decide (V.int i=V.int j)=(i==j):=by
  rw[du];simp
theorem xg5 :decide (V.bl i=V.bl j)=(i==j):=by
  rw[du];simp
theorem yv0 :decide (V.str i=V.str j)=(i==j):=by
  rw[du];simp
theorem yu8 {i j:Array UInt8}:decide (V.byt i=V.byt j)=(i.toList==j.toList):=by
  rw[du]
  cases i
  cases j
  simp
section
variable {X:Cx}{a b c:Expr}{ta tb tc:TE}{pos:Pos}
theorem m7 {σ:St}{k a:Bool}(I:Inv X pins σ H s)(q:Q (.bl k) H)(e:k=a):EP X pins σ Q (.bool a) s:=by
  subst e;exact⟨.bl k,H,I,rfl,q⟩
theorem P7:OpR X (compareOp .Eq) rEq:=by
  intro pins s σ H x y v u Q I d a h;obtain⟨c,q⟩:=h
  cases x with
  | non =>
    cases d
    cases y with
    | non=>cases a;exact PySem.EqNone.eq_none_none (m7 I q (by simp))
    | bl j=>cases a;exact PySem.EqNone.eq_none_bool (m7 I q (by simp))
    | int j=>obtain⟨b,rfl⟩:=a;exact PySem.EqNone.eq_none_int (m7 I q (by simp))
    | str j=>obtain⟨b,rfl⟩:=a;exact PySem.EqNone.eq_none_str (m7 I q (by simp))
    | _=>exact absurd (show false=true from c) aA
  | bl i =>
    cases d
    cases y with
    | non=>cases a;exact PySem.EqNone.eq_bool_none (m7 I q (by simp))
    | bl j=>cases a;exact eq_bool (m7 I q xg5)
    | str j=>obtain⟨b,rfl⟩:=a;exact PySem.EqMixed.eq_bool_str (m7 I q (by simp))
    | _=>exact absurd (show false=true from c) aA
  | int i =>
    obtain⟨t,rfl⟩:=d
    cases y with
    | non=>cases a;exact PySem.EqNone.eq_int_none (m7 I q (by simp))
    | int j=>obtain⟨b,rfl⟩:=a;exact eq_int (m7 I q yu9)
    | str j=>obtain⟨b,rfl⟩:=a;exact PySem.EqMixed.eq_int_str (m7 I q (by simp))
    | _=>exact absurd (show false=true from c) aA
  | str i =>
    obtain⟨t,rfl⟩:=d
    cases y with
    | non=>cases a;exact PySem.EqNone.eq_str_none (m7 I q (by simp))
    | bl j=>cases a;exact PySem.EqMixed.eq_str_bool (m7 I q (by simp))
    | int j=>obtain⟨b,rfl⟩:=a;exact PySem.EqMixed.eq_str_int (m7 I q (by simp))
    | str j=>obtain⟨b,rfl⟩:=a;exact eq_str (m7 I q yv0)
    | _=>exact absurd (show false=true from c) aA
  | byt i =>
    obtain⟨t,rfl⟩:=d
    cases y with
    | byt j=>obtain⟨b,rfl⟩:=a;exact W.eq_bytes (m7 I q yu8)
    | _=>exact absurd (show false=true from c) aA
  | _=>cases y <;> exact absurd (show false=true from c) aA
theorem yw9:OpR X (compareOp .NotEq) rNe:=by
  intro pins s σ H x y v u Q I d a h;obtain⟨c,q⟩:=h
  cases x with
  | non =>
    cases d
    cases y with
    | non=>cases a;exact PySem.EqNone.ne_none_none (m7 I q (by simp))
    | bl j=>cases a;exact PySem.EqNone.ne_none_bool (m7 I q (by simp))
    | int j=>obtain⟨b,rfl⟩:=a;exact PySem.EqNone.ne_none_int (m7 I q (by simp))
    | str j=>obtain⟨b,rfl⟩:=a;exact PySem.EqNone.ne_none_str (m7 I q (by simp))
    | _=>exact absurd (show false=true from c) aA
  | bl i =>
    cases d
    cases y with
    | non=>cases a;exact PySem.EqNone.ne_bool_none (m7 I q (by simp))
    | bl j=>cases a;exact ne_bool (m7 I q (congrArg not xg5))
    | str j=>obtain⟨b,rfl⟩:=a;exact PySem.EqMixed.ne_bool_str (m7 I q (by simp))
    | _=>exact absurd (show false=true from c) aA
  | int i =>
    obtain⟨t,rfl⟩:=d
    cases y with
    | non=>cases a;exact PySem.EqNone.ne_int_none (m7 I q (by simp))
    | int j=>obtain⟨b,rfl⟩:=a;exact ne_int (m7 I q (congrArg not yu9))
    | str j=>obtain⟨b,rfl⟩:=a;exact PySem.EqMixed.ne_int_str (m7 I q (by simp))
    | _=>exact absurd (show false=true from c) aA
  | str i =>
    obtain⟨t,rfl⟩:=d
    cases y with
    | non=>cases a;exact PySem.EqNone.ne_str_none (m7 I q (by simp))
    | bl j=>cases a;exact PySem.EqMixed.ne_str_bool (m7 I q (by simp))
    | int j=>obtain⟨b,rfl⟩:=a;exact PySem.EqMixed.ne_str_int (m7 I q (by simp))
    | str j=>obtain⟨b,rfl⟩:=a;exact ne_str (m7 I q (congrArg not yv0))
    | _=>exact absurd (show false=true from c) aA
  | byt i =>
    obtain⟨t,rfl⟩:=d
    cases y with
    | byt j=>obtain⟨b,rfl⟩:=a;exact W.ne_bytes (m7 I q (congrArg not yu8))
    | _=>exact absurd (show false=true from c) aA
  | _=>cases y <;> exact absurd (show false=true from c) aA
theorem ya0:OpR X (compareOp .Lt) (rI0 λi j=>.bl (decide (i<j))):=xs6 λ_ _ _ _ _ _ _ q=>lt_int q
theorem zs5:OpR X (compareOp .LtE) (rI0 λi j=>.bl (decide (i<=j))):=xs6 λ_ _ _ _ _ _ _ q=>le_int q
theorem yk7:OpR X (compareOp .Gt) (rI0 λi j=>.bl (decide (j<i))):=xs6 λ_ _ _ _ _ _ _ q=>gt_int q
theorem we2:OpR X (compareOp .GtE) (rI0 λi j=>.bl (decide (j<=i))):=xs6 λ_ _ _ _ _ _ _ q=>ge_int q
theorem xs8:OpR X (compareOp .IsNot) (λx y H Q=>y=.non/\Q (.bl (!decide (x=.non))) H):=by
  intro pins s σ H x y v u Q I a b h;obtain⟨rfl,q⟩:=h
  cases b
  refine isnot_none_gen (m7 I q ?_)
  cases x <;> first
    | (cases a;rfl)
    | (obtain⟨t,rfl⟩:=a;rfl)
theorem o6 (b:Expr)(h:op≠.In:=by decide)(h2:op≠.NotIn:=by decide):behindInMarks op b=false:=by
  have e1:(op==CmpOp.In)=false:=by cases op <;> first|rfl|exact absurd rfl h
  have e2:(op==CmpOp.NotIn)=false:=by cases op <;> first|rfl|exact absurd rfl h2
  cases b <;> simp[behindInMarks,e1,e2]
theorem J7 {c:CmpOp}(i:OpR X (compareOp c) r)(e:PE X a ta)(f:PE X b tb)(g:behindInMarks c b=false):PE X (.Compare a [c] [b] pos) (tOp r ta tb):=by
  intro pins s σ H Q I h;exact wpAny_Compare1 (xw7 e f I h λv u l x y H2 d j k q=>i pins l σ H2 x y v u Q d j k q) g
def xw4 (t:TE):TT:=λσ H Q=>t σ H λx H'=>∃k,x=.bl k/\Q k H'
theorem p5 (o:OpR X (compareOp d) r)(l:PE X a ta)(m:PE X b tb)(n:behindInMarks d b=false):PT X (.Compare a [d] [b] pos) (xw4 (tOp r ta tb)):=by
  intro pins s σ H Q I h;refine wpAny_isTrue_Compare1 (thn (l pins s σ H _ I h) λv s1 ⟨x,H1,g,w,p⟩=>thn (m pins s1 σ H1 _ g p) λu C ⟨y,H2,i,A,q⟩ =>
    thn (o pins C σ H2 x y v u _ i w A q) λc D ⟨z,f,j,B,k,e,t⟩=>?_) n
  subst e
  cases B
  exact wpAny_truthy_bool ⟨f,j,t⟩
def xp1 (r r':R2)(ta tb tc:TE):TE:=λσ H Q=>ta σ H λx H1=>tb σ H1 λy H2=>r x y H2 λz H3=>∃k,z=.bl k /\
  (if k=true then tc σ H3 λw' H4=>r' y w' H4 Q else Q (.bl false) H3)
theorem yk9 (ho : OpR X (compareOp op) r)(ho' : OpR X (compareOp op') r')(ha : PE X a ta)(hb : PE X b tb)(hc : PE X c tc)
    (hm:lastMarks [op,op'] [b,c]=false:=by with_unfolding_all rfl):PE X (.Compare a [op,op'] [b,c] pos) (xp1 r r' ta tb tc):=by
  intro pins s σ H Q I h;refine Compare_chain (thn (ha pins s σ H _ I h) λv s1 ⟨x,H1,I1,r1,q1⟩=>chain_link (thn (hb pins s1 σ H1 _ I1 q1) λu s2 ⟨y,H2,I2,r2,q2⟩ =>
    thn (ho pins s2 σ H2 x y v u _ I2 r1 r2 q2) λd s3 ⟨z,H3,I3,r3,k,e,q3⟩=>?_)) hm
  subst e
  cases r3
  refine wpAny_truthy_bool ?_
  cases k with
  | false=>exact ite_ff ⟨.bl false,H3,I3,rfl,q3⟩
  | true=>exact ite_tt (chain_last (thn (hc pins s3 σ H3 _ I3 q3) λw' s4 ⟨z',H4,I4,r4,q4⟩=>ho' pins s4 σ H4 y z' u w' Q I4 r2 r4 q4))
theorem zt2 (ho : OpR X (compareOp op) r)(ho' : OpR X (compareOp op') r')(ha : PE X a ta)(hb : PE X b tb)(hc : PE X c tc)
    (hm:lastMarks [op,op'] [b,c]=false:=by with_unfolding_all rfl):PT X (.Compare a [op,op'] [b,c] pos) (xw4 (xp1 r r' ta tb tc)):=by
  intro pins s σ H Q I h;refine isTrue_chain (thn (ha pins s σ H _ I h) λv s1 ⟨x,H1,I1,r1,q1⟩=>test_link (thn (hb pins s1 σ H1 _ I1 q1) λu s2 ⟨y,H2,I2,r2,q2⟩ =>
    thn (ho pins s2 σ H2 x y v u _ I2 r1 r2 q2) λd s3 ⟨z,H3,I3,r3,k,e,q3⟩=>?_)) hm
  subst e
  cases r3
  refine wpAny_truthy_bool ?_
  cases k with
  | false =>
    obtain⟨k',e',q'⟩:=q3
    cases e'
    exact ite_ff ⟨H3,I3,q'⟩
  | true =>
    refine ite_tt (test_last (thn (hc pins s3 σ H3 _ I3 q3) λw' s4 ⟨z',H4,I4,r4,q4⟩=>thn (ho' pins s4 σ H4 y z' u w' _ I4 r2 r4 q4) λd' s5 ⟨z2,H5,I5,r5,k2,e2,q5⟩=>?_));subst e2
    cases r5
    exact wpAny_truthy_bool ⟨H5,I5,q5⟩
def xq3 (K:W.Frag)(x:V)(H:Hp)(k:Bool):Prop :=
  match x with
  | .non=>k=false
  | .bl b=>k=b
  | .int i=>k=(i != 0)
  | .str y=>y.length<=ge/\k=((y.length:Int) != 0)
  | .byt y=>y.size<=ge/\k=((y.size:Int) != 0)
  | .ref p=>(∃xs,SqL K H p xs/\k=!xs.isEmpty)∨(∃xs,SqT K H p xs/\k=!xs.isEmpty)∨∃kvs,H p=some (.dK kvs)/\k=!kvs.isEmpty
  | _=>False
theorem yq0 {κ:Type}{kvs:List (κ×V)}{vs:List (κ×Value)}(r:KV kvs vs):(!vs.isEmpty)=!kvs.isEmpty:=by
  cases r <;> rfl
theorem zr2 {xs:List V}{its:List Value}(r:r8 xs its):(!its.toArray.isEmpty)=!xs.isEmpty:=by
  cases r <;> simp
theorem zr6:(ge:Nat)<2 ^ 63:=by rw[sizeLine_eq];decide
theorem xp5:wg5 X (λx H Q=>∃k,xq3 X.K x H k/\Q k H):=by
  intro pins s σ H x v Q I d h;obtain⟨k,e,q⟩:=h;have o:=zr6;have u:ge=16777216:=sizeLine_eq
  cases x with
  | non =>
    cases d
    have a:k=false:=e;subst a;exact truthy_none ⟨H,I,q⟩
  | bl b =>
    cases d
    have a:k=b:=e;subst a;exact wpAny_truthy_bool ⟨H,I,q⟩
  | int i =>
    obtain⟨t,rfl⟩:=d;have a:k=(i != 0):=e;subst a;exact PySem.P.truthy_int ⟨H,I,q⟩
  | str y =>
    obtain⟨t,rfl⟩:=d;obtain⟨n,a⟩:y.length<=ge/\k=((y.length:Int) != 0):=e;subst a;exact PySem.P.truthy_str (by lia) ⟨H,I.tok _,q⟩
  | byt y =>
    obtain⟨t,rfl⟩:=d;obtain⟨n,a⟩:y.size<=ge/\k=((y.size:Int) != 0):=e;subst a;exact W.truthy_bytes (by lia) ⟨H,I.tok _,q⟩
  | ref p =>
    cases d
    have a:(∃xs,SqL X.K H p xs/\k=!xs.isEmpty)∨(∃xs,SqT X.K H p xs/\k=!xs.isEmpty)∨∃kvs,H p=some (.dK kvs)/\k=!kvs.isEmpty:=e;rcases a with⟨xs,f,a⟩|⟨xs,f,a⟩|⟨kvs,f,a⟩
    . subst a;obtain⟨j,r,pl,l⟩:=I.list f;have c:=r.length;exact wpAny_truthy_list pl.isList (by simp only[ay];lia) ⟨H,I.tok _,by rw[zr2 r];exact q⟩
    . subst a;obtain⟨j,r,pl,l⟩:=I.tuple f;have c:=r.length;exact truthy_tuple pl (by simp only[ay];lia) ⟨H,I.tok _,by rw[zr2 r];exact q⟩
    . subst a;obtain⟨l,hS,g,r,m⟩:kvs.length<=ge/\(p==sysModules)=false/\∃g,KV kvs g/\s.heap.DictOf (g7 X.prog X.w) p g:=I.hok p _ f;have c:kvs.length=g.length:=Paired.length r;exact wpAny_truthy_dict hS m (by lia) ⟨H,I.tok _,by rw[yq0 r];exact q⟩
  | _=>exact(show False from e).elim
theorem yl3 (c : PE X a ta)(d : ∀whole, isTrue a X.env whole = (do let v ← whole; standAt a.pos; holding [v] (truthy v))) :
    PT X a (λσ H Q=>ta σ H λx H'=>∃k,xq3 X.K x H' k/\Q k H'):=by
  intro pins s σ H Q I h;exact isTrue_plain (thn (c pins s σ H _ I h) λv s1 ⟨x,H1,b,f,e⟩=>xp5 pins s1 σ H1 x v Q b f e) (d _)
theorem K6 (r:r8 [x] us):∃u,us=[u]/\p8 x u:=by
  cases r with
  | cons r1 r2=>cases r2;exact⟨_,rfl,r1⟩
theorem yo3 (r:r8 [x,y] us):∃u w',us=[u,w']/\p8 x u/\p8 y w':=by
  cases r with
  | cons r1 r2 =>
    cases r2 with
    | cons r3 r4=>cases r4;exact⟨_,_,rfl,r1,r3⟩
theorem zl4:V1 X (.builtin "divmod") (λxs H Q=>∃i j,xs=[.int i,.int j]/\wc3 i j/\∀p,H p=none->Q (.ref p) (upd H p (.tup [.int (i / j),.int (i % j)]))):=by
  intro pins s σ H xs d Q I r h;obtain⟨i,j,rfl,⟨h1,h2⟩,q⟩:=h;obtain⟨u,f,rfl,⟨t,rfl⟩,⟨c,rfl⟩⟩:=yo3 r;refine divmod_int (by lia) ?_ (.inl (PyProof.noPylong_small (by lia)));rw[dB i (by lia),fh i (by lia)];have a:H s.heap.objs.size=none:=I.hok.fresh (af _);refine⟨.ref s.heap.objs.size,_,?_,rfl,q _ a⟩;refine I.laid (λb o e=>ap _ e) (af _) ⟨by simp only[av,bO];rw[sizeLine_eq];decide,[.int (i / j) s.toks,.int (i % j) (s.toks+1)],.cons ⟨_,rfl⟩ (.cons ⟨_,rfl⟩ .nil),?_⟩;exact⟨_,aC s.heap rfl,rfl,0,rfl,rfl⟩
end
structure yo6 (h:Heap) (x dx C:Addr) (mA:Str->Option Value):Prop where
  obj:h.get? x=some (W.instObj C dx)
  ns:h.Ns1 dx mA
  ne:dx≠x
theorem xc1 {h:Heap}{mA:Str->Option Value}(n:h.Ns1 dx mA):∃od,h.get? dx=some od/\∀name,W.lookIn name od=some (mA name):=by
  obtain⟨o,es,k,i,d,f,_,g⟩:=n;refine⟨o,i,λname=>?_⟩;have e:=g name;unfold nsFind findBy at e;rw[←Array.find?_toList]at e;unfold W.lookIn;rw[d];dsimp only;split
  . rename_i y q;rw[q]at e;exact congrArg some e
  . rename_i q;rw[q]at e;have a:es.toList.any (·.refKey)=false:=by
      rw[fE];intro y j;obtain⟨z,t,b⟩:=f y (Array.mem_toList_iff.mp j);simp[DictEntry.refKey,b]
    have c:¬es.toList.any (·.refKey)=true:=by rw[a];exact aA
    rw[if_neg c];exact congrArg some e
theorem yo6.look {mA:Str->Option Value}(I:yo6 h x dx C mA):∃od,W.InstAt h x (W.instObj C dx) C (some od)/\∀name,W.lookIn name od=some (mA name) :=
  let ⟨od,ho,hl⟩:=xc1 I.ns
  ⟨od,⟨I.obj,rfl,rfl,ho⟩,hl⟩
section
variable {prog:gf}{w:gp}{A:gq}{E:Value->fZ->Prop}{s:fZ}{K:W.Frag}{x dx C f:Addr}{mA:Str->Option Value}{name:Str}{v:Value}
theorem xr3 {Q : Value -> fZ -> Prop}(X : K.In s.heap)(I : yo6 s.heap x dx C mA)(d : W.plainGet K C name = true)(e : W.hasDictIn K C = true)
    (c:W.findIn K (.ref C) name=some none) (g:mA name=some v) (b:W.handedIn v=true) (h:Q v { s with toks:=s.toks+1 }) :
    gg (gn prog w) A (getAttr (.ref x) name a) Q E s:=by
  obtain⟨od,J,f⟩:=I.look;exact W.get_value X J (W.plainGet_of d).1 (W.findObj_own e c rfl (by rw[f,g])) b h
theorem xh4 {Q : Value×List Value -> fZ -> Prop}(X : K.In s.heap)(I : yo6 s.heap x dx C mA)(a : W.plainGet K C name = true)
    (b:W.findIn K (.ref C) name=some (some (.ref f))) (d:W.isFn K (.ref f)=true) (e:mA name=none) (h:Q (.ref f,[.ref x]) s) :
    gg (gn prog w) A (getMethod (.ref x) name pl) Q E s:=by
  obtain⟨od,J,c⟩:=I.look;exact W.method_fn X J (W.plainGet_of a).1 (W.plainGet_of a).2 b (beq_iff_eq.mp d) (by show(W.lookIn name od).map (·.isSome)=some false;rw[c,e];rfl) h
theorem xu1 {ns : List Str}{Q : Unit -> fZ -> Prop}(X : K.In s.heap)(I : yo6 s.heap x dx C mA)
    (o:W.findIn K (.ref C) "__setattr__"=some (some (.builtin "object.__setattr__"))) (n:W.plainOver K C=true) (p:W.takerIn K C name=some none) (m:W.hasDictIn K C=true)
    (hw:PySem.Within mA ns) (hsz:ns.length<=ge)
    (h:∀h',yo6 h' x dx C (λy=>if y=name then some v else mA y)->Heap.SameBut dx s.heap h'->Q () { s with heap:=h',toks:=s.toks+2 }) :
    gg (gn prog w) A (setAttr (.ref x) name v) Q E s:=by
  obtain⟨od,J,t⟩:=I.look
  refine W.set_plain X J o (W.osa_open (s:={ s with toks:=s.toks+1 }) (r:=none) X J n p λb=>?_)
  obtain⟨cd,l,f⟩:=W.any_some m
  have q:s.heap.get? x=some ⟨.ref C,some dx,.plain,#[]⟩:=I.obj
  refine fY (gc (fY (fY (wpAny_loadPart q (fY (W.Looks.here (s:={ s with toks:=s.toks+1 }) (W.looks_clsIn X l) ?_))))))
  rw[f]
  refine gc (a:=some dx) (fY (gc (fY ?_)))
  refine wpAny_nsSet1 (s:={ s with toks:=s.toks+1 }) I.ns λh' c d=>?_
  obtain⟨u,k,j,i,g,e⟩:=c.count (PySem.Within.cons name v hw)
  refine fY (wpAny_lookBehind i (by rw[g];exact pastItsLine_dict (aD e (by rw[av];lia))) ?_)
  exact gc (h _ ⟨(d.2 _ (Ne.symm I.ne)).trans I.obj,c,I.ne⟩ d)
theorem xj9 {R : Result -> fZ -> Prop}(X : K.In s.heap)(e : W.makesIn K C = true)
    (hi:W.findIn K (.ref C) "__init__"=some (some (.ref f))) (c:W.typeIn K (.ref f)=some (.type "function"))
    (h : codeAny (gn prog w) (A.under (.builtin "type.__call__" ⟨.ref C::vs, b⟩)) (.call (.ref f) ⟨.ref (s.heap.objs.size+1)::vs, b⟩) (W.InitBack (s.heap.objs.size+1) R)
      { s with heap:=(s.heap.push W.emptyDict).push (W.instObj C s.heap.objs.size) }) :
    codeAny (gn prog w) A (.call (.ref C) ⟨vs,b⟩) R s:=by
  obtain⟨i,g,d,t,j⟩:=s
  exact W.make_core (W.makes_of X e) (W.looks_findIn X hi) (λa=>W.bind_fn X a c) (.inl rfl) h
end
def X4 (f : Str)(v : V) : List (Str×V) -> List (Str×V)
  | []=>[(f,v)]
  | (g,x)::r=>if g=f then(g,v)::r else(g,x)::X4 f v r
theorem zm2 (f g : Str)(v : V) : ∀fs : List (Str×V), (X4 f v fs).lookup g = if g = f then some v else fs.lookup g
  | []=>by
    show List.lookup g [(f,v)]=_
    by_cases h:g=f
    . have hb : (g==f) = true := beq_iff_eq.mpr h
      simp only[List.lookup,hb,if_pos h]
    . have hb : (g==f) = false := beq_eq_false_iff_ne.mpr h
      simp only[List.lookup,hb,if_neg h]
  | (k,x)::r=>by
    have ih:=zm2 f g v r
    rw[show X4 f v ((k,x)::r)=(if k=f then(k,v)::r else(k,x)::X4 f v r) from rfl]
    by_cases hk:k=f
    . rw[if_pos hk]
      by_cases h:g=k
      . have hb : (g==k) = true := beq_iff_eq.mpr h
        simp only[List.lookup,hb,if_pos (h.trans hk)]
      . have hb : (g==k) = false := beq_eq_false_iff_ne.mpr h
        simp only[List.lookup,hb,if_neg (λe:g=f=>h (e.trans hk.symm))]
    . rw[if_neg hk]
      by_cases h:g=k
      . have hb : (g==k) = true := beq_iff_eq.mpr h
        simp only[List.lookup,hb,if_neg (λe:g=f=>hk (h.symm.trans e))]
      . have hb : (g==k) = false := beq_eq_false_iff_ne.mpr h
        simp only[List.lookup,hb]
        exact ih
theorem zi6 (f : Str)(v : V) : ∀fs : List (Str×V), f ∈ (X4 f v fs).map (·.1) /\ ∀g, g ∈ fs.map (·.1) -> g ∈ (X4 f v fs).map (·.1)
  | []=>⟨by simp[X4],λg h=>by simp at h⟩
  | (k,x)::r=>by
    obtain⟨i1,i2⟩:=zi6 f v r
    rw[show X4 f v ((k,x)::r)=(if k=f then(k,v)::r else(k,x)::X4 f v r) from rfl]
    by_cases hk:k=f
    . rw[if_pos hk]
      subst hk
      exact⟨by simp,λg h=>by simpa using h⟩
    . rw[if_neg hk]
      refine⟨?_,λg h=>?_⟩
      . rw[aN]
        exact ar _ i1
      . rw[aN]at h ⊢
        rcases ax.mp h with e|e
        . exact ax.mpr (.inl e)
        . exact ar _ (i2 g e)
theorem zm1 (f : Str)(v : V) : ∀fs : List (Str×V), (X4 f v fs).length <= fs.length+1
  | []=>by simp[X4]
  | (k,x)::r=>by
    have ih:=zm1 f v r
    rw[show X4 f v ((k,x)::r)=(if k=f then(k,v)::r else(k,x)::X4 f v r) from rfl]
    by_cases hk:k=f
    . rw[if_pos hk,av,av];lia
    . rw[if_neg hk,av,av];lia
theorem za7.some_of (r:za7 (some v) o):∃u,o=some u/\p8 v u:=by
  cases o with
  | none=>exact(show False from r).elim
  | some u=>exact⟨u,rfl,r⟩
theorem za7.none_of (r:za7 none o):o=none:=by
  cases o with
  | none=>rfl
  | some u=>exact(show False from r).elim
theorem xb3 (r:p8 v u):W.handedIn u=true:=by
  cases v with
  | non=>cases (show u=Value.none from r);rfl
  | bl b=>cases (show u=Value.bool b from r);rfl
  | int i=>obtain⟨t,e⟩:=(show ∃t,u=Value.int i t from r);cases e;rfl
  | str x=>obtain⟨t,e⟩:=(show ∃t,u=Value.str x t from r);cases e;rfl
  | byt b=>obtain⟨t,e⟩:=(show ∃t,u=Value.bytes b t from r);cases e;rfl
  | flt b=>obtain⟨t,e⟩:=(show ∃t,u=Value.float b t from r);cases e;rfl
  | ref a=>cases (show u=Value.ref a from r);rfl
  | ty n=>cases (show u=Value.type n from r);rfl
section
variable {P:gf}{w:gp}{H H':Hp}{h h':Heap}{a C dx:Addr}{fs fs':List (Str×V)}
theorem zo7 (b:HOk P w H h)(e:H a=some (.ins C dx fs)):∃mA,yo6 h a dx C mA/\(∀f,za7 (fs.lookup f) (mA f))/\PySem.Within mA (fs.map (·.1))/\fs.length<=1000/\H dx=some (.own a):=by
  obtain⟨d,z,c,g,mA,n,r,q⟩:=(show n6 P w H h a (.ins C dx fs) from b a _ e);exact⟨mA,⟨g,n,c⟩,r,q,z,d⟩
end
structure Cls (K:W.Frag) (C:Addr):Prop where
  pg:W.plainGet K C Str.empty=true
  hd:W.hasDictIn K C=true
  po:W.plainOver K C=true
  sa:W.findIn K (.ref C) "__setattr__"=some (some (.builtin "object.__setattr__"))
theorem Cls.get {K:W.Frag}(c:Cls K C)(f:Str):W.plainGet K C f=true:=c.pg
def K9 (K:W.Frag)(C:Addr)(f:Str):Prop:=W.findIn K (.ref C) f=some none
theorem K9.taker {K:W.Frag}(n:K9 K C f):W.takerIn K C f=some none:=by
  unfold W.takerIn;rw[show W.findIn K (.ref C) f=some none from n];rfl
structure xf5 (K:W.Frag) (C:Addr) (m:Str) (f:Addr):Prop where
  at_:W.findIn K (.ref C) m=some (some (.ref f))
  fn:W.isFn K (.ref f)=true
  kp:W.keepIn K (.ref f)=true
section
variable {X:Cx}{pins:List (Addr×Obj)}{σ:St}{H:Hp}{s:fZ}{a C dx:Addr}{fs:List (Str×V)}{f:Str}{v:V}{A:gq}{E:Value->fZ->Prop}
theorem zq7 {Q : Value -> fZ -> Prop}(I : Inv X pins σ H s)(e : H a = some (.ins C dx fs))(c : Cls X.K C)(n : K9 X.K C f)(l : fs.lookup f = some v)
    (h:∀u s',Inv X pins σ H s'->p8 v u->Q u s'):gg (gn X.prog X.w) A (getAttr (.ref a) f b) Q E s:=by
  obtain⟨mA,O,r,_,_,_⟩:=zo7 I.hok e;obtain⟨u,g,d⟩:=za7.some_of (v:=v) (o:=mA f) (by rw[←l];exact r f);exact xr3 I.kIn O (c.get f) c.hd n g (xb3 d) (h u _ (I.tok _) d)
theorem zq8 {Q : Value×List Value -> fZ -> Prop}(I : Inv X pins σ H s)(e : H a = some (.ins C dx fs))(c : Cls X.K C)(k : xf5 X.K C m g)(l : fs.lookup m = none)
    (h:Q (.ref g,[.ref a]) s):gg (gn X.prog X.w) A (getMethod (.ref a) m pl) Q E s:=by
  obtain⟨mA,O,r,_,_,_⟩:=zo7 I.hok e;have b:mA m=none:=za7.none_of (by rw[←l];exact r m);exact xh4 I.kIn O (c.get m) k.at_ k.fn b h
theorem zu0 {Q : Unit -> fZ -> Prop}(I : Inv X pins σ H s)(e : H a = some (.ins C dx fs))(c : Cls X.K C)(n : K9 X.K C f)(hl : fs.length<1000)(p : p8 y u)
    (h:∀s',Inv X pins σ (upd H a (.ins C dx (X4 f y fs))) s'->Q () s'):gg (gn X.prog X.w) A (setAttr (.ref a) f u) Q E s:=by
  obtain⟨mA,O,r,wi,_,i⟩:=zo7 I.hok e;have m:(fs.map (·.1)).length<=ge:=by rw[ae,sizeLine_eq];lia
  refine xu1 I.kIn O c.sa c.po n.taker c.hd wi m λh' d t=>h _ ?_;have k:∃o,h'.get? dx=some o:=let ⟨o,_,_,e',_⟩:=d.ns;⟨o,e'⟩;refine I.write (x:=a) (e:=dx) (by rw[e];exact True.intro) (.inr i) (λb q j z=>(t.2 b j).trans z) k ?_;refine⟨by rw[z6 O.ne];exact i,?_,O.ne,d.obj,_,d.ns,λg=>?_,λg l=>?_⟩
  . have:=zm1 f y fs;lia
  . show za7 ((X4 f y fs).lookup g) (if g = f then some u else mA g);rw[zm2];by_cases q:g=f
    . rw[if_pos q,if_pos q];exact p
    . rw[if_neg q,if_neg q];exact r g
  . by_cases q : g = f
    . rw[q];exact(zi6 f y fs).1
    . refine(zi6 f y fs).2 g (wi g λz => l ?_);show(if g=f then some u else mA g)=none;rw[if_neg q];exact z
theorem Inv.made (I : Inv X pins σ H s) : Inv X pins σ (upd (upd H s.heap.objs.size (.own (s.heap.objs.size+1))) (s.heap.objs.size+1) (.ins C s.heap.objs.size []))
    { s with heap:=(s.heap.push W.emptyDict).push (W.instObj C s.heap.objs.size) }:=by
  have c:(s.heap.push W.emptyDict).get? s.heap.objs.size=some W.emptyDict:=aC s.heap rfl;have g:((s.heap.push W.emptyDict).push (W.instObj C s.heap.objs.size)).get? (s.heap.objs.size+1)=some (W.instObj C s.heap.objs.size):=by
    have:=aC (s.heap.push W.emptyDict) (o:=W.instObj C s.heap.objs.size) rfl;rwa [cV]at this
  have h:(s.heap.push W.emptyDict).Ns s.heap.objs.size (λ_=>none):=⟨W.emptyDict,#[],_,c,rfl,(λe i=>absurd i (by simp)),λ_=>rfl⟩;have f:=I.laid (a:=s.heap.objs.size) (o:=.own (s.heap.objs.size+1)) (h':=s.heap.push W.emptyDict) (t':=s.toks) (λb u q=>ap _ q) (af _) ⟨_,c⟩;refine f.laid (a:=s.heap.objs.size+1) (o:=.ins C s.heap.objs.size []) (t':=s.toks) (λb u q=>ap _ q) (eO (cV _ _)) ?_;have d:s.heap.objs.size≠s.heap.objs.size+1:=aX (bZ _);refine⟨by rw[z6 d,z4],aG _,d,g,λ_=>none,(Heap.Ns1.of_empty h).at λo q=>ap _ q,λ_=>True.intro,λy j=>absurd rfl j⟩
theorem xq6 {Q : Value -> fZ -> Prop}(hb : attributeBase e f env (eval e env) = eval e env)
    (h:gg (gn prog w) A (eval e env) (λo s₁=>gg (gn prog w) A (getAttr o f true) Q E s₁) E s):gg (gn prog w) A (eval (.Attribute e f pos) env) Q E s :=
  Attribute_any_ h (by rw[arm_eval_Attribute,hb])
end
def wi5 (K:W.Frag)(ta:TE)(f:Str):TE:=λσ H Q=>ta σ H λx H1=>∃a C dx fs v,x=.ref a/\H1 a=some (.ins C dx fs)/\Cls K C/\K9 K C f/\fs.lookup f=some v/\Q v H1
def wi2 (K:W.Frag)(ta tv:TE)(f:Str):TS:=λD σ H=>tv σ H λy H1=>ta σ H1 λx H2=>∃a C dx fs,x=.ref a/\H2 a=some (.ins C dx fs)/\Cls K C/\K9 K C f/\fs.length<1000 /\
  D.nx σ (upd H2 a (.ins C dx (X4 f y fs)))
def wg3 (X:Cx)(op:Operator)(rd:V->V->Hp->VK->Prop):Prop :=
  ∀(pins:List (Addr×Obj)) (s:fZ) (σ:St) (H:Hp) (x y:V) (u v:Value) (Q:VK),Inv X pins σ H s->p8 x u->p8 y v->rd x y H Q->gg (gn X.prog X.w) X.A (inplaceOp op u v) (EP X pins σ Q) X.xe s
def xt9 (K:W.Frag)(ta tv:TE)(rd:V->V->Hp->VK->Prop)(f:Str):TS:=λD σ H=>ta σ H λx H1=>∃a C dx fs v,x=.ref a/\H1 a=some (.ins C dx fs)/\Cls K C/\K9 K C f/\fs.lookup f=some v /\
  tv σ H1 λy H2=>rd v y H2 λz H3=>∃dx' fs',H3 a=some (.ins C dx' fs')/\fs'.length<1000/\D.nx σ (upd H3 a (.ins C dx' (X4 f z fs')))
section
variable {X:Cx}{o e value:Expr}{f:Str}{pos pos' tpos:Pos}{ta tv:TE}
theorem y9 (j:PE X e ta)(i:attributeBase e f X.env (eval e X.env)=eval e X.env):PE X (.Attribute e f pos) (wi5 X.K ta f):=by
  intro pins s σ H Q I h;refine xq6 i (thn (j pins s σ H _ I h) λu s1 ⟨x,H1,b,m,a,C,dx,fs,v,ex,g,c,n,l,q⟩=>?_);subst ex;obtain rfl:u=Value.ref a:=m;exact zq7 b g c n l λp o d k=>⟨v,H1,d,k,q⟩
theorem W8 (i:PE X o ta)(k:PE X value tv)(j:swapsWith value (some (.Attribute o f pos')) pos.line X.env=pure false):PS X (.Assign [.Attribute o f pos'] value pos) (wi2 X.K ta tv f):=by
  intro pins s σ H D I h;refine plainObj_wpAny_Assign_Attribute (thn (k pins s σ H _ I h) λu s1 ⟨y,H1,b,t,q⟩=>thn (i pins s1 σ H1 _ b q) λm v ⟨x,H2,d,r,a,C,dx,fs,ex,g,c,n,l,p⟩=>?_) j;subst ex;obtain rfl:m=Value.ref a:=r;exact zu0 d g c n l t λw e=>⟨σ,_,e,p⟩
theorem xd4 {e:Operator}{g:V->V->Hp->VK->Prop}(w:PE X o ta)(A:PE X value tv)(d:wg3 X e g):PS X (.AugAssign (.Attribute o f tpos) e value pos) (xt9 X.K ta tv g f):=by
  intro pins s σ H D I h;refine wpAny_AugAssign_AttributeAny (thn (w pins s σ H _ I h) λE s1 ⟨x,H1,i,L,a,C,dx,fs,v,ex,t,c,n,l,q⟩=>?_);subst ex;obtain rfl:E=Value.ref a:=L;refine zq7 i t c n l λu O j J=>thn (A pins O σ H1 _ j q) λQ P ⟨y,H2,k,M,F⟩=>thn (d pins P σ H2 v y u Q _ k J M F) λU S ⟨z,R,m,N,r,fs',b,B,G⟩=>?_;exact zu0 m b c n B N λT p=>⟨σ,_,p,G⟩
end
section
variable {X:Cx}{pins:List (Addr×Obj)}{σ:St}{H:Hp}{s:fZ}{A:gq}{E:Value->fZ->Prop}{Q:Value->fZ->Prop}{c:Value}{b:Bool}
inductive D4 (K:W.Frag) (H:Hp):V->Value->Prop where
  | non:D4 K H .non (.type "NoneType")
  | bl (x:Bool):D4 K H (.bl x) (.type "bool")
  | int (i:Int):D4 K H (.int i) (.type "int")
  | str (x:Str):D4 K H (.str x) (.type "str")
  | flt (x:UInt64):D4 K H (.flt x) (.type "float")
  | lst {a:Addr} {xs:List V} (e:H a=some (.lst xs)):D4 K H (.ref a) (.type "list")
  | frz {a:Addr} {o:Obj} {xs:List V} (e:H a=some (.frz o (.lst xs))):D4 K H (.ref a) (.type "list")
  | tup {a:Addr} {xs:List V} (e:H a=some (.tup xs)):D4 K H (.ref a) (.type "tuple")
  | dK {a:Addr} {kvs:List (Key×V)} (e:H a=some (.dK kvs)):D4 K H (.ref a) (.type "dict")
  | dT {a:Addr} {kvs:List (List Key×V)} (e:H a=some (.dT kvs)):D4 K H (.ref a) (.type "dict")
  | ins {a C dx : Addr} {fs : List (Str×V)} (e : H a = some (.ins C dx fs)) (cl : Cls K C) (ha : W.findIn K (.ref C) "__class__" = some (some (.builtin "object.__class__")))
      (hn:W.specialIn K (.builtin "object.__class__") "__get__"=some (some (.builtin "getset_descriptor.__get__"))) (htk:W.takesIn K (.builtin "object.__class__")=some true)
      (hm:W.mroIn K C (.type "object")=some true):D4 K H (.ref a) (.ref C)
theorem xb7 (I : Inv X pins σ H s)(d : p8 x u)(ty : D4 X.K H x t)(e : W.kitOne X.K t c = some b)(h : ∀tk, Q (.bool b) { s with toks := tk }) :
    gg (gn X.prog X.w) A (call (.builtin "isinstance") [u,c]) Q E s:=by
  cases ty with
  | non=>cases (show u=Value.none from d);exact W.kia_one W.kitx_none I.kIn True.intro e (λz=>nomatch z) h
  | bl y=>cases (show u=Value.bool y from d);exact W.kia_one W.kitx_bool I.kIn True.intro e (λz=>nomatch z) h
  | int i=>obtain⟨t,q⟩:=(show ∃t,u=Value.int i t from d);cases q;exact W.kia_one W.kitx_int I.kIn True.intro e (λz=>nomatch z) h
  | str y=>obtain⟨t,q⟩:=(show ∃t,u=Value.str y t from d);cases q;exact W.kia_one W.kitx_str I.kIn True.intro e (λz=>nomatch z) h
  | flt y=>obtain⟨t,q⟩:=(show ∃t,u=Value.float y t from d);cases q;exact W.kia_one W.kitx_float I.kIn True.intro e (λz=>nomatch z) h
  | @lst a xs ea =>
    cases (show u=Value.ref a from d)
    obtain⟨_,_,n,_,h1⟩:=(show n6 X.prog X.w H s.heap a (.lst xs) from I.hok a _ ea);exact W.kia_one W.kitx_list I.kIn ⟨_,h1,rfl⟩ e (λz=>nomatch z) h
  | @frz a ob xs ea =>
    cases (show u=Value.ref a from d)
    obtain⟨_,_,_,n,_,h1⟩:=(show n6 X.prog X.w H s.heap a (.frz ob (.lst xs)) from I.hok a _ ea);exact W.kia_one W.kitx_list I.kIn ⟨_,h1,rfl⟩ e (λz=>nomatch z) h
  | @tup a xs ea =>
    cases (show u=Value.ref a from d)
    obtain⟨_,_,_,p⟩:=(show n6 X.prog X.w H s.heap a (.tup xs) from I.hok a _ ea);obtain⟨o,h1,h2,_⟩:=p;exact W.kia_one W.kitx_tuple I.kIn ⟨o,h1,h2⟩ e (λz=>nomatch z) h
  | @dK a kvs ea =>
    cases (show u=Value.ref a from d)
    obtain⟨_,_,g,_,p⟩:=(show n6 X.prog X.w H s.heap a (.dK kvs) from I.hok a _ ea);obtain⟨o,es,f,h1,h2,_⟩:=p;exact W.kia_one W.kitx_dict I.kIn ⟨o,h1,h2.1⟩ e (λz=>nomatch z) h
  | @dT a kvs ea =>
    cases (show u=Value.ref a from d)
    obtain⟨_,_,xs,_,o,es,f,h1,h2,_⟩:=(show n6 X.prog X.w H s.heap a (.dT kvs) from I.hok a _ ea);exact W.kia_one W.kitx_dict I.kIn ⟨o,h1,h2.1⟩ e (λz=>nomatch z) h
  | @ins a C dx fs ea cl ha hn htk hm =>
    cases (show u=Value.ref a from d)
    obtain⟨mA,O,_⟩:=zo7 I.hok ea;obtain⟨od,J,_⟩:=O.look;exact W.kia_one (W.kitx_own (cl.get _) cl.hd ha hn htk hm) I.kIn J e (λz=>nomatch z) h
end
structure X3 (k:Nat) (A:gq):Prop where
  hd:A.handled=none
  dp:A.depth+3*k+5<recursionLimit
  un:A.units+16*k+200<cLine
theorem X3.mono (r:X3 k A)(h:j<=k):X3 j A:=⟨r.hd,by have:=r.dp;lia,by have:=r.un;lia⟩
theorem X3.deeper {A:gq}(r:X3 (k+1) A)(env:Env):X3 k (A.deeper env) :=
  ⟨r.hd,by have:=r.dp;show A.depth+1+3*k+5<_;lia,by have:=r.un;show A.units+3+16*k+200<_;lia⟩
theorem yr0 {A:gq}:(A.under (.builtin "type.__call__" ⟨.ref C::us,a⟩)).depth=A.depth+1:=by
  first|rfl|simp[Around.under,Code.weight,Code.isCreation,Code.isGuard,Code.isCaller,Code.frames,Code.isFrame,guardIds]
theorem yr1 {A:gq}:(A.under (.builtin "type.__call__" ⟨.ref C::us,a⟩)).units=A.units+1:=by
  first|rfl|simp[Around.under,Code.cUnits,Code.frames,Code.isFrame]
theorem X3.make {A:gq}(r:X3 (k+1) A)(C:Addr)(us:List Value)(kw:List (Str×Value)):X3 k (A.under (.builtin "type.__call__" ⟨.ref C::us,kw⟩)) :=
  ⟨r.hd,by have:=r.dp;rw[yr0];lia,by have:=r.un;rw[yr1];lia⟩
theorem X3.depth {A:gq}(r:X3 k A):A.depth<recursionLimit:=by have:=r.dp;lia
theorem X3.units {A:gq}(r:X3 k A):A.units+64<cLine:=by have:=r.un;lia
def wb7:TA:=λ_ H Q=>Q [] H
def xw2 (ta:TE)(tr:TA):TA:=λσ H Q=>ta σ H λx H1=>tr σ H1 λxs H2=>Q (x::xs) H2
section
variable {X:Cx}{e:Expr}{es:List Expr}{te:TE}{t:TA}{pos:Pos}
theorem z5:PA X [] wb7:=λ_ _ _ _ H Q I h=>Calls.spliced_nil ⟨[],H,I,.nil,h⟩
theorem z0 (ha:PE X e te)(hr:PA X es t)(hs:gh (e::es) X.env=(false,eval e X.env)::gh es X.env:=by rfl):PA X (e::es) (xw2 te t):=by
  intro pos pins s σ H Q I h;rw[hs];show gg _ _ (spliced ((false,eval e X.env)::backTo pos (gh es X.env))) _ _ s;refine Calls.spliced_cons (thn (ha pins s σ H _ I h) λu s1 ⟨x,H1,I1,r1,q1⟩=>?_);exact thn (hr pos pins s1 σ H1 _ I1 q1) λus s2 ⟨xs,H2,I2,r2,q2⟩=>⟨x::xs,H2,I2,.cons r1 r2,q2⟩
def wj1 (t:TA):TE:=λσ H Q=>t σ H λxs H1=>xs.length<=ge/\∀p,H1 p=none->Q (.ref p) (upd H1 p (.tup xs))
def wi8 (t:TA):TE:=λσ H Q=>t σ H λxs H1=>xs.length<=ge/\∀p,H1 p=none->Q (.ref p) (upd H1 p (.lst xs))
theorem P9 {x1}(h:PA X es t):PE X (.Tuple es x1 pos) (wj1 t):=by
  intro pins s σ H Q I d;refine wpAny_Tuple_spliced (thn (h pos pins s σ H _ I d) λf s1 ⟨xs,H1,a,r,z,q⟩=>⟨by rw[←r.length];exact z,?_⟩);have c:H1 s1.heap.objs.size=none:=a.hok.fresh (af _);refine⟨.ref s1.heap.objs.size,upd H1 s1.heap.objs.size (.tup xs),a.laid (t':=s1.toks) (λb u e=>ap _ e) (af _) ?_,rfl,q _ c⟩;exact⟨z,f,r,⟨_,aC _ rfl,rfl,_,rfl,rfl⟩⟩
theorem Z2 (h:PA X es t):PE X (.List es pos) (wi8 t):=by
  intro pins s σ H Q I d;refine wpAny_List_spliced (thn (h pos pins s σ H _ I d) λf s1 ⟨xs,H1,a,r,z,q⟩=>⟨by rw[←r.length];exact z,?_⟩);have c:H1 s1.heap.objs.size=none:=a.hok.fresh (af _);refine⟨.ref s1.heap.objs.size,upd H1 s1.heap.objs.size (.lst xs),a.laid (t':=s1.toks) (λb u e=>ap _ e) (af _) ?_,rfl,q _ c⟩;exact⟨z,f,0,r,aC _ rfl⟩
end
abbrev Sp:=List V->Hp->VK->XK->Prop
abbrev CXT:=List Env->Hp->fZ->XK->Value->fZ->Prop
structure yo5 (P:gf) (w:gp) (K:W.Frag) (mg:Str->Option Value) (base:Heap) (A:gq) (outer:List Env) (s:fZ) (H:Hp):Prop where
  frames:A.frames=some outer
  mod:Mod K mg base
  bs:∀b o,base.get? b=some o->s.heap.get? b=some o/\H b=none
  bsz:base.objs.size<=s.heap.objs.size
  funs:s.heap.FunFrames base outer
  frf:∀b∈frs outer,H b=none
  hok:HOk P w H s.heap
  bare:AllBare s.gens
def CE (outer:List Env)(P:gf)(w:gp)(H:Hp)(s:fZ)(Q:VK)(u:Value)(s':fZ):Prop :=
  ∃v H',s'.os=s.os/\AllBare s'.gens/\Un (frs outer) [] H H' s.heap s'.heap/\HOk P w H' s'.heap/\p8 v u/\Q v H'
def CR (CX:CXT)(outer:List Env)(P:gf)(w:gp)(H:Hp)(s:fZ)(Q:VK)(E:XK)(r:Result)(s':fZ):Prop :=
  match r with
  | .ok (.ret u)=>CE outer P w H s Q u s'
  | .ok _=>False
  | .error e=>CX outer H s E e s'
structure u7 (P:gf) (w:gp) (K:W.Frag) (mg:Str->Option Value) (base:Heap) (CX:CXT) (k:Nat) (f:Addr) (fd:gz) (ps:List Str) (sp:Sp):Prop where
  len:∀vs H Q E,sp vs H Q E->vs.length=ps.length
  run:∀(A:gq) (outer:List Env) (s:fZ) (H:Hp) (args:Args) (us:List Value) (vs:List V) (Q:VK) (E:XK),X3 k A->yo5 P w K mg base A outer s H->BindsTo s fd args (ps.zip us)->r8 vs us->sp vs H Q E ->
    codeAny (gn P w) A (.call (.ref f) args) (CR CX outer P w H s Q E) s
theorem u7.imp {K : W.Frag}{mg : Str -> Option Value}{k : Nat}{f : Addr}{fd : gz}{ps : List Str}{sp sp' : Sp}(F : u7 P w K mg base CX k f fd ps sp)
    (h:∀vs H Q E,sp' vs H Q E->sp vs H Q E):u7 P w K mg base CX k f fd ps sp' :=
  ⟨λvs H Q E q=>F.len vs H Q E (h _ _ _ _ q),λA outer s H args us vs Q E hr he hb hv hs=>F.run A outer s H args us vs Q E hr he hb hv (h _ _ _ _ hs)⟩
theorem yo5.make {K : W.Frag}{mg : Str -> Option Value}{A : gq}{s : fZ}{H : Hp}(e : yo5 P w K mg base A outer s H)(C : Addr)(us : List Value)(kw : List (Str×Value)) :
    yo5 P w K mg base (A.under (.builtin "type.__call__" ⟨.ref C::us,kw⟩)) outer s H:=⟨by first|exact e.frames|(simpa[Around.under,Code.envs,Code.isFrame,pushEnvs] using e.frames),e.mod,e.bs,e.bsz,e.funs,e.frf,e.hok,e.bare⟩
section
variable {X:Cx}{pins:List (Addr×Obj)}{σ:St}{H:Hp}{s s':fZ}
theorem Inv.env0 (I:Inv X pins σ H s):yo5 X.prog X.w X.K X.mg X.base X.A X.stack s H :=
  ⟨I.ok.frames,I.ok.mod,I.bs,aD I.ok.bsz I.sz,I.stack,I.stkFree,I.hok,I.bare⟩
theorem Inv.after (I:Inv X pins σ H s)(h:CE X.stack X.prog X.w H s Q u s'):EP X pins σ Q u s':=by
  obtain⟨v,H',i,a,un,c,r,q⟩:=h;obtain⟨f,g,d,t,e⟩:=s';obtain rfl:e=s.os:=i;exact⟨v,H',I.call (h':=f) (g':=g) (d':=d) (t':=t) (ch:=[]) un c a (λb z=>absurd z (by simp)),r,q⟩
end
def xp0 (sp:Sp)(dvs:List V)(E:XK)(t:TA):TE:=λσ H Q=>t σ H λvs H1=>sp (vs++dvs) H1 Q E
def yn6 (C:Addr)(m:Str)(sp:Sp)(dvs:List V)(E:XK)(ta:TE)(t:TA):TE:=λσ H Q=>ta σ H λx H1=>∃a dx fs,x=.ref a/\H1 a=some (.ins C dx fs)/\fs.lookup m=none /\
  t σ H1 λvs H2=>sp (x::(vs++dvs)) H2 Q E
def xw3 (C:Addr)(sp:Sp)(dvs:List V)(E:XK)(t:TA):TE:=λσ H Q=>t σ H λvs H1=>∀x dx,H1 x=none->H1 dx=none->dx≠x ->
  sp (.ref x::(vs++dvs)) (upd (upd H1 dx (.own x)) x (.ins C dx [])) (λv H2=>v=.non/\Q (.ref x) H2) E
def P3 (K:W.Frag)(fd:gz)(ps:List Str)(ds:List Value):Prop :=
  ∀(s:fZ) (us:List Value),K.In s.heap->(us++ds).length=ps.length->BindsTo s fd ⟨us,[]⟩ (ps.zip (us++ds))
theorem P3.all {K:W.Frag}{ps:List Str}(h:∀us:List Value,us.length=ps.length->bindArgs fd ⟨us,[]⟩=pure (ps.zip us)):P3 K fd ps []:=λs us _ hl=>by
  rw[bu]at hl ⊢
  exact .of_eq (h us hl)
def D7 (CX:CXT)(X:Cx)(E:XK):Prop:=∀(pins:List (Addr×Obj)) (σ:St) (H:Hp) (s:fZ) (e:Value) (s':fZ),Inv X pins σ H s->CX X.stack H s E e s'->X.xe e s'
section
variable {X:Cx}{CX:CXT}{k:Nat}{f C:Addr}{fd:gz}{ps:List Str}{sp:Sp}{dvs:List V}{ds:List Value}{E:XK}{x m:Str}{p pos apos:Pos}{e o:Expr}{es:List Expr}{ta:TE}{t:TA}
theorem ys6 {σ : St}{us : List Value}{vs : List V}(F : u7 X.prog X.w X.K X.mg X.base CX k f fd ps sp)(hr : X3 k X.A)(c : P3 X.K fd ps ds)(d : r8 dvs ds)(i : D7 CX X E)
    (I:Inv X pins σ H s) (r:r8 vs us) (h:sp (vs++dvs) H Q E):gg (gn X.prog X.w) X.A (call (.ref f) us) (EP X pins σ Q) X.xe s:=by
  have b:r8 (vs++dvs) (us++ds):=r.append d;have g:(us++ds).length=ps.length:=by rw[←b.length];exact F.len _ _ _ _ h
  refine wpAny_call (codeAny_mono (F.run X.A X.stack s H ⟨us,[]⟩ (us++ds) (vs++dvs) Q E hr I.env0 (c s us I.kIn g) b h) λr s' a=>?_)
  cases r with
  | error e=>exact i pins σ H s e s' I a
  | ok fl =>
    cases fl with
    | ret u=>exact I.after a
    | next=>exact False.elim a
    | brk=>exact False.elim a
    | cont=>exact False.elim a
theorem yx1 (F : u7 X.prog X.w X.K X.mg X.base CX k f fd ps sp)(hr : X3 k X.A)(hg : Gl X x)(hm : X.mg x = some (.ref f))(hk : W.keepIn X.K (.ref f) = true)(hb : P3 X.K fd ps ds)(hd : r8 dvs ds)(hx : D7 CX X E)
    (ha:PA X (e::es) t) (hdb:(x==("__debug__":Str))=false:=by decide) (he:gh (e::es) X.env=(false,eval e X.env)::gh es X.env:=by rfl) (hpl:(backTo pos (gh es X.env)).any (·.1)=false:=by rfl) :
    PE X (.Call (.Name x p) (e::es) [] pos) (xp0 sp dvs E t):=by
  intro pins s σ H Q I h;refine wpAny_Call_Name_kw (A6 I hg hm ?_ hdb);refine W.callWith_K (h₀:=X.base) I.ok.mod.kin hk (thn (ha pos pins s σ H _ I h) λus s1 ⟨vs,H1,I1,r,q⟩=>⟨I1.kIn,?_⟩) he hpl;exact ys6 F hr hb hd hx I1 r q
theorem yx3 {pl : Sem Bool}(he : PE X o ta)(c : Cls X.K C)(hm : xf5 X.K C m f)(F : u7 X.prog X.w X.K X.mg X.base CX k f fd ps sp)(hr : X3 k X.A)(hb : P3 X.K fd ps ds)(hd : r8 dvs ds)(hx : D7 CX X E)(ha : PA X (e::es) t)
    (hst:gh (e::es) X.env=(false,eval e X.env)::gh es X.env:=by rfl) (hpl:(backTo pos (gh es X.env)).any (·.1)=false:=by rfl)
    (ht : eval (.Call (.Attribute o m apos) (e::es) [] pos) X.env = (do
      let ov ←eval o X.env
      standAt apos.atName
      let (f,first) ←holding [ov] (getMethod ov m pl)
      callWith pos f first (backTo pos (gh (e::es) X.env)) (backToKw pos (gw [] X.env))):=by rfl) :
    PE X (.Call (.Attribute o m apos) (e::es) [] pos) (yn6 C m sp dvs E ta t):=by
  intro pins s σ H Q I h
  refine W.methodCall_KW (pl:=pl) (thn (he pins s σ H _ I h) λu s1 ⟨x,H1,I1,rx,a,dx,fs,ex,ea,l,q⟩=>?_) ht
  subst ex
  obtain rfl:u=Value.ref a:=rx
  refine zq8 I1 ea c hm l ?_
  refine W.callWith_K (first:=[.ref a]) (h₀:=X.base) I.ok.mod.kin hm.kp (thn (ha pos pins s1 σ H1 _ I1 q) λus s2 ⟨vs,H2,I2,r,q2⟩=>⟨I2.kIn,?_⟩) hst hpl
  exact ys6 (us:=.ref a::us) (vs:=.ref a::vs) F hr hb hd hx I2 (.cons rfl r) q2
theorem xl3 {pl : Sem Bool}(he : PE X o ta)(c : Cls X.K C)(hm : xf5 X.K C m f)(F : u7 X.prog X.w X.K X.mg X.base CX k f fd ps sp)(hr : X3 k X.A)(hb : P3 X.K fd ps ds)(hd : r8 dvs ds)(hx : D7 CX X E)
    (ht : eval (.Call (.Attribute o m apos) [] [] pos) X.env = (do
      let ov ←eval o X.env
      standAt apos.atName
      let (f,first) ←holding [ov] (getMethod ov m pl)
      callWith pos f first (backTo pos (gh [] X.env)) (backToKw pos (gw [] X.env))):=by rfl) :
    PE X (.Call (.Attribute o m apos) [] [] pos) (yn6 C m sp dvs E ta wb7):=by
  intro pins s σ H Q I h
  refine W.methodCall_KW (pl:=pl) (thn (he pins s σ H _ I h) λu s1 ⟨x,H1,I1,rx,a,dx,fs,ex,ea,l,q⟩=>?_) ht
  subst ex
  obtain rfl:u=Value.ref a:=rx
  refine zq8 I1 ea c hm l ?_
  exact W.callWith_K0 (first:=[.ref a]) I1.kIn hm.kp (ys6 (us:=[.ref a]) (vs:=[.ref a]) F hr hb hd hx I1 (.cons rfl .nil) q)
structure Mk (K:W.Frag) (C f:Addr):Prop where
  makes:W.makesIn K C=true
  init:W.findIn K (.ref C) "__init__"=some (some (.ref f))
  fn:W.isFn K (.ref f)=true
  kp:W.keepIn K (.ref C)=true
theorem xm9 {σ : St}{us : List Value}{vs : List V}(M : Mk X.K C f)(F : u7 X.prog X.w X.K X.mg X.base CX k f fd ps sp)(hr : X3 (k+1) X.A)(j : P3 X.K fd ps ds)(l : r8 dvs ds)
    (n:D7 CX X E) (I:Inv X pins σ H s) (r:r8 vs us)
    (h:∀x dx,H x=none->H dx=none->dx≠x->sp (.ref x::(vs++dvs)) (upd (upd H dx (.own x)) x (.ins C dx [])) (λv H2=>v=.non/\Q (.ref x) H2) E) :
    gg (gn X.prog X.w) X.A (call (.ref C) us) (EP X pins σ Q) X.xe s:=by
  have c:=h (s.heap.objs.size+1) s.heap.objs.size (I.hok.fresh (bU _)) (I.hok.fresh (af _)) (aX (bZ _));have b:=Inv.made (C:=C) I;have d:r8 (V.ref (s.heap.objs.size+1)::(vs++dvs)) (Value.ref (s.heap.objs.size+1)::(us++ds)):=.cons rfl (r.append l);have m:(Value.ref (s.heap.objs.size+1)::us++ds).length=ps.length:=by
    have e:=d.length;rw[F.len _ _ _ _ c]at e;exact e.symm
  refine wpAny_call (xj9 (f := f) I.kIn M.makes M.init (beq_iff_eq.mp M.fn) (codeAny_mono (F.run _ X.stack _ _ ⟨Value.ref (s.heap.objs.size+1)::us, []⟩ (Value.ref (s.heap.objs.size+1)::(us ++ ds)) _ _ E (hr.make C us [])
    (b.env0.make C us []) (j _ (Value.ref (s.heap.objs.size+1)::us) b.kIn m) d c) λr s' a=>?_))
  cases r with
  | error e=>exact n pins σ _ _ e s' b a
  | ok fl =>
    cases fl with
    | ret u =>
      obtain⟨v,H',g,rv,i,o⟩:=b.after a;subst i;exact⟨rv,⟨V.ref (s.heap.objs.size+1),H',g,rfl,o⟩⟩
    | next=>exact False.elim a
    | brk=>exact False.elim a
    | cont=>exact False.elim a
theorem xs9 (M : Mk X.K C f)(F : u7 X.prog X.w X.K X.mg X.base CX k f fd ps sp)(hr : X3 (k+1) X.A)(hg : Gl X x)(hm : X.mg x = some (.ref C))(hb : P3 X.K fd ps ds)(hd : r8 dvs ds)(hx : D7 CX X E)
    (ha:PA X (e::es) t) (hdb:(x==("__debug__":Str))=false:=by decide) (he:gh (e::es) X.env=(false,eval e X.env)::gh es X.env:=by rfl) (hpl:(backTo pos (gh es X.env)).any (·.1)=false:=by rfl) :
    PE X (.Call (.Name x p) (e::es) [] pos) (xw3 C sp dvs E t):=by
  intro pins s σ H Q I h;refine wpAny_Call_Name_kw (A6 I hg hm ?_ hdb);refine W.callWith_K (h₀:=X.base) I.ok.mod.kin M.kp (thn (ha pos pins s σ H _ I h) λus s1 ⟨vs,H1,I1,r,q⟩=>⟨I1.kIn,?_⟩) he hpl;exact xm9 M F hr hb hd hx I1 r q
end
structure x0 (N P:List Str) (sc:Scope):Prop where
  kind:sc.kind=.function
  co:sc.isCoroutine=false
  gen:sc.isGenerator=false
  nd:N.Nodup
  pre:N.take P.length=P
  par:∀x∈P,sc.names.lookup x=some .local∨sc.names.lookup x=some .cell
  nofree:∀y∈sc.names,y.2≠.free
theorem zy9 {a : Str -> Option NameKind} : ∀{binds : List (Str×Value)} {m : Str -> Option Value}, (∀v, (x, v) ∉ binds) -> bindL a binds m x = m x
  | [],_,_=>rfl
  | (n,v)::r,m,h=>by
    unfold bindL
    rw[zy9 λw hw=>h w (ar _ hw)]
    split
    . have : x ≠ n := by rintro rfl; exact h v aw
      simp[this]
    . rfl
theorem zy7 {a : Str -> Option NameKind} : ∀{binds : List (Str×Value)} {m : Str -> Option Value}, (∀v, (x, v) ∉ binds) -> bindC a binds m x = m x
  | [],_,_=>rfl
  | (n,v)::r,m,h=>by
    unfold bindC
    rw[zy7 λw hw=>h w (ar _ hw)]
    split
    . rfl
    . have : x ≠ n := by rintro rfl; exact h v aw
      simp[this]
theorem zy8 {kindOf:Str->Option NameKind}:∀{P:List Str} {vs:List Value} {i:Nat} {m:Str->Option Value},P.Nodup->P[i]?=some x->vs[i]?=some v->kindOf x=some .local ->
    bindL kindOf (P.zip vs) m x=some v
  | [],_,_,_,_,h,_,_=>by simp at h
  | _::_,[],_,_,_,_,h,_=>by simp at h
  | p::P,w::vs,0,m,nd,h1,h2,hk=>by
    simp at h1 h2;subst h1;subst h2
    show bindL kindOf ((p,w)::P.zip vs) m p=_
    unfold bindL
    rw[zy9 λv hv=>(aS.mp nd).1 (eW hv).1,if_pos hk]
    simp
  | p::P,w::vs,i+1,m,nd,h1,h2,hk=>by
    show bindL kindOf ((p,w)::P.zip vs) m x=_
    unfold bindL
    exact zy8 (i:=i) (aS.mp nd).2 (by simpa using h1) (by simpa using h2) hk
theorem zy6 {kindOf:Str->Option NameKind}:∀{P:List Str} {vs:List Value} {i:Nat} {m:Str->Option Value},P.Nodup->P[i]?=some x->vs[i]?=some v->kindOf x≠some .local ->
    bindC kindOf (P.zip vs) m x=some v
  | [],_,_,_,_,h,_,_=>by simp at h
  | _::_,[],_,_,_,_,h,_=>by simp at h
  | p::P,w::vs,0,m,nd,h1,h2,hk=>by
    simp at h1 h2;subst h1;subst h2
    show bindC kindOf ((p,w)::P.zip vs) m p=_
    unfold bindC
    rw[zy7 λv hv=>(aS.mp nd).1 (eW hv).1,if_neg hk]
    simp
  | p::P,w::vs,i+1,m,nd,h1,h2,hk=>by
    show bindC kindOf ((p,w)::P.zip vs) m x=_
    unfold bindC
    exact zy6 (i:=i) (aS.mp nd).2 (by simpa using h1) (by simpa using h2) hk
def start (N:List Str)(vs:List V):St:=vs.map some++List.replicate (N.length-vs.length) none
def R3 (CX:CXT)(P:gf)(w:gp)(K:W.Frag)(mg:Str->Option Value)(base:Heap)(N:List Str)(qual:Str)(scope:Scope)(f:Addr)(cd:Value)(A:gq)(outer:List Env)(s:fZ)(H:Hp)(E:XK):Cx where
  prog:=P
  w:=w
  K:=K
  mg:=mg
  base:=base
  A:=A.deeper (envOfC qual scope s.heap.objs.size f cd)
  N:=N
  s₀:=s
  H₀:=H
  env:=envOfC qual scope s.heap.objs.size f cd
  outer:=outer
  stack:=envOfC qual scope s.heap.objs.size f cd::outer
  ex:=[]
  calm:=true
  fn:=λ_=>true
  pn:=[]
  xe:=λe s'=>gg (gn P w) (A.deeper (envOfC qual scope s.heap.objs.size f cd)) (leaving (envOfC qual scope s.heap.objs.size f cd) e) (λ_ s''=>CX outer H s E e s'') (λe' s''=>CX outer H s E e' s'') s'
theorem yg9 {a:Scope}(h:a.names.lookup x=some .cell):∃c,(cellsFrom n a.names []).lookup x=some c:=by
  have q:=W.cellsFrom_some a.names n [] (.inl h);exact dD.mp q
theorem xb6 {K : W.Frag}{mg : Str -> Option Value}{N ps : List Str}{qual : Str}{scope : Scope}{f : Addr}{cd : Value}{A : gq}{outer : List Env}{s s1 : fZ}{H : Hp}{E : XK}{us : List Value}{vs : List V}
    (S:x0 N ps scope) (C:A.handled=none) (d:yo5 P w K mg base A outer s H) (hl:vs.length=ps.length) (r:r8 vs us)
    (x:InCallC s s.heap.objs.size (bindL (envOfC qual scope s.heap.objs.size f cd).kindOf (ps.zip us) λ_=>none) (cellsFrom (s.heap.objs.size+1) scope.names []) (bindC (envOfC qual scope s.heap.objs.size f cd).kindOf (ps.zip us) λ_=>none) s1) :
    Inv (R3 CX P w K mg base N qual scope f cd A outer s H E) [] (start N vs) H s1:=by
  have D:ps.length<=N.length:=by have:=congrArg List.length S.pre;rw[aK]at this;lia
  obtain⟨h1,G,rfl,o⟩:=x.done;have j:∀b:Addr,b∉(R3 CX P w K mg base N qual scope f cd A outer s H E).ex:=λb z=>absurd (show b∈([]:List Addr) from z) (by simp);refine⟨⟨d.mod,S.kind,rfl,rfl,af _,λy z c h1 h2=>?_,λy g=>?_,λy c _ h=>?_,λ_=>C,Around.frames_deeper d.frames,.inr ⟨rfl,rfl⟩,λb z=>absurd z (j b),d.bs,d.bsz,λb _ _=>j b,λb z=>absurd z (j b),d.funs,d.frf⟩,
    rfl,d.bare,Un.kept o,⟨_,x.toInCall.ns,λi y v h1 h2 F=>?_⟩,λy c h=>⟨_,x.cell y c h⟩,d.hok.fresh (af _),λy c h=>?_,λp l=>absurd (show p∈([]:List (Addr×Obj)) from l) (by simp),d.hok.kept o,?_⟩
  . exact name_of_addr x.apart (PySem.mem_of_lookup h1) (PySem.mem_of_lookup h2)
  . have g : scope.names.lookup y = some .cell∨scope.names.lookup y = some .free := g;rcases g with g|g
    . exact yg9 g
    . exact absurd rfl (S.nofree _ (PySem.mem_of_lookup g))
  . exact bp (x.above y c (PySem.mem_of_lookup h))
  . have hi:i<vs.length:=by
      unfold start at h2;by_cases hi:i<vs.length
      . exact hi
      . rw[aI (by simpa using hi)]at h2;rw[bS]at h2;split at h2 <;> cases h2
    have B:vs[i]?=some v:=by
      unfold start at h2;rw[aE (by simpa using hi),al]at h2
      cases e:vs[i]? with
      | none=>rw[e]at h2;cases h2
      | some a=>rw[e]at h2;cases h2;rfl
    obtain⟨u,t,rv⟩:=r.get B;have l:ps[i]?=some y:=by
      rw[←S.pre,bN (by lia)];exact h1
    have m:ps.Nodup:=by rw[←S.pre];exact S.nd.sublist (eG _ _)
    refine⟨u,rv,?_⟩;rcases S.par y (au l) with k|k
    . exact .inl ⟨k,zy8 m l t k⟩
    . obtain⟨c, e⟩ := yg9 (n := s.heap.objs.size+1) k;refine .inr ⟨.inl k,c,e,?_⟩;have q:=x.cell y c e;rw[zy6 m l t (by show scope.names.lookup y≠_;rw[k];decide)]at q;exact q
  . exact d.hok.fresh (bp (x.above y c (PySem.mem_of_lookup h)))
  . unfold start;show _=N.length;rw[ao,ae,bo];lia
theorem xv3 {K : W.Frag}{mg : Str -> Option Value}{f : Addr}{name qual : Str}{c : Arguments}{d : List Stmt}{scope : Scope}{M kV l pm a ct oc : Value}{an od : Option Addr}
    {F:Array (Option Value)} {N ps:List Str} {sp:Sp} (lk:K.lookup f=some ⟨oc,od,.func (W.fnOf name qual c d scope M kV l pm an a ct),F⟩) (C:W.codeIn K a qual=true) (S:x0 N ps scope)
    (z:∀g H Q E,sp g H Q E->g.length=ps.length)
    (h:∀(A:gq) (outer:List Env) (s:fZ) (H:Hp) (g:List V) (Q:VK) (E:XK),X3 k (A.deeper (envOfC qual scope s.heap.objs.size f a))->sp g H Q E ->
      ∃t,PSs (R3 CX P w K mg base N qual scope f a A outer s H E) d t/\t { nx:=λ_ H'=>Q .non H',rt:=Q } (start N g) H) :
    u7 P w K mg base CX (k+1) f (W.fnOf name qual c d scope M kV l pm an a ct) ps sp:=by
  refine⟨z,λA outer s H L us g Q E hr m T r p=>?_⟩
  have X:=z _ _ _ _ p
  have G:K.In s.heap:=m.mod.kin.keeps λb o e=>(m.bs b o e).1
  have D:s.heap.NoLimit:=m.mod.nolimit.keeps λb o e=>(m.bs b o e).1
  have i:∀y∈ps.zip us,scope.names.lookup y.1=some .local∨(scope.names.lookup y.1=some .cell/\((cellsFrom (s.heap.objs.size+1) scope.names []).lookup y.1).isSome=true):=λ⟨n,v⟩ hy=>by
    rcases S.par n (eW hy).1 with q|q
    . exact .inl q
    . exact .inr ⟨q,W.cellsFrom_some _ _ _ (.inl q)⟩
  refine codeAny_call_function hr.depth (G _ _ lk) rfl S.co S.gen rfl (W.codeRec_of G C) (T _ _ _ _ ?_)
  refine wpAny_newFunctionEnv_cells S.kind i λO U s1 x=>?_
  subst U
  refine⟨D.keeps x.toInCall.keep,codeAny_func ?_⟩
  obtain⟨t,Z,Y⟩:=h A outer s H g Q E (hr.deeper _) p
  have I:Inv (R3 CX P w K mg base N qual scope f a A outer s H E) [] (start N g) H s1:=xb6 S hr.hd m X r x
  refine gu (Z [] s1 (start N g) H _ I Y) (λR s' j=>?_) λe s' j=>j
  have fin:∀{B:St} {H':Hp} {v:V} {u:Value},Inv (R3 CX P w K mg base N qual scope f a A outer s H E) [] B H' s'->p8 v u->Q v H'->CE outer P w H s Q u s' :=
    λ{B H' v u} J rv q=>⟨v,H',J.os,J.bare,J.base,J.hok,rv,q⟩
  cases R with
  | ret u =>
    obtain⟨v,B,H',J,rv,q⟩:=j
    exact fin J rv q
  | next =>
    obtain⟨B,H',J,q⟩:=j
    exact fin (v:=V.non) (u:=Value.none) J rfl q
  | brk =>
    obtain⟨_,_,_,q⟩:=j
    exact False.elim q
  | cont =>
    obtain⟨_,_,_,q⟩:=j
    exact False.elim q
section
variable {X:Cx}{x:Str}{p pos:Pos}{e:Expr}{es:List Expr}{t:TA}{id T:String}{r:List V->Hp->VK->Prop}
def tCB (r:List V->Hp->VK->Prop)(t:TA):TE:=λσ H Q=>t σ H λvs H1=>r vs H1 Q
theorem w8 (hc : V1 X (.builtin id) r)(hg : Gl X x)(hm : X.mg x = none)(hv : gv x = some (.builtin id))(ha : PA X (e::es) t)(hn : x ≠ "__name__" := by decide)(hdb : (x==("__debug__" : Str)) = false := by decide)
    (he:gh (e::es) X.env=(false,eval e X.env)::gh es X.env:=by rfl) (hpl:(backTo pos (gh es X.env)).any (·.1)=false:=by rfl):PE X (.Call (.Name x p) (e::es) [] pos) (tCB r t):=by
  intro pins s σ H Q I h;refine wpAny_Call_Name_kw (J4 I hg hm hv ?_ hn hdb);exact PyProof.Rows.callWith_builtin1 (thn (ha pos pins s σ H _ I h) λus s1 ⟨vs,H1,I1,r1,q1⟩=>hc pins s1 σ H1 vs us Q I1 r1 q1) he hpl
theorem u9 (hc : V1 X (.type T) r)(hg : Gl X x)(hm : X.mg x = none)(hv : gv x = some (.type T))(ha : PA X (e::es) t)(hn : x ≠ "__name__" := by decide)(hdb : (x==("__debug__" : Str)) = false := by decide)
    (he:gh (e::es) X.env=(false,eval e X.env)::gh es X.env:=by rfl) (hpl:(backTo pos (gh es X.env)).any (·.1)=false:=by rfl):PE X (.Call (.Name x p) (e::es) [] pos) (tCB r t):=by
  intro pins s σ H Q I h;refine wpAny_Call_Name_kw (J4 I hg hm hv ?_ hn hdb);exact PyProof.Rows.callWith_type1 (thn (ha pos pins s σ H _ I h) λus s1 ⟨vs,H1,I1,r1,q1⟩=>hc pins s1 σ H1 vs us Q I1 r1 q1) he hpl
end
end L2
namespace HT
open PySem PyProof.Rows
def lexLt : List Int -> List Int -> Bool
  | [],[]=>false
  | [],_::_=>true
  | _::_,[]=>false
  | x::xs,y::ys=>if x=y then lexLt xs ys else decide (x<y)
theorem lexLt_cons (x y:Int)(xs ys:List Int):lexLt (x::xs) (y::ys)=if x=y then lexLt xs ys else decide (x<y):=rfl
theorem lexLt_nil_cons (y:Int)(ys:List Int):lexLt [] (y::ys)=true:=rfl
section
variable {prog:gf}{w:gp}{A:gq}{E:Value->fZ->Prop}{s:fZ}
def sIx (n d : Nat) : Option Int -> Nat
  | none=>d
  | some v=>if v<0 then(v+(n:Int)).toNat else min v.toNat n
theorem sIx_none (n d:Nat):sIx n d none=d:=rfl
theorem sIx_nat (n d k:Nat):sIx n d (some (k:Int))=min k n:=by
  show(if (k:Int)<0 then((k:Int)+(n:Int)).toNat else min (k:Int).toNat n)=min k n;rw[if_neg (by lia),bG]
theorem wb0 (n d:Nat)(b:d<=n)(o:Option Int):sIx n d o<=n:=by
  cases o with
  | none=>exact b
  | some v =>
    show(if v<0 then(v+(n:Int)).toNat else min v.toNat n)<=n;by_cases a:v<0
    . rw[if_pos a];lia
    . rw[if_neg a];exact Nat.min_le_right _ _
theorem yu7 (v:Int)(n d:Nat):(if v<0 then max (v+(n:Int)) 0 else min v (n:Int))=((sIx n d (some v):Nat):Int):=by
  show(if v<0 then max (v+(n:Int)) 0 else min v (n:Int))=(((if v<0 then(v+(n:Int)).toNat else min v.toNat n):Nat):Int);by_cases a:v<0
  . simp only[if_pos a];lia
  . simp only[if_neg a];lia
theorem yo7 (lo hi:Option Int)(n:Nat):Builtin.Slice.sliceAdjust lo hi 1 (n:Int)=(((sIx n 0 lo:Nat):Int),((sIx n n hi:Nat):Int)):=by
  have h1:¬((1:Int)<0):=by lia
  unfold Builtin.Slice.sliceAdjust;simp only[h1,if_false];refine Prod.ext ?_ ?_
  . cases lo with
    | none=>rfl
    | some v=>exact yu7 v n 0
  . cases hi with
    | none=>rfl
    | some v=>exact yu7 v n n
theorem ys1 (i j:Nat):Builtin.Slice.slicePlaces (i:Int) (j:Int) 1=j-i:=by
  unfold Builtin.Slice.slicePlaces;have h1:(1:Int) > 0:=by lia
  simp only[h1,if_true,Int.ediv_one]
  split <;> lia
theorem zu3 {Q:Option Int->fZ->Prop}(p:IsPart v o)(h:Q o s):gg (gn prog w) A (Builtin.Slice.slicePartIndex v) Q E s:=by
  cases p with
  | none=>exact slicePart_none h
  | int i t=>exact slicePart_int h
theorem zk7 {lo hi : Option Int}{Q : Int×Int×Nat -> fZ -> Prop}(f : s.heap.IsSliceOf sl c d .none)(pl : IsPart c lo)(g : IsPart d hi)
    (h:Q (((sIx n 0 lo:Nat):Int),1,sIx n n hi-sIx n 0 lo) s):gg (gn prog w) A (Builtin.Slice.sliceApplied (.ref sl) (pure (n:Int))) Q E s:=by
  obtain⟨i,b,e,a⟩:=id f;unfold Builtin.Slice.sliceApplied Builtin.Slice.sliceFields;refine fY (fY (wpAny_field b a (x:=c) rfl (fY (wpAny_field b a (x:=d) rfl (fY (wpAny_field b a (x:=.none) rfl (gc ?_)))))));refine fY (slicePart_none ?_);show gg _ _ (if ((1:Int)==0)=true then _ else _) _ _ s;rw[if_neg (by decide)];refine fY (zu3 pl (fY (zu3 g (fY (gc ?_)))));show gg _ _ (match Builtin.Slice.sliceAdjust lo hi 1 (n:Int) with|(lo,hi)=>pure (lo,(1:Int),Builtin.Slice.slicePlaces lo hi 1)) _ _ s;rw[yo7 lo hi n];show gg _ _ (pure (((sIx n 0 lo:Nat):Int),(1:Int),Builtin.Slice.slicePlaces ((sIx n 0 lo:Nat):Int) ((sIx n n hi:Nat):Int) 1)) _ _ s;rw[ys1];exact gc h
theorem xl5 (xs:Array Value)(i k:Nat):((List.range k).filterMap λ(m:Nat)=>xs[((i:Int)+(m:Int)*1).toNat]?).toArray=((xs.toList.drop i).take k).toArray:=by
  have e:(λ(m:Nat)=>xs[((i:Int)+(m:Int)*1).toNat]?)=λm=>xs[i+m]?:=by
    funext m;have:((i:Int)+(m:Int)*1).toNat=i+m:=by lia
    rw[this]
  rw[e];have:=pick_run xs i k;rw[List.filterMap_map]at this;have a:((λx=>xs[x]?) ∘ λx=>i+x)=λm=>xs[i+m]?:=rfl;rw[a]at this;rw[this]
theorem getItem_tuple_cut {items : Array Value}{lo hi : Option Int}{Q : Value -> fZ -> Prop}(b : IsTup s.heap t items)(g : s.heap.IsSliceOf sl i j .none)(pl : IsPart i lo)(n : IsPart j hi)
    (hw:¬(sIx items.size 0 lo=0/\sIx items.size items.size hi=items.size))
    (h:Q (.ref s.heap.objs.size) { s with heap:=s.heap.push { cls:=.type "tuple",data:=.seq ((items.toList.drop (sIx items.size 0 lo)).take (sIx items.size items.size hi-sIx items.size 0 lo)).toArray } })
    (hsz:items.size<=ge):gg (gn prog w) A (getItem (.ref t) (.ref sl)) Q E s:=by
  have a:sizeOk (.seq ((items.toList.drop (sIx items.size 0 lo)).take (sIx items.size items.size hi-sIx items.size 0 lo)).toArray):=by
    show((items.toList.drop (sIx items.size 0 lo)).take (sIx items.size items.size hi-sIx items.size 0 lo)).toArray.size<=ge;rw[ay,aK,bH,aP];lia
  have o:sIx items.size items.size hi<=items.size:=wb0 _ _ (af _) hi;obtain⟨l,f,d,k⟩:=id g;have c:s.TypeIs (.ref sl) "slice":=⟨l,f,d⟩;unfold getItem
  try with_reducible refine gr ?_
  first|refine fY (gc ?_)|skip
  refine fY (wpAny_sequenceKey b.typeIs (by decide) ?_);refine fY (wpAny_callSpecial?_slot (name := Str.ofString "__getitem__") b.typeIs PyProof.Rows.slot_tuple_getitem
    (wpAny_call_entry PyProof.Rows.slot_tuple_getitem b.typeIs entry_tuple_getitem ?_ (args_tuple_getitem _ _)))
  show gg _ _ (Builtin.Tuple.tupleItemsOf (.ref t) >>= _) _ _ s;refine fY (tupleItemsOf_ b ?_);refine fY (wpAny_typeOf c ?_);rw[if_pos (by decide)];refine fY (zk7 g pl n ?_);have e:¬((((sIx items.size 0 lo:Nat):Int)==0&&(1:Int)==1&&(sIx items.size items.size hi-sIx items.size 0 lo)==items.size)=true):=by
    intro q;rw[bn,bn]at q;have p:((sIx items.size 0 lo:Nat):Int)=0:=eq_of_beq q.1.1;have r:sIx items.size items.size hi-sIx items.size 0 lo=items.size:=eq_of_beq q.2;exact hw ⟨by lia,by lia⟩
  show gg _ _ (if (((sIx items.size 0 lo:Nat):Int)==0&&(1:Int)==1&&(sIx items.size items.size hi-sIx items.size 0 lo)==items.size)=true then _ else _) _ _ s;rw[if_neg e,xl5]
  first
    | exact fY (m:=Builtin.Tuple.tupleExact _) (wpAny_newObj_type (gc ⟨_,rfl,gc h⟩) a)
    | exact fY (m:=Builtin.Tuple.tupleExact _) (wpAny_newObj_type (fY (gc (gc ⟨_,rfl,gc h⟩))) a)
    | exact fY (fY (m:=Builtin.Tuple.tupleExact _) (wpAny_newObj_type (gc (gc ⟨_,rfl,gc h⟩)) a))
    | exact fY (fY (m:=Builtin.Tuple.tupleExact _) (wpAny_newObj_type (gc ⟨_,rfl,gc h⟩) a))
end
end HT
namespace L2
open PySem PySem.Spec PyProof.Rows
abbrev TO:=St->Hp->(Option Int->Hp->Prop)->Prop
def PO (X:Cx)(e:Option Expr)(t:TO):Prop :=
  ∀(pins:List (Addr×Obj)) (s:fZ) (σ:St) (H:Hp) (Q:Option Int->Hp->Prop),Inv X pins σ H s->t σ H Q ->
    gg (gn X.prog X.w) X.A (evalPart e X.env) (λu s'=>∃o H',Inv X pins σ H' s'/\IsPart u o/\Q o H') X.xe s
def xu5:TO:=λ_ H Q=>Q none H
def wf8 (t:TE):TO:=λσ H Q=>t σ H λx H1=>∃i,x=.int i/\Q (some i) H1
theorem J2 {ns:List Int}:∀{a:List Value},r8 (ns.map V.int) a->IntsAre a ns:=by
  induction ns with
  | nil=>intro a r;rw[dJ]at r;cases r;exact .nil
  | cons n ns ih =>
    intro a r;rw[aN]at r
    cases r with
    | cons r1 r2 =>
      obtain⟨t,e⟩:=r1;subst e;exact .cons n t (ih r2)
section
variable {X:Cx}{e:Expr}{te:TE}{lo hi:Option Expr}{tl th:TO}{pos p2:Pos}
theorem I0:PO X none xu5:=by
  intro pins s σ H Q I h;rw[evalPart_none];exact gc ⟨none,H,I,.none,h⟩
theorem Q8 (h:PE X e te):PO X (some e) (wf8 te):=by
  intro pins s σ H Q I b;rw[evalPart_some];refine thn (h pins s σ H _ I b) λu s1 ⟨x,H1,a,d,c⟩=>?_;obtain⟨i,rfl,q⟩:=c;obtain⟨t,rfl⟩:=d;exact⟨some i,H1,a,.int i t,q⟩
def SlR (X:Cx)(r:V->Option Int->Option Int->Hp->VK->Prop):Prop :=
  ∀(pins:List (Addr×Obj)) (s:fZ) (σ:St) (H:Hp) (x:V) (v vl vu:Value) (lo hi:Option Int) (sl:Addr) (Q:VK),Inv X pins σ H s->p8 x v->s.heap.IsSliceOf sl vl vu .none->IsPart vl lo->IsPart vu hi->r x lo hi H Q ->
    ∃T id,typeLookup (.type T) "__getitem__"=pure (some (.builtin id))/\s.TypeIs v T/\gg (gn X.prog X.w) X.A (getItem v (.ref sl)) (EP X pins σ Q) X.xe s
def tSl (r:V->Option Int->Option Int->Hp->VK->Prop)(te:TE)(tl th:TO):TE:=λσ H Q=>te σ H λx H1=>tl σ H1 λl H2=>th σ H2 λu H3=>r x l u H3 Q
theorem S9 {r:V->Option Int->Option Int->Hp->VK->Prop}(hr:SlR X r)(j:PE X e te)(hl:PO X lo tl)(n:PO X hi th):PE X (.Subscript e (.Slice lo hi none p2) pos) (tSl r te tl th):=by
  intro pins s σ H Q I h;refine Subscript_ (thn (j pins s σ H _ I h) λv s1 ⟨x,H1,d,z,p⟩=>?_);refine wpAny_Slice (thn (hl pins s1 σ H1 _ d p) λvl B ⟨l,H2,f,pl,t⟩=>thn (n pins B σ H2 _ f t) λvu a ⟨u,c,g,o,y⟩=>?_);rw[evalPart_none];refine gc ?_;have i:Inv X pins σ c { a with heap:=a.heap.push { cls:=.type "slice",data:=.fields #[vl,vu,.none] } }:=g.kept (t':=a.toks) λb C q=>ap _ q;obtain⟨T,id,hT,m,k⟩:=hr pins { a with heap:=a.heap.push { cls:=.type "slice",data:=.fields #[vl,vu,.none] } } σ c x v vl vu l u a.heap.objs.size Q i z (Heap.IsSliceOf.new ..) pl o y;show gg (gn X.prog X.w) X.A (subscriptTail e (.Slice lo hi none p2) v (.ref a.heap.objs.size)) (EP X pins σ Q) X.xe { a with heap:=a.heap.push { cls:=.type "slice",data:=.fields #[vl,vu,.none] } };exact tail_any (ops:=[.ref a.heap.objs.size,v]) m hT k (by with_unfolding_all rfl)
def P5 (xs:List V)(lo hi:Option Int):List V:=(xs.drop (HT.sIx xs.length 0 lo)).take (HT.sIx xs.length xs.length hi-HT.sIx xs.length 0 lo)
theorem zl7 (xs:List V)(lo hi:Option Int):(P5 xs lo hi).length<=xs.length:=by
  unfold P5;rw[aK,bH];lia
def wi1 (K:W.Frag):V->Option Int->Option Int->Hp->VK->Prop:=λx lo hi H Q=>∃a xs,x=.ref a/\SqT K H a xs /\
  ¬(HT.sIx xs.length 0 lo=0/\HT.sIx xs.length xs.length hi=xs.length)/\∀p,H p=none->Q (.ref p) (upd H p (.tup (P5 xs lo hi)))
theorem xn5:SlR X (wi1 X.K):=by
  intro pins s σ H x v n p lo hi sl Q I l g pl k h;obtain⟨a,xs,rfl,j,i,q⟩:=h
  cases l
  obtain⟨d,r,e,f⟩:=I.tuple j;have c:d.toArray.size=xs.length:=by rw[ay];exact r.length.symm
  refine⟨"tuple",_,PyProof.Rows.slot_tuple_getitem.lookup,e.typeIs,?_⟩;refine HT.getItem_tuple_cut e g pl k (by rw[c];exact i) ?_ (by rw[c];exact f);rw[c];refine⟨.ref s.heap.objs.size,_,I.laid (t':=s.toks) (o:=.tup (P5 xs lo hi)) (λb m q=>ap _ q) (af _) ?_,rfl,q _ (I.hok.fresh (af _))⟩;exact⟨aD (zl7 xs lo hi) f,_,(r.drop (HT.sIx xs.length 0 lo)).take (HT.sIx xs.length xs.length hi-HT.sIx xs.length 0 lo),yb3.new _ _⟩
end
def ixN (n:Nat)(i:Int):Option Nat:=if 0<=i then(if i<n then some i.toNat else none) else if -(n:Int)<=i then some (i+n).toNat else none
def atI {α:Type}(xs:List α)(i:Int):Option α:=(ixN xs.length i).bind λj=>xs[j]?
theorem yd0 (h:ixN n i=some j):seqIndex? i n=some j/\j<n/\-(n:Int)<=i/\i<n:=by
  unfold ixN at h;by_cases a:0<=i
  . rw[if_pos a]at h;by_cases h1:i<n
    . rw[if_pos h1]at h;have e:i.toNat=j:=Option.some.inj h;exact⟨by rw[seqIndex_of a h1,e],by lia,by lia,h1⟩
    . rw[if_neg h1]at h;cases h
  . rw[if_neg a]at h;by_cases h1:-(n:Int)<=i
    . rw[if_pos h1]at h;have e:(i+n).toNat=j:=Option.some.inj h;exact⟨by rw[seqIndex_neg (by lia) h1,e],by lia,h1,by lia⟩
    . rw[if_neg h1]at h;cases h
theorem yu6 {α:Type}{xs:List α}{v:α}(h:atI xs i=some v):∃j,seqIndex? i xs.length=some j/\xs[j]?=some v/\j<xs.length/\-(xs.length:Int)<=i/\i<xs.length:=by
  unfold atI at h
  cases e:ixN xs.length i with
  | none=>rw[e]at h;cases h
  | some j =>
    rw[e]at h;obtain⟨h1,h2,a,b⟩:=yd0 e;exact⟨j,h1,h,h2,a,b⟩
theorem o8 {α:Type}{xs:List α}{j:Nat}{v:α}(h:xs[j]?=some v):atI xs (j:Int)=some v:=by
  have a:j<xs.length:=(ag.mp h).1;have e:ixN xs.length (j:Int)=some j:=by
    unfold ixN;rw[if_pos (by lia),if_pos (by lia)];simp
  unfold atI;rw[e];exact h
def xq2 (b:Expr):Prop:=∀o i,subscripted b false o i=operate [o,i] (getItem o i)
def IxR (X:Cx)(r:R2):Prop :=
  ∀(value slice:Expr) (pins:List (Addr×Obj)) (s:fZ) (σ:St) (H:Hp) (x y:V) (v u:Value) (Q:VK),Inv X pins σ H s->p8 x v->p8 y u->r x y H Q ->
    subscripted slice false v u=operate [v,u] (getItem v u)->gg (gn X.prog X.w) X.A (subscriptTail value slice v u) (EP X pins σ Q) X.xe s
def MtR (X:Cx)(id:String)(r:V->List V->Hp->VK->Prop):Prop :=
  ∀(pins:List (Addr×Obj)) (s:fZ) (σ:St) (H:Hp) (x:V) (xs:List V) (v:Value) (us:List Value) (Q:VK),Inv X pins σ H s->p8 x v->r8 xs us->r x xs H Q ->
    gg (gn X.prog X.w) X.A (call (.builtin id) (v::us)) (EP X pins σ Q) X.xe s
section
variable {X:Cx}{a b:Expr}{ta tb:TE}{pos:Pos}
theorem p9 (hr:IxR X r)(d:PE X a ta)(e:PE X b tb)(f:xq2 b):PE X (.Subscript a b pos) (tOp r ta tb):=by
  intro pins s σ H Q I h;exact Subscript_ (xw7 d e I h λv u j x y H2 c g i q=>hr a b pins j σ H2 x y v u Q c g i q (f _ _))
def wh7 (K:W.Frag):R2:=λx y H Q=>∃p xs i v,x=.ref p/\y=.int i/\SqL K H p xs/\atI xs i=some v/\Q v H
def wh8 (K:W.Frag):R2:=λx y H Q=>∃p xs i v,x=.ref p/\y=.int i/\SqT K H p xs/\atI xs i=some v/\Q v H
theorem p0:IxR X (wh7 X.K):=by
  intro value d pins s σ H x y v u Q I A B h g;obtain⟨p,xs,i,z,rfl,rfl,o,m,q⟩:=h
  cases A
  obtain⟨t,rfl⟩:=B;obtain⟨b,r,pl,E⟩:=I.list o;obtain⟨j,h1,h2,C,k,l⟩:=yu6 m;obtain⟨w,e,c⟩:=r.get h2;have n:=r.length;have D:=zr6;have fin:EP X pins σ Q w s:=⟨z,H,I,c,q⟩;by_cases f:0<=i
  . have a:i.toNat=j:=by
      rw[seqIndex_of f l]at h1;exact Option.some.inj h1
    exact item_listR pl.isList f (by lia) (by rw[a];simpa using e) fin g
  . have a:(i+(b.toArray.size:Int)).toNat=j:=by
      rw[seqIndex_neg (by lia) k]at h1;rw[ay,←n];exact Option.some.inj h1
    exact subscriptTail_builtinR (x := w) pl.isList.typeIs slot_list_getitem.lookup
      (wpAny_getItem_list_neg (Q:=λr s'=>r=w/\EP X pins σ Q r s') pl.isList (by lia) (by rw[ay] <;> lia) (by lia) (by rw[a];simpa using e) ⟨rfl,fin⟩) g
theorem Y6:IxR X (wh8 X.K):=by
  intro value b pins s σ H x y v u Q I l m h g;obtain⟨p,xs,i,z,rfl,rfl,f,d,q⟩:=h
  cases l
  obtain⟨t,rfl⟩:=m;obtain⟨k,r,pl,C⟩:=I.tuple f;obtain⟨j,h1,h2,n,o,A⟩:=yu6 d;obtain⟨w,c,a⟩:=r.get h2;have e:=r.length;have B:=zr6;have fin:EP X pins σ Q w s:=⟨z,H,I,a,q⟩;exact subscriptTail_builtinR (x := w) pl.typeIs slot_tuple_getitem.lookup
    (getItem_tuple (j:=j) (Q:=λr s'=>r=w/\EP X pins σ Q r s') pl (by lia) (by lia) (by rw[ay,←e];exact h1) (by simpa using c) ⟨rfl,fin⟩) g
theorem yr2 (its:List Value)(n j:Nat)(u:Value):Obj.mapSeq (·.setIfInBounds j u) { cls:=.type "list",data:=.seq its.toArray n }={ cls:=.type "list",data:=.seq (its.set j u).toArray n }:=by
  simp[Obj.mapSeq]
theorem Inv.lst {σ : St}{s : fZ}{xs : List V}(I : Inv X pins σ H s)(h : H p = some (.lst xs)) :
    ∃(a:List Value) (n:Nat),r8 xs a/\s.heap.get? p=some { cls:=.type "list",data:=.seq a.toArray n }/\xs.length<=ge:=by
  obtain⟨z,a,n,r,e⟩:=I.hok p _ h;exact⟨a,n,r,e,z⟩
theorem Inv.lstUpd {σ : St}{s : fZ}{xs ys : List V}{its its' : List Value}{f : Obj -> Obj}(I : Inv X pins σ H s)(h : H p = some (.lst xs))
    (d:s.heap.get? p=some { cls:=.type "list",data:=.seq its.toArray n }) (a:f { cls:=.type "list",data:=.seq its.toArray n }={ cls:=.type "list",data:=.seq its'.toArray n' }) (r:r8 ys its') (hz:ys.length<=ge) (t:Nat) :
    Inv X pins σ (upd H p (.lst ys)) { s with heap:=s.heap.update p f,toks:=t }:=by
  have e:(s.heap.update p f).get? p=some { cls:=.type "list",data:=.seq its'.toArray n' }:=by
    rw[Heap.get?_update_self f d (by rw[a] <;> rfl),a]
  refine I.write (x:=p) (e:=p) (by rw[h];trivial) (.inl rfl) (λb u c q=>(Heap.get?_update_other _ _ (Ne.symm c)).trans q) ⟨_,e⟩ ?_;exact⟨hz,its',n',r,e⟩
def we7:V->V->V->Hp->(Hp->Prop)->Prop:=λo i v H Q=>∃p xs k j,o=.ref p/\i=.int k/\H p=some (.lst xs)/\ixN xs.length k=some j/\Q (upd H p (.lst (xs.set j v)))
theorem A1:wc5 X we7:=by
  intro pins s σ H o i v C B u Q I z y rv h;obtain⟨p,xs,k,j,rfl,rfl,m,w,q⟩:=h
  cases z
  obtain⟨t,rfl⟩:=y;obtain⟨a,n,r,d,x⟩:=I.lst m;obtain⟨h1,h2,g,l⟩:=yd0 w;have c:=r.length;have A:=zr6;have e:Inv X pins σ (upd H p (.lst (xs.set j v))) { s with heap:=s.heap.update p (Obj.mapSeq (·.setIfInBounds j u)) } :=
    I.lstUpd m d (yr2 a n j u) (r.set rv j) (by rw[bt];exact x) s.toks
  by_cases f:0<=k
  . have b:k.toNat=j:=by
      rw[seqIndex_of f l]at h1;exact Option.some.inj h1
    exact W.ki_setAt d f (by lia) (by rw[ay,←c];exact l) (by rw[b];exact⟨_,e,q⟩)
  . have b:(k+(a.toArray.size:Int)).toNat=j:=by
      rw[seqIndex_neg (by lia) g]at h1;rw[ay,←c];exact Option.some.inj h1
    exact W.ki_setBack d (by lia) (by rw[ay,←c];exact g) (by lia) (by rw[b];exact⟨_,e,q⟩)
theorem yg0 (lo hi:Option Int)(n:Nat):(sliceBounds lo hi none n).1=((HT.sIx n 0 lo:Nat):Int)/\(sliceBounds lo hi none n).2.1=((HT.sIx n n hi:Nat):Int)/\(sliceBounds lo hi none n).2.2=1:=by
  refine⟨?_,?_,rfl⟩
  . cases lo with
    | none=>simp[sliceBounds,HT.sIx]
    | some i =>
      simp only[sliceBounds,HT.sIx,fC,show(1:Int) > 0 by decide,if_true];by_cases h:i<0
      . simp only[h,if_true] <;> lia
      . simp only[h,if_false] <;> lia
  . cases hi with
    | none=>simp[sliceBounds,HT.sIx]
    | some i =>
      simp only[sliceBounds,HT.sIx,fC,show(1:Int) > 0 by decide,if_true];by_cases h:i<0
      . simp only[h,if_true] <;> lia
      . simp only[h,if_false] <;> lia
theorem zy5 (its:List Value)(lo hi:Option Int):slicePick its.toArray lo hi none=((its.drop (HT.sIx its.length 0 lo)).take (HT.sIx its.length its.length hi-HT.sIx its.length 0 lo)).toArray:=by
  obtain⟨h1,h2,a⟩:=yg0 lo hi its.toArray.size;unfold slicePick;rw[h1,h2,a];simp only[sliceRange_one,pick_run,ay] <;> rfl
def wi0 (K:W.Frag):V->Option Int->Option Int->Hp->VK->Prop:=λx lo hi H Q=>∃a xs,x=.ref a/\SqL K H a xs/\∀p,H p=none->Q (.ref p) (upd H p (.lst (P5 xs lo hi)))
theorem za3:SlR X (wi0 X.K):=by
  intro pins s σ H x v m n lo hi sl Q I k e pl j h;obtain⟨a,xs,rfl,f,q⟩:=h
  cases k
  obtain⟨i,r,d,g⟩:=I.list f;have c:=r.length;refine⟨"list",_,slot_list_getitem.lookup,d.isList.typeIs,?_⟩;refine wpAny_getItem_list_slice d.isList e pl j .none (by simp) ?_ (by rw[ay] <;> lia);rw[zy5,←c];refine⟨.ref s.heap.objs.size,_,I.laid (t':=s.toks) (o:=.lst (P5 xs lo hi)) (λb l q=>ap _ q) (af _) ?_,rfl,q _ (I.hok.fresh (af _))⟩;exact⟨aD (zl7 xs lo hi) g,_,0,(r.drop (HT.sIx xs.length 0 lo)).take (HT.sIx xs.length xs.length hi-HT.sIx xs.length 0 lo),aC _ rfl⟩
def zl9 : V -> Bool
  | .non=>true
  | .bl _=>true
  | .int _=>true
  | .str _=>true
  | _=>false
def eqV : V -> V -> Bool
  | .non,.non=>true
  | .bl a,.bl b=>a==b
  | .bl a,.int b=>(if a then 1 else 0)==b
  | .int a,.bl b=>a==(if b then 1 else 0)
  | .int a,.int b=>a==b
  | .str a,.str b=>a==b
  | _,_=>false
theorem xx4 (f:p8 y u)(c:p8 x v)(g:zl9 y=true)(e:zl9 x=true):SeqAt.EqAt A s u v (eqV y x):=by
  cases y with
  | non =>
    cases f
    cases x with
    | non=>cases c;exact SeqAt.EqAt.same _
    | bl b=>cases c;exact SeqAt.EqAt.none_bool b
    | int b=>obtain⟨t,rfl⟩:=c;exact SeqAt.EqAt.none_int b t
    | str b=>obtain⟨t,rfl⟩:=c;exact SeqAt.EqAt.none_str b t
    | _=>exact absurd (show false=true from e) aA
  | bl a =>
    cases f
    cases x with
    | non=>cases c;exact SeqAt.EqAt.bool_none a
    | bl b=>cases c;exact SeqAt.EqAt.bool_bool a b
    | int b=>obtain⟨t,rfl⟩:=c;exact SeqAt.EqAt.bool_int a b t
    | str b=>obtain⟨t,rfl⟩:=c;exact SeqAt.EqAt.bool_str a b t
    | _=>exact absurd (show false=true from e) aA
  | int a =>
    obtain⟨d,rfl⟩:=f
    cases x with
    | non=>cases c;exact SeqAt.EqAt.int_none a d
    | bl b=>cases c;exact SeqAt.EqAt.int_bool a d b
    | int b=>obtain⟨t,rfl⟩:=c;exact SeqAt.EqAt.int_int a d b t
    | str b=>obtain⟨t,rfl⟩:=c;exact SeqAt.EqAt.int_str a d b t
    | _=>exact absurd (show false=true from e) aA
  | str a =>
    obtain⟨d,rfl⟩:=f
    cases x with
    | non=>cases c;exact SeqAt.EqAt.str_none a d
    | bl b=>cases c;exact SeqAt.EqAt.str_bool a d b
    | int b=>obtain⟨t,rfl⟩:=c;exact SeqAt.EqAt.str_int a d b t
    | str b=>obtain⟨t,rfl⟩:=c;exact SeqAt.EqAt.str_str a d b t
    | _=>exact absurd (show false=true from e) aA
  | _=>exact absurd (show false=true from g) aA
def eqU (x:V)(u:Value):Bool:=match u with
  | .none=>eqV .non x
  | .bool b=>eqV (.bl b) x
  | .int i _=>eqV (.int i) x
  | .str z _=>eqV (.str z) x
  | _=>false
theorem xh0 (r:p8 y u)(f:zl9 y=true):eqU x u=eqV y x:=by
  cases y with
  | non=>cases r;rfl
  | bl b=>cases r;rfl
  | int i=>obtain⟨t,rfl⟩:=r;rfl
  | str z=>obtain⟨t,rfl⟩:=r;rfl
  | _=>exact absurd (show false=true from f) aA
theorem ze6  : ∀{xs : List V} {us : List Value}, r8 xs us -> xs.all zl9 = true -> us.any (eqU x) = xs.any λy => eqV y x
  | _,_,.nil,_=>rfl
  | y::xs,u::us,.cons r t,f=>by
    rw[dH,bn]at f
    rw[dG,dG,xh0 r f.1,ze6 t f.2]
theorem C8 (rx : p8 x v)(fx : zl9 x = true) : ∀{xs : List V} {us : List Value}, r8 xs us -> xs.all zl9 = true -> ∀u ∈ us, SeqAt.EqAt A s u v (eqU x u)
  | _,_,.nil,_=>λu hu=>by cases hu
  | y::xs,u::us,.cons r t,f=>λu' hu=>by
    rw[dH,bn]at f
    rcases ax.mp hu with rfl|hu
    . rw[xh0 r f.1];exact xx4 r rx f.1 fx
    . exact C8 rx fx t f.2 u' hu
def inV (x:V)(xs:List V):Bool:=xs.any λy=>eqV y x
def rIn (K:W.Frag)(neg:Bool):R2:=λx y H Q=>∃p xs,y=.ref p/\(SqL K H p xs∨SqT K H p xs)/\zl9 x=true/\xs.all zl9=true/\Q (.bl (if neg then !inV x xs else inV x xs)) H
theorem xc8:OpR X (compareOp .In) (rIn X.K false):=by
  intro pins s σ H x y v u Q I e g h;obtain⟨p,xs,rfl,b,d,fs,q⟩:=h
  cases g
  rcases b with b|b
  . obtain⟨a, r, pl, f⟩ := I.list b;refine SeqAt.in_listAt (eqU x) pl.isList (λw c=>C8 e d r fs w (by simpa using c)) ⟨.bl _,H,I,rfl,?_⟩;rw[show a.toArray.any (eqU x)=a.any (eqU x) by simp,ze6 r fs];exact q
  . obtain⟨a, r, pl, f⟩ := I.tuple b;refine SeqAt.in_tupleAt (eqU x) pl (λw c=>C8 e d r fs w (by simpa using c)) ⟨.bl _,H,I,rfl,?_⟩;rw[show a.toArray.any (eqU x)=a.any (eqU x) by simp,ze6 r fs];exact q
theorem ye5:OpR X (compareOp .NotIn) (rIn X.K true):=by
  intro pins s σ H x y v u Q I e g h;obtain⟨p,xs,rfl,b,d,fs,q⟩:=h
  cases g
  rcases b with b|b
  . obtain⟨a, r, pl, f⟩ := I.list b;refine SeqAt.notIn_listAt (eqU x) pl.isList (λw c=>C8 e d r fs w (by simpa using c)) ⟨.bl _,H,I,rfl,?_⟩;rw[show a.toArray.any (eqU x)=a.any (eqU x) by simp,ze6 r fs];exact q
  . obtain⟨a, r, pl, f⟩ := I.tuple b;refine SeqAt.notIn_tupleAt (eqU x) pl (λw c=>C8 e d r fs w (by simpa using c)) ⟨.bl _,H,I,rfl,?_⟩;rw[show a.toArray.any (eqU x)=a.any (eqU x) by simp,ze6 r fs];exact q
theorem v1:V1 X (.builtin "len") (λxs H Q=>∃p ys,xs=[.ref p]/\(SqL X.K H p ys∨SqT X.K H p ys)/\Q (.int ys.length) H):=by
  intro pins s σ H xs i Q I r h;obtain⟨p,ys,rfl,b,q⟩:=h;obtain⟨u,rfl,f⟩:=K6 r
  cases f
  have g:=zr6;rcases b with b|b
  . obtain⟨c, d, pl, e⟩ := I.list b;have a:=d.length;exact Calls.call_len_list pl.isList (by simp only[ay] <;> lia) ⟨.int ys.length,H,I.tok _,⟨s.toks+1,by rw[ay,a]⟩,q⟩
  . obtain⟨c, d, pl, e⟩ := I.tuple b;have a:=d.length;exact len_tuple pl (by simp only[ay] <;> lia) ⟨.int ys.length,H,I.tok _,⟨s.toks+1,by rw[ay,a]⟩,q⟩
theorem Q4:V1 X (.type "list") (λxs H Q=>∃p ys,xs=[.ref p]/\(SqL X.K H p ys∨SqT X.K H p ys)/\∀l,H l=none->Q (.ref l) (upd H l (.lst ys))):=by
  intro pins s σ H xs t Q I r h;obtain⟨p,ys,rfl,d,q⟩:=h;obtain⟨u,rfl,m⟩:=K6 r
  cases m
  have fin:∀(its:List Value),r8 ys its->ys.length<=ge->∀(h':Heap) (c':Nat),(∀b o',s.heap.get? b=some o'->h'.get? b=some o') ->
      h'.get? s.heap.objs.size=some { cls:=.type "list",dict:=none,data:=.seq its.toArray c',slots:=#[] }->EP X pins σ Q (.ref s.heap.objs.size) { s with heap:=h' }:=λits a f h' c' g e =>
    ⟨.ref s.heap.objs.size,_,I.laid (t':=s.toks) g (af _) (show n6 X.prog X.w _ h' _ (.lst ys) from⟨f,its,c',a,e⟩),rfl,q _ (I.hok.fresh (af _))⟩
  rcases d with d|d
  . obtain⟨its, a, pl, f⟩ := I.list d;have c:=a.length;obtain⟨o,k,i,n,j⟩:=pl.isList;exact call_list_seq p (.inl rfl) k i j (λh' c' g e=>fin its a f h' c' g e) (by simp only[ay] <;> lia)
  . obtain⟨its, a, pl, f⟩ := I.tuple d;have c:=a.length;obtain⟨o,k,i,n,j⟩:=pl;exact call_list_seq p (.inr rfl) k i j (λh' c' g e=>fin its a f h' c' g e) (by simp only[ay] <;> lia)
theorem l5:V1 X (.type "tuple") (λxs H Q=>∃p ys,xs=[.ref p]/\((SqL X.K H p ys/\∀l,H l=none->Q (.ref l) (upd H l (.tup ys)))∨(SqT X.K H p ys/\Q (.ref p) H))):=by
  intro pins s σ H xs m Q I r h;obtain⟨p,ys,rfl,h⟩:=h;obtain⟨u,rfl,k⟩:=K6 r
  cases k
  rcases h with⟨a,q⟩|⟨a,q⟩
  . obtain⟨its, c, pl, g⟩ := I.list a;have f:=c.length;refine call_tuple_list pl.isList (λh' j=>?_) (by simp only[ay] <;> lia);have d:Inv X pins σ H { s with heap:=h' }:=I.kept (t':=s.toks) j;have i:Inv X pins σ (upd H h'.objs.size (.tup ys)) { s with heap:=h'.push { cls:=.type "tuple",data:=.seq its.toArray } } :=
      d.laid (t':=s.toks) (λb o e=>ap _ e) (af _) (show n6 X.prog X.w _ _ _ (.tup ys) from⟨g,its,c,yb3.new _ _⟩)
    exact⟨.ref h'.objs.size,_,i,rfl,q _ (d.hok.fresh (af _))⟩
  . obtain⟨its, c, pl, g⟩ := I.tuple a;exact call_tuple_same pl ⟨.ref p,H,I,rfl,q⟩
def tyV (K:W.Frag)(T:String)(x:V)(H:Hp):Prop:=match x with
  | .str _=>T="str"
  | .int _=>T="int"
  | .ref p => (T = "list" /\ ∃xs, SqL K H p xs)∨(T = "tuple" /\ ∃o, K.lookup p = some o /\ o.cls = .type "tuple" /\ o.dict = none) ∨
      (T="dict"/\((∃kvs,H p=some (.dK kvs))∨∃kvs,H p=some (.dT kvs)))∨(T="set"/\∃S n,H p=some (.set S n))
  | _=>False
theorem wc0 {σ : St}{s : fZ}{v : Value}(I : Inv X pins σ H s)(r : p8 x v)(ty : tyV X.K T x H) :
    s.TypeIs v T/\∀a,v=.ref a->∃ob,s.heap.get? a=some ob/\ob.dict=none:=by
  cases x with
  | str z =>
    obtain⟨t,rfl⟩:=r
    cases (show T="str" from ty)
    exact⟨typeIs_str s z t,λ_ e=>nomatch e⟩
  | int i =>
    obtain⟨t,rfl⟩:=r
    cases (show T="int" from ty)
    exact⟨typeIs_int s i t,λ_ e=>nomatch e⟩
  | ref p =>
    cases r
    rcases ty with⟨rfl,xs,h⟩|⟨rfl,o,b,g,f⟩|⟨rfl,b⟩|⟨rfl,S,n,b⟩
    . obtain⟨j, _, pl, _⟩ := I.list h;refine⟨pl.isList.typeIs,λa e=>?_⟩
      cases e
      obtain⟨o,n,e,c,f,_⟩:=pl;exact⟨o,e,f⟩
    . refine⟨⟨o, I.kIn p o b, g⟩, λa e => ?_⟩
      cases e
      exact⟨o,I.kIn _ o b,f⟩
    . have z:∃o,s.heap.get? p=some o/\o.ExactDict:=by
        rcases b with⟨kvs,b⟩|⟨kvs,b⟩
        . obtain⟨_, _, _, _, o, _, _, e, ex, _⟩ := I.hok p _ b;exact⟨o,e,ex⟩
        . obtain⟨_, _, _, _, o, _, _, e, ex, _⟩ := I.hok p _ b;exact⟨o,e,ex⟩
      obtain⟨o,e,ex⟩:=z;refine⟨⟨o,e,ex.1⟩,λa d=>?_⟩
      cases d
      exact⟨o,e,ex.2.1⟩
    . obtain⟨o, _, _, _, e, ex, _⟩ := I.hok p _ b;refine⟨⟨o,e,ex.1⟩,λa d=>?_⟩
      cases d
      exact⟨o,e,ex.2.1⟩
  | _=>exact False.elim ty
def tBM (K:W.Frag)(T:String)(r:V->List V->Hp->VK->Prop)(to:TE)(t:TA):TE:=λσ H Q=>to σ H λx H1=>tyV K T x H1/\t σ H1 λxs H2=>r x xs H2 Q
variable {o e:Expr}{es:List Expr}{to:TE}{t:TA}{name:Str}{apos cpos:Pos}{T id:String}{r:V->List V->Hp->VK->Prop}
theorem K1 (pa : PlainAttrs T)(slot : Slot T name id)(hty : typeOf (.builtin id) = pure (.type "method_descriptor"))(hm : MtR X id r)(ho : PE X o to)(ha : PA X (e::es) t)
    (hbase:attributeBase o name X.env (eval o X.env)=eval o X.env:=by rfl)
    (hfew : ((backTo cpos (gh (e::es) X.env)).all (λx => !x.1)&&(backToKw cpos (gw [] X.env)).all (λx => x.1.isSome)
      && decide ((e::es).length+([]:List Keyword).length+(if ([]:List Keyword).isEmpty then 0 else 1)<30))=true:=by rfl)
    (hline:(apos.endLine==cpos.line)=true:=by rfl) (hs:gh (e::es) X.env=(false,eval e X.env)::gh es X.env:=by rfl) (hplain:(backTo cpos (gh es X.env)).any (·.1)=false:=by rfl) :
    PE X (.Call (.Attribute o name apos) (e::es) [] cpos) (tBM X.K T r to t):=by
  intro pins s σ H Q I h
  refine wpAny_Call_method_late hbase hfew hline rfl (thn (ho pins s σ H _ I h) λv s1 ⟨x,H1,I1,r1,ty,q1⟩=>?_)
  obtain⟨h1,h2⟩:=wc0 I1 r1 ty
  refine⟨T,id,pa,slot,hty,h1,h2,?_⟩
  have hA:=ha cpos pins s1 σ H1 _ I1 q1
  rw[hs]at hA ⊢
  refine Calls.callWith_builtin (by show(false || (backTo cpos (gh es X.env)).any (·.1))=false;rw[hplain] <;> rfl) (Calls.evalArgs_plain ?_)
  exact thn hA λus s2 ⟨vs,H2,I2,r2,q2⟩=>hm pins s2 σ H2 x vs v us Q I2 r1 r2 q2
end
def MtM (X:Cx)(id:String)(r:V->List V->Hp->VK->Prop):Prop :=
  ∀(pins:List (Addr×Obj)) (s:fZ) (σ:St) (H:Hp) (x:V) (xs:List V) (v:Value) (us:List Value) (Q:VK),Inv X pins σ H s->p8 x v->r8 xs us->r x xs H Q ->
    gg (gn X.prog X.w) X.A (call (.builtin id) (v::us)) (EP X pins σ Q) X.xe s
theorem r8.one : ∀{x : V} {us : List Value}, r8 [x] us -> ∃u, us = [u] /\ p8 x u
  | _,_,.cons r .nil=>⟨_,rfl,r⟩
theorem r8.eraseIdx : ∀{xs : List V} {us : List Value} (i : Nat), r8 xs us -> r8 (xs.eraseIdx i) (us.eraseIdx i)
  | _,_,_,.nil=>.nil
  | _,_,0,.cons _ t=>t
  | _,_,i+1,.cons r t=>.cons r (r8.eraseIdx i t)
theorem r8.rep (h : r8 xs us) : ∀k : Nat, r8 (List.replicate k xs).flatten (List.replicate k us).flatten
  | 0=>.nil
  | k+1=>by
    rw[bK,bK,cX,cX]
    exact r8.append h (r8.rep h k)
theorem zz7 {α : Type} : ∀(l : List α) (i : Nat), (l.eraseIdx i).length <= l.length
  | [],_=>af _
  | _::_,0=>bU _
  | _::r,i+1=>Nat.succ_le_succ (zz7 r i)
theorem zz4 (its:List Value):∀(k:Nat) (acc:List Value),
    List.foldl (λx1 x2=>x1++x2) acc.toArray (List.replicate k its.toArray)=(acc++(List.replicate k its).flatten).toArray
  | 0,acc=>by simp
  | k+1,acc=>by
    have e:acc.toArray++its.toArray=(acc++its).toArray:=by simp
    have a:(acc++its)++(List.replicate k its).flatten=acc++(List.replicate (k+1) its).flatten:=by
      rw[bK,cX,ba]
    rw[←a,←zz4 its k (acc++its),←e,bK,dO]
section
variable {X:Cx}{pins:List (Addr×Obj)}{σ:St}{H:Hp}{s:fZ}{l b:Addr}{xs ys zs:List V}
theorem Inv.lset {its its' : List Value}{f : Array Value -> Array Value}(I : Inv X pins σ H s)(a : H l = some (.lst xs))
    (e:s.heap.get? l=some { cls:=.type "list",data:=.seq its.toArray n }) (c:f its.toArray=its'.toArray) (g:r8 ys its') (hz:ys.length<=ge) :
    Inv X pins σ (upd H l (.lst ys)) { s with heap:=s.heap.update l (Obj.mapSeq f),toks:=t' }:=by
  have q:=PySem.IsL.update e f;rw[c]at q;refine I.write (x:=l) (e:=l) (by rw[a];exact trivial) (.inl rfl) (λh u b d=>(Heap.get?_update_other s.heap (Obj.mapSeq f) (Ne.symm b)).trans d) ⟨_,q⟩ ?_;exact⟨hz,its',_,g,q⟩
theorem Inv.lnew {its : List Value}(I : Inv X pins σ H s)(hv : r8 ys its)(hz : ys.length <= ge) :
    Inv X pins σ (upd H s.heap.objs.size (.lst ys)) { s with heap:=s.heap.push { cls:=.type "list",data:=.seq its.toArray },toks:=t' } :=
  I.laid (λ_ _ q=>ap _ q) (af _) ⟨hz,its,0,hv,aC _ rfl⟩
theorem Inv.fresh (I:Inv X pins σ H s):H s.heap.objs.size=none:=I.hok.fresh (af _)
theorem Inv.lstM (I:Inv X pins σ H s)(b:H l=some (.lst xs)):xs.length<=ge/\∃(a:List Value) (n:Nat),r8 xs a/\xs.length=a.length/\s.heap.get? l=some { cls:=.type "list",data:=.seq a.toArray n }:=by
  obtain⟨z,a,n,r,e⟩:=I.hok l _ b;exact⟨z,a,n,r,r.length,e⟩
theorem yj6 (h:n<=ge):Builtin.List.listTooLong n=false:=by
  unfold Builtin.List.listTooLong;exact decide_eq_false (by lia)
end
section
variable {X:Cx}
def xt3:V->List V->Hp->VK->Prop:=λx vs H Q=>∃l xs y,x=.ref l/\vs=[y]/\H l=some (.lst xs)/\xs.length<ge/\Q .non (upd H l (.lst (xs++[y])))
theorem c3:MtM X "list.append" xt3:=by
  intro pins s σ H x j v i Q I d rv h;obtain⟨l,xs,y,rfl,rfl,b,g,q⟩:=h
  cases d
  obtain⟨u,rfl,c⟩:=rv.one;obtain⟨z,a,n,r,f,e⟩:=I.lstM b;refine call_meets F.slot_list_append ⟨_,e,rfl⟩ F.entry_list_append (F.args_list_append_2 _ _) (PySem.list_append l a.toArray n u (by rw[ay];lia)) ⟨e,?_⟩;refine⟨.non,_,I.lset (its':=a++[u]) b e (by simp) (r.append (.cons c .nil)) ?_,rfl,q⟩;rw[ao,aW];lia
def xt4:V->List V->Hp->VK->Prop:=λx vs H Q=>∃l b xs zs,x=.ref l/\vs=[.ref b]/\H l=some (.lst xs)/\H b=some (.lst zs)/\xs.length+zs.length<=ge/\Q .non (upd H l (.lst (xs++zs)))
theorem zz8:MtM X "list.extend" xt4:=by
  intro pins s σ H x A v y Q I p rv h;obtain⟨l,b,xs,zs,rfl,rfl,g,hB,w,q⟩:=h
  cases p
  obtain⟨u,rfl,o⟩:=rv.one
  cases o
  obtain⟨z,c,n,r,t,e⟩:=I.lstM g;obtain⟨B,a,k,m,j,i⟩:=I.lstM hB;have f:c.toArray.size+a.toArray.size<=ge:=by rw[ay,ay];lia
  have d:¬(!c.toArray.isEmpty&&Builtin.List.listTooLong (c.toArray.size+a.toArray.size))=true:=by
    rw[yj6 f,ff];exact aA
  refine call_meets F.slot_list_extend ⟨_, e, rfl⟩ F.entry_list_extend (F.args_list_extend_2 _ _)
    (AutoSeq1.list_extend_list_list_0 l c.toArray n b a.toArray k d (by rw[ay];lia) (by lia)) ⟨e,i,?_⟩
  refine⟨.non,_,I.lset (its':=c++a) g e (by simp) (r.append m) ?_,rfl,q⟩;rw[ao];lia
def wa7:V->List V->Hp->VK->Prop:=λx vs H Q=>∃l xs i k y,x=.ref l/\vs=[.int i]/\H l=some (.lst xs)/\-(2 ^ 63)<=i/\i<2 ^ 63/\seqIndex? i xs.length=some k/\xs[k]?=some y/\Q y (upd H l (.lst (xs.eraseIdx k)))
theorem xk5:MtM X "list.pop" wa7:=by
  intro pins s σ H x A v p Q I o rv h;obtain⟨l,xs,i,k,y,rfl,rfl,c,h1,h2,d,j,q⟩:=h
  cases o
  obtain⟨u,rfl,m⟩:=rv.one;obtain⟨t,rfl⟩:=m;obtain⟨z,a,n,r,f,e⟩:=I.lstM c;obtain⟨w,g,b⟩:=r.get j;refine call_meets F.slot_list_pop ⟨_, e, rfl⟩ F.entry_list_pop (F.args_list_pop_2 _ _)
    (MeetsSeq.list_pop_at l a.toArray n i t k w (fitsIndex_both h1 h2) (by rw[ay,←f];exact d) (by rw[←bE];exact g) (by rw[ay];lia)) ⟨e,?_⟩
  refine⟨y,_,I.lset (its':=a.eraseIdx k) c e ?_ (r.eraseIdx k) ?_,b,q⟩
  . show a.toArray.eraseIdxIfInBounds k = (a.eraseIdx k).toArray;rw[List.eraseIdxIfInBounds_toArray]
  . have := zz7 xs k;lia
def wh6:R2:=λx y H Q=>∃l b xs zs,x=.ref l/\y=.ref b/\H l=some (.lst xs)/\H b=some (.lst zs)/\xs.length+zs.length<=ge/\∀p,H p=none->Q (.ref p) (upd H p (.lst (xs++zs)))
theorem xz4:OpR X (binaryOp .Add) wh6:=by
  intro pins s σ H x y v u Q I k m h;obtain⟨l,b,xs,zs,rfl,rfl,g,hB,p,q⟩:=h
  cases k
  cases m
  obtain⟨z,c,n,r,o,e⟩:=I.lstM g;obtain⟨w,a,t,j,i,d⟩:=I.lstM hB;refine PySem.P.add_list e d ?_ (by rw[ay,ay];lia);have f:c.toArray++a.toArray=(c++a).toArray:=by simp
  rw[f];exact⟨.ref _,_,I.lnew (t':=s.toks) (r.append j) (by rw[ao];lia),rfl,q _ I.fresh⟩
def wh9:R2:=λx y H Q=>∃l k xs,x=.ref l/\y=.int k/\H l=some (.lst xs)/\-(2 ^ 63)<=k/\k<2 ^ 63/\xs.length*k.toNat<=ge /\
  ∀p,H p=none->Q (.ref p) (upd H p (.lst (List.replicate k.toNat xs).flatten))
theorem xr7 {α:Type}(xs:List α)(k:Nat):(List.replicate k xs).flatten.length=k*xs.length:=by
  induction k with
  | zero=>simp
  | succ k ih=>rw[bK,cX,ao,ih,fW,eP]
theorem xk9:OpR X (binaryOp .Mult) wh9:=by
  intro pins s σ H x y v u Q I C D h;obtain⟨l,k,xs,rfl,rfl,A,h1,h2,p,q⟩:=h
  cases C
  obtain⟨t,rfl⟩:=D;obtain⟨z,b,n,r,B,e⟩:=I.lstM A;have g:b.toArray.size*k.toNat<=ge:=by rw[ay,←B];exact p
  have d:¬b.toArray.size*k.toNat > (2 ^ 63-1) / 8:=by
    have:(ge:Nat)<=(2 ^ 63-1) / 8:=by decide
    lia
  have f:¬(!Builtin.List.listFitsIndex k)=true:=by
    rw[fitsIndex_both h1 h2];exact aA
  have c:¬Builtin.List.listTooLong (b.toArray.size*k.toNat)=true:=by
    rw[yj6 g];exact aA
  have i:List.foldl (λj o=>j++o) #[] (List.replicate (if b.toArray.isEmpty=true then 0 else k.toNat) b.toArray)=(List.replicate k.toNat b).flatten.toArray:=by
    have w:∀m:Nat,List.foldl (λj o=>j++o) #[] (List.replicate m b.toArray)=(List.replicate m b).flatten.toArray:=λm=>by
      have:=zz4 b m [];rw[fN]at this;exact this
    rw[w]
    cases b with
    | nil=>simp
    | cons a r'=>rw[if_neg (by simp)]
  refine wpAny_binaryOp_repeat_ref (T := "list") (U := "int") (by decide) ⟨_, e, rfl⟩ (λs' => typeIs_int s' k t) noFill_list_mul F.fills_int_mul F.slot_int_rmul repeat_list F.slot_int_index.lookup
    (call_meets F.slot_int_rmul (typeIs_int s k t) F.entry_int_rmul (F.args_int_rmul_2 _ _) (int___rmul___int_list k t l b.toArray n)
      ⟨e,rfl,⟨_,e,rfl⟩,call_meets F.slot_list_mul ⟨_,e,rfl⟩ F.entry_list_mul (F.args_list_mul_2 _ _) (AutoListH.list___mul___list_int_3 l b.toArray n k t f d c) ⟨e,?_⟩⟩)
  rw[i];exact⟨.ref _,_,I.lnew (t':=s.toks) (r.rep k.toNat) (by rw[xr7,eN];exact p),rfl,q _ I.fresh⟩
end
section
variable {κ:Type}[DecidableEq κ]
def V0 (kvs:List (κ×V))(k:κ):Option V:=(kvs.find? λkv=>decide (kv.1=k)).map (·.2)
def putK (kvs:List (κ×V))(k:κ)(v:V):List (κ×V) :=
  if (kvs.any λkv=>decide (kv.1=k))=true then kvs.map (λkv=>if kv.1=k then(kv.1,v) else kv) else kvs++[(k,v)]
theorem d9 {p:κ×V}{r:List (κ×V)}{k:κ}(e:p.1=k):V0 (p::r) k=some p.2:=by simp[V0,cQ,e]
theorem g6 {p:κ×V}{r:List (κ×V)}{k:κ}(e:¬p.1=k):V0 (p::r) k=V0 r k:=by simp[V0,cQ,e]
theorem U3 (k : κ) : ∀kvs : List (κ×V), (kvs.any λkv => decide (kv.1 = k)) = (V0 kvs k).isSome
  | []=>rfl
  | p::r=>by
    rw[dG]
    by_cases e:p.1=k
    . simp only[d9 e,decide_eq_true e,Bool.true_or,Option.isSome_some]
    . rw[g6 e,decide_eq_false e,Bool.false_or];exact U3 k r
theorem yo2 (k j : κ)(y : V) : ∀kvs : List (κ×V), V0 (kvs.map λkv => if kv.1 = k then(kv.1, y) else kv) j = (V0 kvs j).map λx => if j = k then y else x
  | []=>rfl
  | p::r=>by
    have ih:=yo2 k j y r
    rw[aN]
    by_cases h:p.1=k
    . rw[if_pos h]
      by_cases e:p.1=j
      . rw[d9 (p:=(p.1,y)) e,d9 e,cz,if_pos (e.symm.trans h)]
      . rw[g6 (p:=(p.1,y)) e,g6 e,ih]
    . rw[if_neg h]
      by_cases e:p.1=j
      . rw[d9 (p:=p) e,d9 e,cz,if_neg (λz=>h (e.trans z))]
      . rw[g6 (p:=p) e,g6 e,ih]
theorem yb0 (k j : κ)(y : V) : ∀kvs : List (κ×V), V0 kvs k = none -> V0 (kvs ++ [(k, y)]) j = if j = k then some y else V0 kvs j
  | [],_=>by
    by_cases e:k=j
    . rw[if_pos e.symm];exact d9 (p:=(k,y)) e
    . rw[if_neg (λz=>e z.symm)];exact g6 (p:=(k,y)) e
  | p::r,hn=>by
    rw[dI]
    have hk:¬p.1=k:=λz=>by rw[d9 z]at hn;cases hn
    rw[g6 hk]at hn
    have ih:=yb0 k j y r hn
    by_cases e:p.1=j
    . rw[d9 e,d9 e,if_neg (λz=>hk (e.trans z))]
    . rw[g6 e,g6 e,ih]
theorem xp7 (kvs:List (κ×V))(k j:κ)(y:V):V0 (putK kvs k y) j=if j=k then some y else V0 kvs j:=by
  unfold putK;by_cases a:(kvs.any λc=>decide (c.1=k))=true
  . rw[if_pos a, yo2];rw[U3]at a;by_cases e:j=k
    . obtain⟨x, b⟩ := dD.mp a;rw[if_pos e,e,b,cz,if_pos rfl]
    . rw[if_neg e]
      cases V0 kvs j with
      | none=>rfl
      | some x=>rw[cz,if_neg e]
  . rw[if_neg a];refine yb0 k j y kvs ?_;rw[U3]at a
    cases q:V0 kvs k with
    | none=>rfl
    | some x=>rw[q]at a;exact(a rfl).elim
theorem N3 (kvs:List (κ×V))(k:κ)(v:V):(putK kvs k v).length<=kvs.length+1:=by
  unfold putK;split
  . rw[ae];lia
  . rw[ao,av,bO];lia
theorem putK_new {kvs:List (κ×V)}{k:κ}(v:V)(h:V0 kvs k=none):putK kvs k v=kvs++[(k,v)]:=by
  unfold putK;rw[U3,h];exact if_neg (by decide)
theorem za7.isSome_eq {o:Option V}{u:Option Value}(r:za7 o u):o.isSome=u.isSome:=by
  cases o with
  | none=>cases u with
    | none=>rfl
    | some _=>exact(show False from r).elim
  | some _=>cases u with
    | none=>exact(show False from r).elim
    | some _=>rfl
theorem KV.val {kvs:List (κ×V)}{vs:List (κ×Value)}(r:KV kvs vs)(k:κ):za7 (V0 kvs k) (valueAt vs k):=by
  unfold KV at r
  induction r with
  | nil=>exact True.intro
  | @cons p q ps qs h t ih =>
    obtain⟨h1,h2⟩:=h;by_cases e:p.1=k
    . have a : q.1 = k := h1.symm.trans e;have b:valueAt (q::qs) k=some q.2:=by simp[valueAt,cQ,a]
      rw[d9 e,b];exact h2
    . have a : ¬q.1 = k := λz => e (h1.trans z);have b:valueAt (q::qs) k=valueAt qs k:=by simp[valueAt,cQ,a]
      rw[g6 e,b];exact ih
theorem KV.any {kvs:List (κ×V)}{vs:List (κ×Value)}(r:KV kvs vs)(k:κ):(kvs.any λkv=>decide (kv.1=k))=vs.any λkv=>decide (kv.1=k):=by
  unfold KV at r
  induction r with
  | nil=>rfl
  | cons h t ih=>rw[dG,dG,ih,h.1]
theorem KV.repl {kvs : List (κ×V)}{vs : List (κ×Value)}(r : KV kvs vs)(k : κ){y : V}{u : Value}(a : p8 y u) :
    KV (kvs.map λkv=>if kv.1=k then(kv.1,y) else kv) (vs.map λkv=>if kv.1=k then(kv.1,u) else kv):=by
  unfold KV at r ⊢
  induction r with
  | nil=>exact .nil
  | @cons p q ps qs h t ih =>
    rw[aN,aN];refine .cons ?_ ih;obtain⟨h1,h2⟩:=h;by_cases e:p.1=k
    . rw[if_pos e,if_pos (h1.symm.trans e)];exact⟨h1,a⟩
    . rw[if_neg e,if_neg (λz=>e (h1.trans z))];exact⟨h1,h2⟩
theorem KV.put {kvs:List (κ×V)}{vs:List (κ×Value)}(r:KV kvs vs)(k:κ){y:V}{u:Value}(a:p8 y u):KV (putK kvs k y) (stored vs k u):=by
  unfold putK stored;rw[r.any k];by_cases e:(vs.any λb=>decide (b.1=k))=true
  . rw[if_pos e,if_pos e];exact r.repl k a
  . rw[if_neg e,if_neg e];exact Paired.snoc r ⟨rfl,a⟩
theorem KV.length {kvs:List (κ×V)}{vs:List (κ×Value)}(r:KV kvs vs):kvs.length=vs.length:=Paired.length r
end
theorem yi7 (r:p8 (kV k) u):(g7 P w).is k u=true:=by
  cases k with
  | inl i=>obtain⟨t,e⟩:=(show ∃t,u=Value.int i t from r);subst e;exact yj4 P w i t
  | inr x=>obtain⟨t,e⟩:=(show ∃t,u=Value.str x t from r);subst e;exact yj5 P w x t
theorem zz6  : ∀{ks : List Key} {us : List Value}, r8 (ks.map kV) us -> ItemsAre (g7 P w) ks us
  | [],_,r=>by rw[dJ]at r;cases r;exact .nil
  | k::ks,_,r=>by
    rw[aN]at r
    cases r with
    | cons h t=>exact .cons (yi7 h) (zz6 t)
abbrev KT (H:Hp):List (List Key×V)->List (List Key×Addr×Value)->Prop:=Paired λp q=>p.1=q.1/\H q.2.1=some (.tup (p.1.map kV))/\p8 p.2 q.2.2
theorem KT.val (r:KT H kvs xs)(k:List Key):za7 (V0 kvs k) ((atKey xs k).map (·.2)):=by
  induction r with
  | nil=>exact True.intro
  | @cons p q ps qs h t ih =>
    obtain⟨h1,_,h2⟩:=h;by_cases e:p.1=k
    . have a : q.1 = k := h1.symm.trans e;have b:atKey (q::qs) k=some q.2:=by simp[atKey,cQ,a]
      rw[d9 e,b];exact h2
    . have a : ¬q.1 = k := λz => e (h1.trans z);have b:atKey (q::qs) k=atKey qs k:=by simp[atKey,cQ,a]
      rw[g6 e,b];exact ih
theorem KT.repl {kvs : List (List Key×V)}{xs : List (List Key×Addr×Value)}(r : KT H kvs xs)(k : List Key)(b : p8 y u) :
    KT H (kvs.map λkv=>if kv.1=k then(kv.1,y) else kv) (xs.map (putAt k u)):=by
  induction r with
  | nil=>exact .nil
  | @cons p q ps qs h t ih =>
    rw[aN,aN];refine .cons ?_ ih;obtain⟨h1,h2,a⟩:=h;unfold putAt;by_cases e:p.1=k
    . rw[if_pos e,if_pos (h1.symm.trans e)];exact⟨h1,h2,b⟩
    . rw[if_neg e,if_neg (λz=>e (h1.trans z))];exact⟨h1,h2,a⟩
theorem KT.put (r : KT H kvs xs)(k : List Key)(c : H b = some (.tup (k.map kV)))(a : p8 y u) :
    KT H (putK kvs k y) (storedH xs k b u):=by
  have e:(kvs.any λd=>decide (d.1=k))=(atKey xs k).isSome:=by
    rw[U3,(r.val k).isSome_eq,fz]
  unfold putK storedH;rw[e];by_cases q:(atKey xs k).isSome=true
  . rw[if_pos q,if_pos q];exact r.repl k a
  . rw[if_neg q,if_neg q];exact Paired.snoc r ⟨rfl,c,a⟩
theorem KT.keeps (r:KT H kvs xs)(ht:∀b ys,H b=some (.tup ys)->H' b=some (.tup ys)):KT H' kvs xs :=
  Paired.mapP r λ_ _ z=>⟨z.1,ht _ _ z.2.1,z.2.2⟩
section
variable {P:gf}{w:gp}{H:Hp}{h:Heap}{a:Addr}
theorem xv8 (ok:HOk P w H h)(e:Rd H a u):n6 P w H h a u:=e.ok ok
theorem yh8 {kvs:List (Key×V)}(ok:HOk P w H h)(e:Rd H a (.dK kvs)):kvs.length<=ge/\(a==sysModules)=false/\∃vs,KV kvs vs/\h.DictOf (g7 P w) a vs :=
  show n6 P w H h a (.dK kvs) from xv8 ok e
theorem yv2 {kvs:List (Key×V)}(ok:HOk P w H h)(e:H a=some (.dK kvs)):kvs.length<=ge/\(a==sysModules)=false/\∃vs,KV kvs vs/\h.DictOf (g7 P w) a vs:=yh8 ok (.inl e)
theorem zr4 {c:List Key}(ok:HOk P w H h)(e:H a=some (.tup (c.map kV))):(tupleKind (g7 P w)).is h c a:=by
  obtain⟨_,b,r,o,h1,h2,n,d⟩:=(show n6 P w H h a (.tup (c.map kV)) from ok a _ e);exact⟨o,b.toArray,n,h1,h2,d.1,by simpa using zz6 r⟩
theorem yv3 {kvs:List (List Key×V)}(ok:HOk P w H h)(e:Rd H a (.dT kvs)):kvs.length<=ge/\(a==sysModules)=false /\
    ∃xs,KT H kvs xs/\h.DictOfH (tupleKind (g7 P w)) a xs:=by
  obtain⟨z,y,xs,r,o,es,c,h1,h2,d,f,g⟩:=(show n6 P w H h a (.dT kvs) from xv8 ok e);refine⟨z,y,xs,r,o,es,c,h1,h2,d,f,λx b=>?_,g⟩;have all:∀{l:List (List Key×V)} {m:List (List Key×Addr×Value)},KT H l m->∀x∈m,(tupleKind (g7 P w)).is h x.1 x.2.1:=by
    intro l m q
    induction q with
    | nil=>intro x b;exact nomatch b
    | @cons p q ps qs hq t ih =>
      intro x b;rcases ax.mp b with e|b
      . subst e;exact zr4 ok (by rw[←hq.1];exact hq.2.1)
      . exact ih x b
  exact all r x b
theorem xv2 {kvs:List (List Key×V)}(ok:HOk P w H h)(e:H a=some (.dT kvs)):kvs.length<=ge/\(a==sysModules)=false /\
    ∃xs,KT H kvs xs/\h.DictOfH (tupleKind (g7 P w)) a xs:=yv3 ok (.inl e)
end
def U5 (H:Hp)(a:Addr)(y:V)(r:Option V):Prop :=
  (∃kvs k,Rd H a (.dK kvs)/\y=kV k/\r=V0 kvs k)∨∃kvs k b,Rd H a (.dT kvs)/\y=.ref b/\H b=some (.tup (k.map kV))/\r=V0 kvs k
def zm9 (H:Hp)(a:Addr)(y v:V)(H':Hp):Prop :=
  (∃kvs k,H a=some (.dK kvs)/\y=kV k/\kvs.length<ge/\H'=upd H a (.dK (putK kvs k v))) ∨
  ∃kvs k b,H a=some (.dT kvs)/\y=.ref b/\H b=some (.tup (k.map kV))/\kvs.length<ge/\H'=upd H a (.dT (putK kvs k v))
theorem U5.k {k:Key}(e:H a=some (.dK kvs)):U5 H a (kV k) (V0 kvs k):=.inl ⟨kvs,k,.inl e,rfl,rfl⟩
theorem U5.t {k:List Key}(e:H a=some (.dT kvs))(eb:H b=some (.tup (k.map kV))):U5 H a (.ref b) (V0 kvs k):=.inr ⟨kvs,k,b,.inl e,rfl,eb,rfl⟩
theorem zm9.k {kvs:List (Key×V)}{k:Key}(e:H a=some (.dK kvs))(hl:kvs.length<ge):zm9 H a (kV k) v (upd H a (.dK (putK kvs k v))):=.inl ⟨kvs,k,e,rfl,hl,rfl⟩
theorem zm9.t {kvs : List (List Key×V)}{k : List Key}(e : H a = some (.dT kvs))(eb : H b = some (.tup (k.map kV)))(hl : kvs.length<ge) :
    zm9 H a (.ref b) v (upd H a (.dT (putK kvs k v))):=.inr ⟨kvs,k,b,e,rfl,eb,hl,rfl⟩
section
variable {X:Cx}{pins:List (Addr×Obj)}{σ:St}{H:Hp}{s:fZ}{a:Addr}{y v:V}{u r:Value}{o:Option V}{A:gq}{E:Value->fZ->Prop}
theorem Inv.big (I:Inv X pins σ H s):sysModules<s.heap.objs.size:=by
  have h:mainGlobals<s.heap.objs.size:=(I.mod.glob.keeps I.bk).lt;exact dw (by decide) h
theorem xa7 {Q : Value -> fZ -> Prop}(B : A.units+1<cLine)(I : Inv X pins σ H s)(g : U5 H a y (some v))(q : p8 y u)(h : ∀f s', Inv X pins σ H s' -> p8 v f -> Q f s') :
    gg (gn X.prog X.w) A (getItem (.ref a) u) Q E s:=by
  rcases g with⟨kvs,k,e,j,l⟩|⟨kvs,k,b,e,j,r,l⟩
  . subst j;obtain⟨z,t,C,c,i⟩:=yh8 I.hok e;obtain⟨f,n,d⟩:=za7.some_of (v:=v) (o:=valueAt C k) (by rw[l];exact c.val k);exact wpAny_getItem_of (yi7 q) i.mapOf n (h f _ (I.tok _) d)
  . subst j
    cases (show u=Value.ref b from q)
    obtain⟨z,t,xs,c,i⟩:=yv3 I.hok e;obtain⟨f,n,d⟩:=za7.some_of (v:=v) (o:=(atKey xs k).map (·.2)) (by rw[l];exact c.val k);obtain⟨p,x,m⟩:=cU.mp n;refine wpAny_getItem_heap (tupleKind_room_in1 B) (zr4 I.hok r) i x ?_;rw[m];exact h f _ (I.tok _) d
theorem xq9 {Q : Value -> fZ -> Prop}(n : A.units+1<cLine)(I : Inv X pins σ H s)(g : U5 H a y o)(j : p8 y u)(h : ∀s', Inv X pins σ H s' -> Q (.bool (!o.isSome)) s') :
    gg (gn X.prog X.w) A (compareOp .NotIn u (.ref a)) Q E s:=by
  rcases g with⟨kvs,k,e,f,l⟩|⟨kvs,k,b,e,f,m,l⟩
  . subst f;obtain⟨z,i,p,c,d⟩:=yh8 I.hok e;refine wpAny_notIn_of (yi7 j) i d.mapOf ?_;rw[←(c.val k).isSome_eq,←l];exact h _ (I.tok _)
  . subst f
    cases (show u=Value.ref b from j)
    obtain⟨z,i,xs,c,d⟩:=yv3 I.hok e;refine wpAny_notIn_heap (tupleKind_room_in1 n) (zr4 I.hok m) i d ?_;have q:=(c.val k).isSome_eq;rw[fz]at q;rw[←q,←l];exact h _ (I.tok _)
theorem zo3 {h' : Heap}(I : Inv X pins σ H s)(mu : Mut (H a))(hs : Heap.SameBut a s.heap h')(he : ∃q, h'.get? a = some q)(new : n6 X.prog X.w (upd H a ob) h' a ob) :
    Inv X pins σ (upd H a ob) { s with heap:=h',toks:=t' } :=
  I.write (x:=a) (e:=a) mu (.inl rfl) (λb q hb z=>(hs.2 b hb).trans z) he new
theorem xg6 {h' : Heap}{kvs : List (Key×V)}(z : kvs.length <= ge)(hd : (a==sysModules) = false)(rel : KV kvs vs)(dd : h'.DictOf (g7 P w) a vs) :
    n6 P w H' h' a (.dK kvs):=⟨z,hd,vs,rel,dd⟩
theorem xa8 {Q : Unit -> fZ -> Prop}(M : A.units+1<cLine)(I : Inv X pins σ H s)(g : zm9 H a y v H')(D : p8 y u)(rv : p8 v r)(h : ∀s', Inv X pins σ H' s' -> Q () s') :
    gg (gn X.prog X.w) A (setItem (.ref a) u r) Q E s:=by
  rcases g with⟨kvs,k,e,n,l,m⟩|⟨kvs,k,b,e,n,B,l,m⟩
  . subst n m;obtain⟨z,o,N,d,j⟩:=yv2 I.hok e;have x:N.length<=ge:=by rw[←d.length];exact z
    have p:(putK kvs k v).length<=ge:=by have:=N3 kvs k v;lia
    refine wpAny_setItem_pairs (hsz:=x) (yi7 D) j λh' f t=>h _ ?_;have L:∃q,h'.get? a=some q:=let ⟨q,_,_,i,_⟩:=f;⟨q,i⟩;exact zo3 I (by rw[e];exact True.intro) t L (xg6 p o (d.put k rv) f)
  . subst n m
    cases (show u=Value.ref b from D)
    obtain⟨z,o,xs,d,j⟩:=xv2 I.hok e;have x:xs.length<=ge:=by rw[←Paired.length d];exact z
    have p:(putK kvs k v).length<=ge:=by have:=N3 kvs k v;lia
    refine wpAny_setItem_heap (hsz:=x) (tupleKind_room_in1 M) (zr4 I.hok B) j λh' f t=>h _ ?_;obtain⟨q,es,F,i,h2,G,J,_,K⟩:=f;refine zo3 I (by rw[e];exact True.intro) t ⟨q,i⟩ ⟨p,o,_,(d.put k B rv).keeps λc ys C=>?_,q,es,F,i,h2,G,J,K⟩;rw[z6 (l8 C e (λz=>nomatch z))];exact C
end
section
variable {X:Cx}{pins:List (Addr×Obj)}{σ:St}{H:Hp}{s:fZ}{a:Addr}{kvs:List (Key×V)}{k:Key}{u:Value}{A:gq}{E:Value->fZ->Prop}
theorem wc7 {Q:Value->fZ->Prop}(I:Inv X pins σ H s)(e:Rd H a (.dK kvs))(h:∀t s',Inv X pins σ H s'->Q (.int kvs.length t) s'):gg (gn X.prog X.w) A (call (.builtin "len") [.ref a]) Q E s:=by
  obtain⟨z,d,f,b,c⟩:=yh8 I.hok e;refine call_len_dict d c (by rw[←b.length];rw[sizeLine_eq]at z;lia) ?_;rw[←b.length];exact h _ _ (I.tok _)
end
def xw5 (i:Expr):Prop:=∀ov iv,subscripted i false ov iv=operate [ov,iv] (getItem ov iv)
theorem yy9 {E : Value -> fZ -> Prop}{value a : Expr}{pos : Pos}{T id : String}{Q : Value -> fZ -> Prop}
    (hl:typeLookup (.type T) "__getitem__"=pure (some (.builtin id))) (g:xw5 a)
    (h:gg (gn prog w) A (eval value b) (λo e=>gg (gn prog w) A (eval a b) (λi c=>c.TypeIs o T/\gg (gn prog w) A (getItem o i) Q E c) E e) E s) :
    gg (gn prog w) A (eval (.Subscript value a pos) b) Q E s:=by
  refine Subscript_ (gu h (λo e j=>gu j (λi c d=>?_) λ_ _ x=>x) λ_ _ x=>x);obtain⟨hT,d⟩:=d;unfold subscriptTail;refine fY ?_;rw[getitemInPython_of_ne hT.not_modules];refine fY (wpAny_specialOf hT hl ?_);have fin:gg (gn prog w) A (subscripted a false o i) (λr f=>gg (gn prog w) A (letTemporaryGo value o r >>= λ_=>pure r) Q E f) E c:=by
    rw[g o i];exact wpAny_operating (gu d (λr f k=>fY (wpAny_letTemporaryGo (gc k))) λ_ _ x=>x)
  first
    | exact gc (fY fin)
    | exact fY (gc (fY fin))
    | exact fY fin
theorem yh6 {σ:St}{s:fZ}{y:V}{o:Option V}(I:Inv X pins σ H s)(g:U5 H a y o):s.TypeIs (.ref a) "dict":=by
  rcases g with⟨kvs,k,e,_,_⟩|⟨kvs,k,b,e,_,_,_⟩
  . obtain⟨_, _, d, _, c⟩ := yh8 I.hok e;exact c.typeIs
  . obtain⟨_, _, xs, _, c⟩ := yv3 I.hok e;exact c.typeIs
def wf2 (td ty:TE):TE:=λσ H Q=>td σ H λx H1=>ty σ H1 λy H2=>∃a v,x=.ref a/\U5 H2 a y (some v)/\Q v H2
def xu3 (ty td:TE):TE:=λσ H Q=>ty σ H λy H1=>td σ H1 λx H2=>∃a o,x=.ref a/\U5 H2 a y o/\Q (.bl (!o.isSome)) H2
def we8 (td ty tv:TE):TS:=λD σ H=>tv σ H λv H1=>td σ H1 λx H2=>ty σ H2 λy H3=>∃a H4,x=.ref a/\zm9 H3 a y v H4/\D.nx σ H4
section
variable {X:Cx}{o i e value:Expr}{pos pos' tpos:Pos}{td ty tv:TE}
theorem N6 (k:X.A.units+1<cLine)(f:PE X o td)(hi:PE X i ty)(j:xw5 i):PE X (.Subscript o i pos) (wf2 td ty):=by
  intro pins s σ H Q I h;refine yy9 PySem.F.slot_dict_getitem.lookup j (thn (f pins s σ H _ I h) λu s1 ⟨x,H1,d,n,l⟩=>thn (hi pins s1 σ H1 _ d l) λq r ⟨y,H2,c,p,a,v,ex,g,m⟩=>?_);subst ex;obtain rfl:u=Value.ref a:=n;exact⟨yh6 c g,xa7 k c g p λw t e b=>⟨v,H2,e,b,m⟩⟩
theorem A7 (f:X.A.units+1<cLine)(hi:PE X i ty)(e:PE X o td):PC X .NotIn i o (xu3 ty td):=by
  intro pins s σ H Q I h;refine thn (hi pins s σ H _ I h) λp s1 ⟨y,H1,b,n,k⟩=>thn (e pins s1 σ H1 _ b k) λu q ⟨x,H2,c,m,a,j,ex,g,l⟩=>?_;subst ex;obtain rfl:u=Value.ref a:=m;exact xq9 f c g n λr d=>⟨.bl (!j.isSome),H2,d,rfl,l⟩
theorem A9 (l : X.A.units+1<cLine)(j : PE X o td)(hi : PE X i ty)(m : PE X value tv)(k : swapsWith value (some (.Subscript o i pos')) pos.line X.env = pure false) :
    PS X (.Assign [.Subscript o i pos'] value pos) (we8 td ty tv):=by
  intro pins s σ H D I h;refine wpAny_Assign_Subscript (thn (m pins s σ H _ I h) λr s1 ⟨v,H1,c,rv,n⟩=>thn (j pins s1 σ H1 _ c n) λu z ⟨x,H2,d,t,p⟩=>thn (hi pins z σ H2 _ d p) λC E ⟨y,B,e,w,a,b,ex,g,q⟩=>?_) k;subst ex;obtain rfl:u=Value.ref a:=t;exact xa8 l e g w rv λF f=>⟨σ,b,f,q⟩
end
theorem yh7 (h:Heap)(hb:sysModules<h.objs.size):n6 P w H (h.push { cls:=.type "dict",data:=.dict #[] }) h.objs.size (.dK []) :=
  ⟨aG _,beq_eq_false_iff_ne.mpr (Ne.symm (aX hb)),[],.nil,Heap.DictOf.new h⟩
theorem xg8 (h:Heap)(hb:sysModules<h.objs.size):n6 P w H (h.push { cls:=.type "dict",data:=.dict #[] }) h.objs.size (.dT []) :=
  ⟨aG _,beq_eq_false_iff_ne.mpr (Ne.symm (aX hb)),[],.nil,_,#[],0,aC _ rfl,⟨rfl,rfl,rfl⟩,rfl,rfl,cW⟩
def wb5:TE:=λ_ H Q=>∀p,H p=none->Q (.ref p) (upd H p (.dK []))
section
variable {X:Cx}{pos:Pos}
theorem yl0:PE X (.Dict [] [] pos) wb5:=λpins s σ H Q I h =>
  wpAny_Dict_empty ⟨.ref s.heap.objs.size,_,I.laid (a:=s.heap.objs.size) (o:=.dK []) (t':=s.toks) (λ_ _ q=>ap _ q) (af _) (yh7 s.heap I.big),rfl,h _ (I.hok.fresh (af _))⟩
end
def yu1 : List (TE×TE) -> St -> Hp -> (List (V×V) -> Hp -> Prop) -> Prop
  | [],_,H,Q=>Q [] H
  | (tk,tv)::r,σ,H,Q=>tk σ H λx H1=>tv σ H1 λy H2=>yu1 r σ H2 λps H3=>Q ((x,y)::ps) H3
abbrev VV:List (V×V)->List (Value×Value)->Prop:=Paired λp q=>p8 p.1 q.1/\p8 p.2 q.2
def PPs (X:Cx)(pos:Pos)(keys:List (Option Expr))(values:List Expr)(trs:List (TE×TE)):Prop :=
  ∀(pins:List (Addr×Obj)) (s:fZ) (σ:St) (H:Hp) (Q:List (V×V)->Hp->Prop),Inv X pins σ H s->yu1 trs σ H Q ->
    gg (gn X.prog X.w) X.A (evalPairs (pairTrees keys values X.env pos)) (λvs s'=>∃ps H',Inv X pins σ H' s'/\VV ps vs/\Q ps H') X.xe s
theorem zp2 :PPs X pos [] [] []:=λpins s σ H Q I h=>pairTrees_nil_walk ⟨[],H,I,.nil,h⟩
theorem zg5 (hk : PE X k tk)(hv : PE X v tv)(hr : PPs X pos ks vs trs) :
    PPs X pos (some k::ks) (v::vs) ((tk,tv)::trs):=λpins s σ H Q I h =>
  pairTrees_cons_walk (thn (hk pins s σ H _ I h) λu s1 ⟨x,H1,I1,rx,q1⟩=>thn (hv pins s1 σ H1 _ I1 q1) λw2 s2 ⟨y,H2,I2,ry,q2⟩ =>
    thn (hr pins s2 σ H2 _ I2 q2) λws s3 ⟨ps,H3,I3,rel,q3⟩=>⟨(x,y)::ps,H3,I3,.cons ⟨rx,ry⟩ rel,q3⟩)
def W6 (kvs more:List (Key×V)):List (Key×V):=more.foldl (λacc kv=>putK acc kv.1 kv.2) kvs
theorem KV.merge:∀{more:List (Key×V)} {b:List (Key×Value)} {kvs:List (Key×V)} {a:List (Key×Value)},KV more b->KV kvs a->KV (W6 kvs more) (merged a b):=by
  intro more b kvs a r;unfold KV at r
  induction r generalizing kvs a with
  | nil=>intro q;exact q
  | @cons p q ps qs h t ih =>
    intro c;have e:KV (putK kvs p.1 p.2) (stored a q.1 q.2):=by
      have:=c.put p.1 h.2;rw[←h.1];exact this
    exact ih e
theorem zb8 : ∀(more kvs : List (Key×V)), (W6 kvs more).length <= kvs.length+more.length
  | [],kvs=>by show kvs.length<=kvs.length+0;lia
  | p::r,kvs=>by
    have h1:=zb8 r (putK kvs p.1 p.2)
    have h2:=N3 kvs p.1 p.2
    show(W6 (putK kvs p.1 p.2) r).length<=_
    rw[av];lia
theorem zq1  : ∀{kvs : List (Key×V)} {ws : List (Value×Value)}, VV (kvs.map λkv => (kV kv.1, kv.2)) ws -> ∃rs, Carries (g7 P w) ws rs /\ KV kvs rs
  | [],_,r=>by rw[dJ]at r;cases r;exact⟨[],True.intro,.nil⟩
  | p::kvs,_,r=>by
    rw[aN]at r
    cases r with
    | @cons a b as bs h t =>
      obtain⟨rs,c,q⟩:=zq1 (P:=P) (w:=w) t
      obtain⟨b1,b2⟩:=b
      exact⟨(p.1,b2)::rs,⟨yi7 h.1,rfl,c⟩,.cons ⟨rfl,h.2⟩ q⟩
def wf3 (trs:List (TE×TE)):TE:=λσ H Q=>∀p,H p=none->yu1 trs σ (upd H p (.dK [])) λps H2=>H2 p=some (.dK [])/\∃kvs:List (Key×V),ps=kvs.map (λkv=>(kV kv.1,kv.2))/\kvs.length<=15/\Q (.ref p) (upd H2 p (.dK (W6 [] kvs)))
theorem zo9 {b : List (Option Expr)}{d : List Expr}(h : PPs X pos b d i)(g : b.all (·.isSome) = true)(hl : b.length = d.length)(r : b ≠ [])
    (j:b.length<=15):PE X (.Dict b d pos) (wf3 i):=by
  intro pins s σ H Q I q;have v:=I.hok.fresh (af s.heap.objs.size);have m:=I.laid (a:=s.heap.objs.size) (o:=.dK []) (h':=s.heap.push { cls:=.type "dict",data:=.dict #[] }) (t':=s.toks) (λ_ _ q=>ap _ q) (af _) (yh7 s.heap I.big);refine wpAny_Dict_walk (knd:=g7 X.prog X.w) g hl r j (thn (h pins _ σ _ _ m (q _ v)) λJ G ⟨ps,H2,l,k,e,kvs,p,F,A⟩=>?_);subst p;obtain⟨D,c,C⟩:=zq1 (P:=X.prog) (w:=X.w) k;obtain⟨z,t,E,B,n⟩:=yv2 l.hok e
  cases B
  refine⟨D,c,n,λh' f x=>⟨.ref s.heap.objs.size,_,?_,rfl,A⟩⟩;have y:(W6 [] kvs).length<=ge:=by
    have h1:=zb8 kvs [];rw[bO]at h1;rw[sizeLine_eq];lia
  have u:∃q,h'.get? s.heap.objs.size=some q:=let ⟨q,_,_,hq,_⟩:=f;⟨q,hq⟩;exact zo3 l (by rw[e];exact True.intro) x u (xg6 y t (C.merge .nil) f)
end L2
namespace Att
open PySem PySem.W PySem.Calls PyProof.Rows
theorem zn1 :∀(c:List Int) (d:List Value),WellAll P h d (c.map WData.int)->IntsAre d c:=by
  intro c
  induction c with
  | nil =>
    intro d w;rw[dJ]at w
    cases w
    exact .nil
  | cons n c ih =>
    intro d w;rw[aN]at w
    cases w with
    | cons a b =>
      cases a
      exact .cons _ _ (ih _ b)
theorem xe6 {l : OpenLaw}(o : l.most = some n){h : Heap}
    (b:l.row.toRowW.claim.pre args=true) (j:WellAll P h c args) :
    ∃a vs ns,c=[Value.ref a]/\args=[WData.list (ns.map WData.int)]/\h.get? a=some { cls:=.type "list",data:=.seq vs.toArray }/\IntsAre vs ns/\ns.length<=n:=by
  have i:WShape.hasAll [] args [.list .int]=true:=(pre_splitW b).1;have k:l.pre.holds [] { args:=args }=true:=(pre_splitW b).2;obtain⟨d,r,rfl,h1,h2⟩:=hasAllW_cons i;obtain rfl:=hasAllW_nil h2;obtain⟨xs,rfl,m⟩:=hasW_list h1;obtain⟨ns,rfl⟩:=items_int m;have e:ns.length<=n:=by
    unfold OpenLaw.pre at k;have f:(WTm.not (.lt (.lit (.int n)) (.len (.arg 0)))).holds [] { args:=[.list (ns.map .int)] }=true:=by
      have f:=(holds_andW k).1;rw[o]at f;exact f
    have g:=condW_of f (w_not (w_lt w_lit (w_len_list (w_arg rfl))));rw[ae]at g;refine fM λq=>?_;have p:(n:Int)<((ns.length:Nat):Int):=by lia
    first
      | (rw[decide_eq_true p]at g;exact absurd g (by decide))
      | (simp at g;lia)
  cases j with
  | cons w1 w2 =>
    cases w2
    cases w1 with
    | list ho hall=>exact⟨_,_,ns,rfl,rfl,ho,zn1 ns _ hall,e⟩
theorem xd3 (l:OpenLaw)(args:List WData):l.row.toRowW.claim.post args (.bool true) args=true :=
  postW_of (r := l.row.toRowW) (X := (true==true))
    (show WShape.has [] (.bool true) .bool=true by first|rfl|decide|simp[WShape.has,WShape.arms,WShape.armsAll])
    (show(WTm.eq .res (.lit (.bool true))).value [] { args:=args,res:=some (.bool true),after:=args }=some (.bool (true==true)) from w_eq_bool (w_res rfl) w_lit) rfl
end Att
namespace L2
open PySem PySem.Spec PyProof.Rows
theorem K7 : ∀{vs : List Value} {ns : List Int}, IntsAre vs ns -> r8 (ns.map V.int) vs
  | _,_,.nil=>.nil
  | _,_,.cons n t h=>.cons ⟨t,rfl⟩ (K7 h)
def Only (H:Hp):Prop:=∀b,H b=none∨∃o xs,H b=some (.frz o (.lst xs))
theorem xj2 {K : W.Frag}{mg Q : Str -> Option Value}{c : fZ}{vs : List Value}{ns : List Int}
    (S:K.In c.heap) (B:c.heap.Ns mainGlobals mg) (g:c.heap.Ns builtinsNs Q) (N:∀x:Str,x≠"__name__"->Q x=gv x) (A:c.heap.NoLimit) (hg:c.gens=#[])
    (I:c.heap.get? a=some { cls:=.type "list",data:=.seq vs.toArray }) (hi:IntsAre vs ns) (hl:ns.length<=ge) (hr:X3 k callerA)
    (F:∀base:Heap,K.In base->base.Ns mainGlobals mg->u7 P w K mg base CX k L fd [x] sp) (l:∀(s:fZ) (u:Value),BindsTo s fd ⟨[u],[]⟩ [(x,u)])
    (O:∀H:Hp,Only H->SqL K H a (ns.map V.int)->sp [.ref a] H (λv _=>v=.bl true) λ_ _ _=>False)
    (M:∀H e s',CX [] H c (λ_ _ _=>False) e s'->False) :
    codeAny (gn P w) callerA (.call (.ref L) ⟨[.ref a],[]⟩) (λr s'=>r=.ok (.ret (.bool true))/\OldK c.heap s'.heap/\s'.os=c.os/\AllBare s'.gens) c:=by
  have rv:=K7 hi
  have E:=hi.length
  have j:∀H:Hp,Only H->SqL K H a (ns.map V.int)->HOk P w H c.heap->(∀b,H b≠none->b=a)->(H a≠none->K.lookup a=none) ->
      codeAny (gn P w) callerA (.call (.ref L) ⟨[.ref a],[]⟩) (λr s'=>r=.ok (.ret (.bool true))/\OldK c.heap s'.heap/\s'.os=c.os/\AllBare s'.gens) c:=by
    intro H X hS C U hK
    have f:∀{b:Addr} {o:Obj},c.heap.get? b=some o->H b=none->(yc8 c.heap H).get? b=some o:=λe n=>xh5 e n
    have R:∀{b:Addr} {o:Obj} {es:Array DictEntry} {t:Nat},c.heap.get? b=some o->o.data=.dict es t->H b=none:=λ{b o es t} e d=>by
      cases q:H b with
      | none=>rfl
      | some u =>
        have J:b=a:=U b (by rw[q];simp)
        subst J
        rw[I]at e;cases e
        have Y:Data.seq vs.toArray _=Data.dict es t:=d
        cases Y
    have i:∀{b:Addr} {m:Str->Option Value},c.heap.Ns b m->(yc8 c.heap H).Ns b m:=λ{b m} ⟨o,es,t,e,d,r⟩=>⟨o,es,t,f e (R e d),d,r⟩
    have y:K.In (yc8 c.heap H):=λb o e=>f (S b o e) (by
      cases q:H b with
      | none=>rfl
      | some u =>
        have J:b=a:=U b (by rw[q];simp)
        subst J
        rw[hK (by rw[q];simp)]at e;cases e)
    have hM:Mod K mg (yc8 c.heap H):=⟨y,i B,⟨Q,i g,N⟩,let ⟨mc,h1,h2⟩:=A;⟨mc,i h1,h2⟩⟩
    have Z:yo5 P w K mg (yc8 c.heap H) callerA [] c H:=⟨rfl,hM,λb o e=>xs4 e,eO (xb4 _ _),trivial,λb g=>absurd (show b∈([]:List Addr) from g) (by simp),C,.of_eq hg⟩
    refine codeAny_mono ((F _ y (i B)).run callerA [] c H ⟨[.ref a],[]⟩ [.ref a] [.ref a] _ _ hr Z (l c (.ref a)) (.cons rfl .nil) (O H X hS)) λr s' h=>?_
    cases r with
    | error e=>exact(M H e s' h).elim
    | ok fl =>
      cases fl with
      | next=>exact False.elim h
      | brk=>exact False.elim h
      | cont=>exact False.elim h
      | ret u =>
        obtain⟨v,H',os,p,un,D,r',q⟩:=h
        have q':v=.bl true:=q
        subst q'
        obtain rfl:u=Value.bool true:=r'
        refine⟨rfl,OldK.of_keep λb o e=>?_,os,p⟩
        cases q:H b with
        | none=>exact un.keep b o e q (by intro z;exact absurd (show b∈([]:List Addr) from z) (by simp)) (by simp)
        | some u =>
          rcases X b with z|⟨ob,xs,z⟩
          . rw[q]at z;cases z
          . have z2 := un.frzs b ob _ z
            obtain⟨T,_⟩:=C b _ z
            obtain⟨e2,_⟩:=D b _ z2
            rw[e]at T;cases T
            exact e2
  cases hk:K.lookup a with
  | some o =>
    have e:=S a o hk
    rw[I]at e
    cases e
    refine j (λ_=>none) (λ_=>.inl rfl) (.inr ⟨_,vs.toArray,_,hk,rfl,rfl,rfl,by rw[ay,E];exact hl,by simpa using rv⟩) (λb u z=>by have G:(none:Option HO)=some u:=z;cases G) (λb z=>absurd rfl z) λz=>absurd rfl z
  | none =>
    refine j (λb=>if b=a then some (.frz { cls:=.type "list",data:=.seq vs.toArray } (.lst (ns.map V.int))) else none) (λb=>?_) (.inl (.inr ⟨{ cls:=.type "list",data:=.seq vs.toArray },if_pos rfl⟩)) (λb u z=>?_) (λb z=>?_) λ_=>hk
    . by_cases g : b = a
      . exact .inr ⟨_,_,if_pos g⟩
      . exact .inl (if_neg g)
    . by_cases g : b = a
      . have G := (if_pos g).symm.trans z
        cases G
        subst g
        exact⟨I,by rw[ae];exact hl,vs,_,rv,I⟩
      . have G := (if_neg g).symm.trans z
        cases G
    . by_cases g : b = a
      . exact g
      . exact absurd (if_neg g) z
end L2
namespace L2
open PySem PySem.Spec PyProof.Rows
def Q5 (s:Stmt):Arguments:=match s with
  | .FunctionDef _ a _ _ _ _ _ _ _ _=>a
  | _=>{ posonlyargs:=[],args:=[],vararg:=none,kwonlyargs:=[],kw_defaults:=[],kwarg:=none,defaults:=[] }
def V4 (s:Stmt):List Stmt:=match s with
  | .FunctionDef _ _ b _ _ _ _ _ _ _=>b
  | _=>[]
def y6 (s:Stmt):Scope:=match s with
  | .FunctionDef _ _ _ _ _ _ sc _ _ _=>sc
  | _=>{ kind:=.function,names:=[],isGenerator:=false,isCoroutine:=false }
abbrev CX0:CXT:=λ_ _ _ _ _ _=>False
abbrev E0:XK:=λ_ _ _=>False
theorem yx0 :D7 CX0 X E0:=λ_ _ _ _ _ _ _ h=>h.elim
structure Fun (K:W.Frag) (x qual:Str) (st:Stmt) (f:Addr) (fd:gz):Prop where
  ex:∃(oc:Value) (od:Option Addr) (kV doc pm:Value) (an:Option Addr) (cdv ct:Value) (osl:Array (Option Value)),
    fd=W.fnOf x qual (Q5 st) (V4 st) (y6 st) .none kV doc pm an cdv ct/\K.lookup f=some ⟨oc,od,.func fd,osl⟩/\W.codeIn K cdv qual=true
  kp:W.keepIn K (.ref f)=true
section
variable {P:gf}{w:gp}{K:W.Frag}{mg:Str->Option Value}{base:Heap}
theorem Fun.ok {st : Stmt}{N ps : List Str}{sp : Sp}(F : Fun K x qual st f fd)(S : x0 N ps (y6 st))(g : ∀c H Q E, sp c H Q E -> c.length = ps.length)
    (b:∀(a:Value) (A:gq) (outer:List Env) (s:fZ) (H:Hp) (c:List V) (Q:VK) (E:XK),X3 k (A.deeper (envOfC qual (y6 st) s.heap.objs.size f a))->sp c H Q E ->
      ∃t,PSs (R3 CX0 P w K mg base N qual (y6 st) f a A outer s H E).nox (V4 st) t/\t { nx:=λ_ H'=>Q .non H',rt:=Q } (start N c) H):u7 P w K mg base CX0 (k+1) f fd ps sp:=by
  obtain⟨oc,od,kV,i,pm,an,a,ct,l,rfl,j,d⟩:=F.ex;refine xv3 j d S g λA outer s H c Q E hr e=>?_;obtain⟨t,h,q⟩:=b a A outer s H c Q E hr e;exact⟨t,h.nox,q⟩
theorem Fun.binds {st : Stmt}{ps : List Str}(F : Fun K x qual st f fd)
    (h:∀(kV b pm:Value) (an:Option Addr) (a ct:Value) (us:List Value),us.length=ps.length->bindArgs (W.fnOf x qual (Q5 st) (V4 st) (y6 st) .none kV b pm an a ct) ⟨us,[]⟩=pure (ps.zip us)):P3 K fd ps []:=by
  obtain⟨oc,od,kV,b,pm,an,a,ct,d,rfl,e,c⟩:=F.ex;exact .all (h kV b pm an a ct)
theorem yc6 {st : Stmt}{osl : Array (Option Value)}{kV doc pm cdv ct : Value}(l : K.lookup f = some ⟨oc, od, .func (W.fnOf x qual (Q5 st) (V4 st) (y6 st) .none kV doc pm an cdv ct), osl⟩)
    (c:W.codeIn K cdv qual=true) (k:W.keepIn K (.ref f)=true):Fun K x qual st f (W.fnOf x qual (Q5 st) (V4 st) (y6 st) .none kV doc pm an cdv ct):=⟨⟨oc,od,kV,doc,pm,an,cdv,ct,osl,rfl,l,c⟩,k⟩
end
theorem yv9 {A:gq}(hr:X3 k A):A.units+1<cLine:=bC (Nat.add_le_add_left (by decide:1<=64) _) hr.units
theorem zk8 (h:n<=1000):n<ge:=bC h (by decide)
section
variable {X:Cx}
theorem pv (i : Nat){pos : Pos}(hN : X.N[i]? = some x := by rfl)(hv : Vis X.env.scope x := by first|exact Or.inl rfl|exact Or.inr (Or.inl rfl)|exact Or.inr (Or.inr rfl))(hd : (x==("__debug__" : Str)) = false := by decide)
    (hcd:(x==("__classdict__":Str))=false:=by decide):PE X (.Name x pos) (wb9 i):=wa2 hN hv hd hcd
end
theorem o0 {A B:Prop}(h:B):if false=true then A else B:=by
  rw[if_neg aA];exact h
theorem i9 {A B:Prop}(h:A):if true=true then A else B:=by
  rw[if_pos rfl];exact h
theorem xi4 {c A B:Prop}[Decidable c](h1:c->A)(h2:¬c->B):if c then A else B:=by
  by_cases h:c
  . rw[if_pos h];exact h1 h
  . rw[if_neg h];exact h2 h
def y4 (H H':Hp):Prop:=∀b o,H b=some o->H' b=some o
theorem y4.refl (H:Hp):y4 H H:=λ_ _ h=>h
theorem y4.trans (a:y4 H H1)(b:y4 H1 H2):y4 H H2:=λc o h=>b c o (a c o h)
theorem y4.free (e:y4 H H')(h:H' l=Option.none):H l=Option.none:=by
  cases q:H l with
  | none=>rfl
  | some o =>
    rw[e l o q]at h
    cases h
theorem y4.seq {K:W.Frag}(e:y4 H H')(h:SqL K H a xs):SqL K H' a xs:=by
  rcases h with (h|⟨o,h⟩)|h
  . exact .inl (.inl (e _ _ h))
  . exact .inl (.inr ⟨o,e _ _ h⟩)
  . exact .inr h
section
variable {X:Cx}
theorem zi1:V1 X (.builtin "len") (λxs H Q=>∃a kvs,xs=[V.ref a]/\H a=some (.dK kvs)/\Q (.int kvs.length) H):=by
  intro pins s σ H xs e Q I r h;obtain⟨a,kvs,rfl,c,q⟩:=h;obtain⟨u,rfl,d⟩:=K6 r
  cases d
  exact wc7 I (.inl c) λt s' b=>⟨.int kvs.length,H,b,⟨t,rfl⟩,q⟩
end
end L2
set_option maxHeartbeats 4000000
namespace Att
open PySem PySem.W PySem.Calls PyProof.Rows
theorem yz5 {ns:List Int}(h:(WData.list (ns.map WData.int)).layable=true)(hz:z∈ns):Builtin.Int.intBits z<=2 ^ 20:=by
 have h1:=layableW_item h (WData.int z) (az.mpr ⟨z,hz,rfl⟩);obtain⟨_,_,a⟩:=layableW_iff.mp h1;simpa only[WData.weight,Builtin.Int.intBits] using a
theorem attach_callB {l:OpenLaw}{XP:(Str->Option Value)->Heap->Prop}{YP:gp->Heap->Prop}{d:DefRec}
  (M:l.most=some n) (u:d.params.defaults=[])
  (call:∀(w:gp) (A b:fZ) (mg y:Str->Option Value) (j:Addr) (o:Obj) (pm cd c:Value) (a:Addr) (i:List Value) (h:List Int),
   Ground q loose [] XP w A mg y b.heap->YP w b.heap ->
   b.heap.get? j=some o->o.data=.func (docDef d.name d.params d.body d.scope pm cd c)->b.heap.CodeRec cd d.name->mg d.name=some (.ref j) ->
   b.heap.get? a=some { cls:=.type "list",data:=.seq i.toArray }->IntsAre i h->h.length<=n->(∀z∈h,Builtin.Int.intBits z<=2 ^ 20)->b.gens=#[] ->
   codeAny (gn l.prog w) callerA (.call (.ref j) ⟨[.ref a],[]⟩) (λr s'=>r=.ok (.ret (.bool true))/\OldK b.heap s'.heap/\s'.os=b.os/\AllBare s'.gens) b) :
  WalkO q loose XP YP l.row.toRowW d [] (λf i=>PySem.call f i):=by
 intro w A b mg y G Y j o pm cd c E kV N I t C v J B D R s k P x K
 obtain rfl:E=.none:=Dflts.none C u
 obtain rfl:kV=.none:=Dflts.noKw C
 obtain⟨a,i,h,rfl,rfl,p,g,m⟩:=xe6 M s x
 have e:∀z∈h,Builtin.Int.intBits z<=2 ^ 20:=λz Q=>yz5 (layableW_arg k _ aw) Q
 refine enter_call (codeAny_mono (call w A b mg y j o pm cd c a i h G Y N (fd_plain I) t v p g m e J) λr s' O=>?_)
 obtain⟨rfl,h2,F,H⟩:=O
 exact⟨.inl ⟨.bool true,.bool true,[],rfl,λ_=>rfl,.bool true,xd3 l _,λ_=>⟨List.Pairwise.nil,λ_ L=>(nomatch L)⟩⟩,h2,F,H⟩
end Att
namespace L2
open PySem PySem.Spec PyProof.Rows
theorem walk_ofB {l:W.OpenLaw}{XP:(Str->Option Value)->Heap->Prop}{YP:gp->Heap->Prop}{d:DefRec}{K:Params->W.Frag}{sp:W.Frag->Sp}
  (Q:l.most=some n) (B:n<=ge) (y:d.params.defaults=[]) (hr:X3 k callerA)
  (M:∀(w:gp) (h:Heap),YP w h->(K w.params).In h)
  (F:∀(w:gp) (mg:Str->Option Value) (r:Addr) (h:Heap),(K w.params).In h->h.Ns mainGlobals mg->mg d.name=some (.ref r) ->
   ∃fd:gz,(∀(s:fZ) (u:Value),BindsTo s fd ⟨[u],[]⟩ [(x,u)]) /\
    ∀base:Heap,(K w.params).In base->base.Ns mainGlobals mg->u7 l.prog w (K w.params) mg base CX k r fd [x] (sp (K w.params)))
  (C:∀(K:W.Frag) (H:Hp) (a:Addr) (p:List Int),p.length<=n->(∀z∈p,Builtin.Int.intBits z<=2 ^ 20)->Only H->SqL K H a (p.map V.int)->sp K [.ref a] H (λv _=>v=.bl true) λ_ _ _=>False)
  (t:∀(H:Hp) (s:fZ) (e:Value) (s':fZ),CX [] H s (λ_ _ _=>False) e s'->False) :
  W.WalkO q loose XP YP l.row.toRowW d [] (λf E=>PySem.call f E):=by
 refine Att.attach_callB Q y λw Z R mg X r o pm cd I a E p G Y U S O A m j c i P=>?_
 have D:=M w _ Y
 obtain⟨fd,N,J⟩:=F w mg r _ D G.T.g A
 exact xj2 D G.T.g G.T.b G.T.builtins G.T.nolimit P m j (aD c B) hr J N (λH L hS=>C (K w.params) H a p c i L hS) λH e s'=>t H R e s'
theorem xb0 {α β:Type}{l:List α}{f:α->β->Sem (ForInStep β)}{g:β->α->β}:∀(c:β),(∀x∈l,∀c,f x c=pure (.yield (g c x)))->forIn l c f=pure (l.foldl g c):=by
 induction l with
 | nil=>intro c _;rfl
 | cons x l ih =>
  intro c h;rw[dM,h x aw,pure_bind];exact ih _ λy a=>h y (ar _ a)
def Y1 (cells:List (Str×Addr))(cs:List (Str×Addr))(x:Str×NameKind):List (Str×Addr):=if (x.2==NameKind.free)=true then(x.1,(cells.lookup x.1).getD 0)::cs else cs
def xg1 (cells:List (Str×Addr))(names:List (Str×NameKind)):List (Str×Addr):=names.foldl (Y1 cells) []
theorem C2 {scope:Scope}{b:Env}(h:∀y∈scope.names,y.2=.free->∃c,b.cells.lookup y.1=some c):closureFor scope b=pure (xg1 b.cells scope.names):=by
 simp only[closureFor];rw[xb0 (g:=Y1 b.cells) [] (λx j c=>by
  obtain⟨n,k⟩:=x
  by_cases e:k=.free
  .subst e
   obtain⟨a,f⟩:=h _ j rfl
   have d:b.cells.lookup n=some a:=f
   simp only[Y1,beq_self_eq_true,if_true,cellOf,d,cn,pure_bind]
  .have i:(k==NameKind.free)=false:=by simpa using e
   simp only[Y1,i,bY,if_false])]
 rfl
theorem zz1 {cells:List (Str×Addr)}:∀{names:List (Str×NameKind)} {cs:List (Str×Addr)},(∀y∈names,y.2=.free->∃c,cells.lookup y.1=some c)->(∀x c,cs.lookup x=some c->cells.lookup x=some c) ->
  ∀x c,(names.foldl (Y1 cells) cs).lookup x=some c->cells.lookup x=some c
 | [],cs,_,h,x,c,e=>h x c e
 | (n,k)::r,cs,hn,h,x,c,e=>by
  refine zz1 (names:=r) (λy hy=>hn y (ar _ hy)) (λx c e=>?_) x c e
  by_cases hk:k=.free
  .subst hk
   obtain⟨a,ha⟩:=hn (n,.free) aw rfl
   have ha':cells.lookup n=some a:=ha
   simp only[Y1,beq_self_eq_true,if_true,ha',cn,bX]at e
   cases q:x==n with
   | true =>
    rw[q]at e
    have q':x=n:=by simpa using q
    rw[q',ha']
    exact e
   | false =>
    rw[q]at e
    exact h x c e
  .have hb:(k==NameKind.free)=false:=by simpa using hk
   simp only[Y1,hb,bY,if_false]at e
   exact h x c e
theorem zi3 :∀{names:List (Str×NameKind)} {cs:List (Str×Addr)},((x,NameKind.free)∈names∨∃c,cs.lookup x=some c)->∃c,(names.foldl (Y1 cells) cs).lookup x=some c
 | [],cs,h=>by
  rcases h with h|h
  .cases h
  .exact h
 | (n,k)::r,cs,h=>by
  refine zi3 (names:=r) (cs:=Y1 cells cs (n,k)) ?_
  rcases h with h|⟨c,h⟩
  .rcases ax.mp h with e|e
   .cases e
    right
    simp[Y1]
   .exact .inl e
  .right
   by_cases hk:k=.free
   .subst hk
    simp only[Y1,beq_self_eq_true,if_true,bX]
    cases x==n with
    | true=>exact⟨_,rfl⟩
    | false=>exact⟨c,h⟩
   .have hb:(k==NameKind.free)=false:=by simpa using hk
    simp only[Y1,hb,bY,if_false]
    exact⟨c,h⟩
def M6 (sc osc:Scope)(fr:List Str):Bool :=
 sc.kind == .function&&(sc.names.all λy=>y.2 != .cell)&&(sc.names.all λy=>y.2 != .local || sc.names.lookup y.1==some .local) &&
 (sc.names.all λy=>y.2 != .free || (osc.names.lookup y.1==some .cell || osc.names.lookup y.1==some .free))&&(fr.all λx=>sc.names.lookup x==some .free)
structure yb2 (sc osc:Scope) (fr:List Str):Prop where
 kind:sc.kind=.function
 cell:∀y∈sc.names,y.2≠.cell
 loc:∀y∈sc.names,y.2=.local->sc.names.lookup y.1=some .local
 free:∀y∈sc.names,y.2=.free->osc.names.lookup y.1=some .cell∨osc.names.lookup y.1=some .free
 fr:∀x∈fr,sc.names.lookup x=some .free
theorem A4 (h:M6 c b fr=true):yb2 c b fr:=by
 unfold M6 at h;rw[bn,bn,bn,bn]at h;obtain⟨⟨⟨⟨h1,h2⟩,d⟩,f⟩,g⟩:=h;refine⟨by simpa using h1,λy a=>?_,λy a e=>?_,λy a e=>?_,λx i=>?_⟩
 .simpa using bI.mp h2 y a
 .have:=bI.mp d y a;rw[e]at this;simpa using this
 .have:=bI.mp f y a;rw[e]at this;simpa using this
 .simpa using bI.mp g x i
theorem mem_of_lookup :∀{l:List (Str×NameKind)},l.lookup x=some k->(x,k)∈l
 | [],h=>by cases h
 | (n,j)::r,h=>by
  rw[bX]at h
  cases q:x==n with
  | true =>
   rw[q]at h
   have q':x=n:=by simpa using q
   cases h
   rw[q']
   exact aw
  | false =>
   rw[q]at h
   exact ar _ (mem_of_lookup h)
theorem Q3 {env:Env}:∀{names:List (Str×NameKind)} {x:Str},names.lookup x=some .free ->
  (names.map λ(n,k)=>if (k==NameKind.free&&env.scope.kind == .function&&env.kindOf n==some .cell) then(n,NameKind.cell) else(n,k)).lookup x=some .cell ∨
  (names.map λ(n,k)=>if (k==NameKind.free&&env.scope.kind == .function&&env.kindOf n==some .cell) then(n,NameKind.cell) else(n,k)).lookup x=some .free
 | [],_,h=>by cases h
 | (n,k)::r,x,h=>by
  have ih:=@Q3 env r x
  show List.lookup x ((if (k==NameKind.free&&env.scope.kind == .function&&env.kindOf n==some .cell)=true then(n,NameKind.cell) else(n,k))::_)=_∨List.lookup x ((if (k==NameKind.free&&env.scope.kind == .function&&env.kindOf n==some .cell)=true then(n,NameKind.cell) else(n,k))::_)=_
  rw[bX]at h
  by_cases hc:(k==NameKind.free&&env.scope.kind == .function&&env.kindOf n==some .cell)=true
  .rw[if_pos hc]
   simp only[bX]
   cases hx:x==n with
   | true=>exact .inl rfl
   | false=>rw[hx]at h;exact ih h
  .rw[if_neg hc]
   simp only[bX]
   cases hx:x==n with
   | true=>rw[hx]at h;exact .inr h
   | false=>rw[hx]at h;exact ih h
def o5 (X:Cx)(N':List Str)(scope:Scope)(C:Addr)(s₃:fZ)(H₃:Hp)(fp:List Addr):Cx where
 prog:=X.prog
 w:=X.w
 K:=X.K
 mg:=X.mg
 base:=X.base
 A:=X.A
 N:=N'
 s₀:=s₃
 H₀:=H₃
 env:=compEnvC scope (xg1 X.env.cells scope.names) C X.env
 outer:=X.stack
 stack:=X.stack
 ex:=fp
 fn:=λ_=>false
 calm:=X.calm
 pn:=[]
 xe:=λ_ _=>False
def X2 (own:Nat)(fr:List Nat)(σ:St):St:=List.replicate own none++fr.map λj=>(σ[j]?).getD none
section
variable {X:Cx}{pins:List (Addr×Obj)}{σ:St}{H:Hp}{s:fZ}
theorem yi5 {N':List Str}{fr:List Nat}{C:Heap}{m:Str->Option Value}(I:Inv X pins σ H s)(hf:∀b∈fp,zc2 X pins H b)(hob:∀b∈fp,∃o,s.heap.get? b=some o)
  (hok:yb2 scope X.env.scope (N'.drop own)) (w:fr.map (λj=>X.N[j]?)=(N'.drop own).map some) (G:own<=N'.length)
  (R:C.Ns s.heap.objs.size m) (E:Heap.SameBut s.heap.objs.size (s.heap.push U) C) :
  Inv (o5 X N' scope s.heap.objs.size s H fp) [] (X2 own fr σ) H { s with heap:=C,toks:=t }:=by
 have cellsSub:∀x c,(xg1 X.env.cells scope.names).lookup x=some c->X.env.cells.lookup x=some c:=λx c e =>
  zz1 (λy hy hk=>I.ok.has y.1 (hok.free y hy hk)) (λx c e=>by cases e) x c e
 have D:∀b o,s.heap.get? b=some o->C.get? b=some o:=λb o e=>(E.2 b (aX (aB e))).trans (ap _ e);have A:fr.length=(N'.drop own).length:=by
  have:=congrArg List.length w;simpa using this
 have okX:(o5 X N' scope s.heap.objs.size s H fp).Ok :=
  {mod:=I.ok.mod
   kind:=hok.kind
   glob:=I.ok.glob
   blt:=I.ok.blt
   above:=af _
   inj:=λx y c e1 e2=>I.ok.inj x y c (cellsSub x c e1) (cellsSub y c e2)
   has:=λx hk=>by
    have hk':(relabel scope X.env).names.lookup x=some .cell∨(relabel scope X.env).names.lookup x=some .free:=hk
    have key:(x,NameKind.free)∈scope.names:=by
     have all:∀(l:List (Str×NameKind)),(∀y∈l,y.2≠.cell)->((l.map λ(n,k)=>if (k==NameKind.free&&X.env.scope.kind == .function&&X.env.kindOf n==some .cell) then(n,NameKind.cell) else(n,k)).lookup x=some .cell ∨
       (l.map λ(n,k)=>if (k==NameKind.free&&X.env.scope.kind == .function&&X.env.kindOf n==some .cell) then(n,NameKind.cell) else(n,k)).lookup x=some .free)->(x,NameKind.free)∈l:=by
      intro l
      induction l with
      | nil=>intro _ h;rcases h with h|h <;> cases h
      | cons p r ih =>
       obtain⟨n,k⟩:=p
       intro hc h
       have hr:∀y∈r,y.2≠.cell:=λy hy=>hc y (ar _ hy)
       have hkc:k≠.cell:=hc (n,k) aw
       rw[aN]at h
       by_cases hx:(x==n)=true
       .have hx':x=n:=by simpa using hx
        subst hx'
        by_cases hk:k=.free
        .subst hk
         exact aw
        .exfalso
         have hb:(k==NameKind.free)=false:=by simpa using hk
         simp[hb,bX]at h
         rcases h with h|h
         .exact hkc h
         .exact hk h
       .have hx0:(x==n)=false:=by simpa using hx
        refine ar _ (ih hr ?_)
        by_cases hc:(k==NameKind.free&&X.env.scope.kind == .function&&X.env.kindOf n==some .cell)=true
        .simp only[hc,if_true,bX,hx0]at h
         exact h
        .have hc':(k==NameKind.free&&X.env.scope.kind == .function&&X.env.kindOf n==some .cell)=false:=by simpa using hc
         simp only[hc',bY,if_false,bX,hx0]at h
         exact h
     exact all scope.names hok.cell hk'
    exact zi3 (.inl key)
   cab:=λx c e=>by cases e
   hd:=I.ok.hd
   frames:=I.ok.frames
   stk:=.inl rfl
   exf:=λb hb=>⟨λe=>by
     obtain⟨o,ho⟩:=hob b hb
     exact absurd (aB ho) (by rw[e];exact aO _),λx c e=>(hf b hb).2.2.2.2.1 x c (cellsSub x c e)⟩
   bs:=I.bs
   bsz:=aD I.ok.bsz I.sz
   noex:=λb o e hb=>by
    rcases (hf b hb).2.2.2.1 with z|z
    .exact I.ok.noex b o e z
    .exact absurd (aB (I.ok.bs b o e).1) (Nat.not_lt.mpr z)
   exfs:=λb hb z=>by
    rcases ax.mp (I.stkSub b z) with e|e
    .exact(hf b hb).2.1 e
    .exact(hf b hb).2.2.1 e
   funs:=I.stack
   frf:=I.stkFree }
 refine⟨okX,rfl,I.bare,Un.kept D,⟨m,R,λi x v e1 e2 V=>?_⟩,λx c e=>?_,I.hok.fresh (af _),λx c e=>I.freeC x c (cellsSub x c e),λp S=>(by cases S),I.hok.kept D,?_⟩
 .have a:(List.replicate own none++fr.map λj=>(σ[j]?).getD none)[i]?=some (some v):=e2;by_cases hi:i<own
  .rw[aE (by simpa using hi),bS]at a;rw[if_pos hi]at a
   cases a
  .rw[aI (by simpa using fM hi),bo,al]at a
   cases hj:fr[i-own]? with
   | none=>rw[hj]at a;cases a
   | some j =>
    rw[hj]at a;have B:(σ[j]?).getD none=some v:=by simpa using a
    have L:σ[j]?=some (some v):=by
     cases q:σ[j]? with
     | none=>rw[q]at B;cases B
     | some z=>rw[q]at B;simpa using B
    have M:N'[own+(i-own)]?=some x:=by
     rw[show own+(i-own)=i by lia];exact e1
    have F:(N'.drop own)[i-own]?=some x:=by rw[eE];exact M
    have O:X.N[j]?=some x:=by
     have q:=congrArg (λl=>l[i-own]?) w;simp only[al,hj,F,cz]at q;simpa using q
    have hx:=hok.fr x (au F);have d:=mem_of_lookup hx;have f:=hok.free _ d rfl;obtain⟨W,_,Q⟩:=I.loc;obtain⟨u,r,l⟩:=Q j x v O L (.inr f);refine⟨u,r,?_⟩;rcases l with⟨k,_⟩|⟨_,c,P,z⟩
    .have T:X.env.scope.names.lookup x=some .local:=k;rcases f with q|q <;> (have J:X.env.scope.names.lookup x=_:=q;rw[T]at J;cases J)
    .obtain⟨K,g⟩:=zi3 (cells:=X.env.cells) (cs:=[]) (.inl d);have q:=cellsSub x K g;rw[P]at q
     cases q
     obtain⟨o,ho,hd⟩:=z;exact .inr ⟨Q3 hx,c,g,o,D c o ho,hd⟩
 .obtain⟨v,o,ho,hd⟩:=I.cell x c (cellsSub x c e);exact⟨v,o,D c o ho,hd⟩
 .show(List.replicate own none++fr.map λj=>(σ[j]?).getD none).length=N'.length;rw[ao,bo,ae,A,bH];lia
end
section
variable {prog:gf}{w:gp}{A:gq}{s:fZ}
theorem C3 {R:Result->fZ->Prop}(I:Nat->fZ->Prop)
  (f:∀n s,I n s->gg (gn prog w) A (pyNext it) (λr i=>match r with
   | none=>R (.ok .next) i
   | some v=>gg (gn prog w) A (letOwnedTupleGo a it v) (λ_ d=>gg (gn prog w) A (assign a b v) (λ_ k=>gg (gn prog w) A (eval elt b) (λx l =>
     gg (gn prog w) A (call (.builtin "list.append") [c,x]) (λ_ o=>∃m,m<n/\I m o) (notedBy (gn prog w) A b λe s'=>R (.error e) s') l)
     (notedBy (gn prog w) A b λe s'=>R (.error e) s') k) (notedBy (gn prog w) A b λe s'=>R (.error e) s') d) (notedBy (gn prog w) A b λe s'=>R (.error e) s') i) (notedBy (gn prog w) A b λe s'=>R (.error e) s') s)
  (n:Nat) (h:I n s):codeAny (gn prog w) A (.compLoop (.ListComp elt [⟨a,iter,[],0⟩] scope pos) 0 it c b) R s:=by
 refine codeAny_loop rfl I (λn s p=>?_) n h
 show gg _ _ ((compTurn (.ListComp elt [⟨a,iter,[],0⟩] scope pos) 0 it c b).onRaise (λx=>do noteFrame x b;theTreesLotGoes x)) _ _ s
 refine wpAny_noted ?_
 rw[compTurn_list1]
 refine fY (wpAny_standAt (fY (gu (f n s p) (λr i j=>?_) λ_ _ h'=>h')))
 cases r with
 | none=>exact gc j
 | some v =>
  refine fY (gu j (λ_ d g=>?_) λ_ _ h'=>h')
  exact fY (gu g (λ_ k q=>fY (fY (gu q (λx l t=>fY (gu t
   (λ_ o u=>gc (gc ⟨rfl,u⟩)) λ_ _ h'=>h')) λ_ _ h'=>h'))) λ_ _ h'=>h')
end
abbrev CT (α:Type):=Addr->fZ->Hp->List Addr->α
def yt9 (own:Nat)(fr:List Nat)(wi:TI)(g:CT TG)(te:CT TE)(σ:St)(H:Hp)(Q:Addr->Hp->Prop):Prop:=wi σ H λJ H1=>∀D,H1 D=none ->
 ∃W:Nat->Nat->St->Hp->Prop,(∃m,W 0 m (X2 own fr σ) (upd H1 D (.lst [])))/\∀i m σ' H',W i m σ' H' ->
  (J.stop i H'/\Q D H')∨(J.go i H'/\∀x H2,J.yld i H' x H2->∀C₀ s₀ H₀ fp,g C₀ s₀ H₀ fp x σ' H2 λσ3 H3=>∃N:VK,te C₀ s₀ H₀ fp σ3 H3 N/\∀y H4,N y H4 ->
   ∃ys m',H4 D=some (.lst ys)/\ys.length<ge/\m'<m/\W (i+1) m' σ3 (upd H4 D (.lst (ys++[y]))))
def yn3 (own:Nat)(fr:List Nat)(wi:TI)(g:CT TG)(te:CT TE):TE:=λσ H Q=>yt9 own fr wi g te σ H λD H'=>Q (.ref D) H'
def xv0 (X:Cx)(pins:List (Addr×Obj))(H:Hp)(C:Addr):Prop :=
 H C=none/\C≠X.env.locals/\X.s₀.heap.objs.size<=C/\(∀x c,X.env.cells.lookup x=some c->c≠C)/\∀p∈X.pn++pins,p.1≠C
section
variable {X:Cx}{own:Nat}{fr:List Nat}{N':List Str}{tg iter elt:Expr}{scope:Scope}{pos:Pos}{wi:TI}{g:CT TG}{te:CT TE}
theorem yh4 {σ:St}{Q:Addr->Hp->Prop}{use:Option (Value->Sem Unit)}{Q':Value->fZ->Prop}(hc:X.calm=true)(hi:PI X tg iter wi)(hg:∀C s₃ H₃ fp,PG (o5 X N' scope C s₃ H₃ fp) tg (g C s₃ H₃ fp))(he:∀C s₃ H₃ fp,PE (o5 X N' scope C s₃ H₃ fp) elt (te C s₃ H₃ fp))
  (f:yb2 scope X.env.scope (N'.drop own)) (ar:fr.map (λj=>X.N[j]?)=(N'.drop own).map some) (aa:own<=N'.length) (hs:∀x,foldedSetIterable iter X.env x=pure x)
  (I:Inv X pins σ H s) (h:yt9 own fr wi g te σ H Q)
  (fin:∀D C m H' s',Inv X pins σ H' s'->s'.heap.Ns C m->xv0 X pins H' C->Q D H'->compPost (gn X.prog X.w) X.A X.xe use Q' (.ref D) C (.ok .next) s') :
  gg (gn X.prog X.w) X.A (comprehension (.ListComp elt [⟨tg,iter,[],0⟩] scope pos) scope X.env pos' (newList []) false (eval iter X.env) use) Q' X.xe s:=by
 refine wpAny_comprehension_free rfl hs (C2 λy hy hk=>I.ok.has y.1 (f.free y hy hk)) f.kind f.loc (thn (hi pins s σ H _ I h) λxv s1 h1=>thn h1 λbz k h2=>?_)
 obtain⟨it,fp,tn,J,H2,e,I2,T,ac,f2,U⟩:=h2
 subst e
 refine wpAny_newList (items:=[]) ?_
 have hD:H2 k.heap.objs.size=none:=I2.hok.fresh (af _)
 have B:Inv X pins σ (upd H2 k.heap.objs.size (.lst [])) { k with heap:=k.heap.push { cls:=.type "list",data:=.seq ([]:List Value).toArray } }:=I2.lnew (its:=[]) (t':=k.toks) .nil (by decide)
 obtain⟨W,⟨m0,w0⟩,K⟩:=U _ hD
 generalize hDD:k.heap.objs.size=D at hD B w0 K ⊢
 have ba:∀b o,k.heap.get? b=some o->(k.heap.push { cls:=.type "list",data:=.seq ([]:List Value).toArray }).get? b=some o:=λb o e=>ap _ e
 have a':tn 0 (k.heap.push { cls:=.type "list",data:=.seq ([]:List Value).toArray }):=T.keep _ _ _ ac λb _ o e=>ba b o e
 have V:∀b∈fp,b≠D:=λb a e=>by
  obtain⟨o,ho,_⟩:=T.obj _ _ ac b a
  rw[e,←hDD]at ho
  exact absurd (aB ho) (aO _)
 have M:∀b∈fp,zc2 X pins (upd H2 D (.lst [])) b:=λb a=>⟨by rw[z6 (V b a)];exact(f2 b a).1,(f2 b a).2⟩
 generalize hs3:({ k with heap:=k.heap.push { cls:=.type "list",data:=.seq ([]:List Value).toArray } }:fZ)=s3 at B ⊢
 have G:tn 0 s3.heap:=by rw[←hs3];exact a'
 generalize upd H2 D (.lst [])=L at B M w0
 have av:∀b∈fp,∃o,s3.heap.get? b=some o:=λb a=>let ⟨o,ho,_⟩:=T.obj _ _ G b a;⟨o,ho⟩
 refine wpAny_newFunctionEnv f.cell (by intro y hy;simp at hy) (λh₁ Z E=>?_) f.kind
 have bb:∀b o,s3.heap.get? b=some o->h₁.get? b=some o:=λb o e=>(E.2 b (aX (aB e))).trans (ap _ e)
 have I4:=yi5 (N':=N') (own:=own) (fr:=fr) (scope:=scope) (t:=s3.toks+([]:List (Str×Value)).length) B M av f ar aa Z E
 have ad:tn 0 h₁:=T.keep _ _ _ G λb _ o e=>bb b o e
 have l:∀{H':Hp} ,(∀b∈fp,H' b=none)->∀b∈fp,zc2 (o5 X N' scope s3.heap.objs.size s3 L fp) [] H' b:=λhn b a=>by
  refine⟨hn b a,(I4.ok.exf b a).1,I4.ok.exfs b a,.inl a,(I4.ok.exf b a).2,λp hp=>by cases hp⟩
 have F:codeAny (gn X.prog X.w) X.A (.compLoop (.ListComp elt [⟨tg,iter,[],0⟩] scope pos) 0 (.ref it) (.ref D) (o5 X N' scope s3.heap.objs.size s3 L fp).env)
   (compPost (gn X.prog X.w) X.A X.xe use Q' (.ref D) s3.heap.objs.size) { s3 with heap:=h₁,toks:=s3.toks+([]:List (Str×Value)).length }:=by
  refine C3 (λn s'=>∃i σ' H',Inv (o5 X N' scope s3.heap.objs.size s3 L fp) [] σ' H' s'/\tn i s'.heap/\(∀b∈fp,H' b=none)/\W i n σ' H') ?_ m0 ⟨0,_,L,I4,ad,λb a=>(M b a).1,w0⟩
  rintro n s5 ⟨i,σ5,R,I5,ae,Y,w5⟩
  rcases K i n σ5 R w5 with⟨ag,q⟩|⟨go,step⟩
  .refine thn (T.done (o5 X N' scope s3.heap.objs.size s3 L fp) rfl rfl rfl hc i [] s5 σ5 R _ I5 (l Y) ae ag) λr s6 ⟨hr,P⟩=>?_
   subst hr
   obtain⟨m6,au,_⟩:=P.loc
   have I7:Inv X pins σ R s6:=B.call' (ch:=fp) (by have:=P.os;exact this) P.base P.hok P.bare λb a=>⟨(M b a).2.2.2.1,(M b a).2.1,(M b a).2.2.2.2.1,(M b a).2.2.2.2.2⟩
   refine fin D s3.heap.objs.size m6 R s6 I7 au ⟨P.free,dv B.lt,B.sz,λx c e z=>?_,λp hp z=>?_⟩ q
   .obtain⟨v,z1⟩:=B.cell x c e
    exact absurd z1.lt (by rw[z];exact aO _)
   .exact absurd (aB (B.pin p hp).1) (by rw[z];exact aO _)
  .refine thn (T.item (o5 X N' scope s3.heap.objs.size s3 L fp) rfl rfl rfl hc i [] s5 σ5 R _ I5 (l Y) ae go) λr s6 ⟨u,hr,h6⟩=>?_
   subst hr
   refine thn h6 λ_ s7 ⟨x,H7,I7,r7,y7,O,ao⟩=>?_
   have an:=I7.pinned (l ao) (T.obj _ _ O)
   refine gu (hg _ _ _ _ _ s7 σ5 H7 x u _ an r7 (step x H7 y7 _ _ _ _)) (λ_ s8 ⟨σ8,H8,I8,N,q8,hN⟩=>?_) λ_ _ z=>z.elim
   refine gu (he _ _ _ _ _ s8 σ8 H8 N I8 q8) (λyv s9 ⟨y,H9,I9,r9,n9⟩=>?_) λ_ _ z=>z.elim
   obtain⟨ys,m',aq,as,hm,w9⟩:=hN y H9 n9
   refine gu (c3 (X:=o5 X N' scope s3.heap.objs.size s3 L fp) _ s9 σ8 H9 (.ref D) [y] (.ref D) [yv] (λ_ H'=>H'=upd H9 D (.lst (ys++[y]))) I9 rfl (.cons r9 .nil) ⟨D,ys,y,rfl,rfl,aq,as,rfl⟩) (λ_ cg ⟨_,bl,S,_,ay⟩=>?_) λ_ _ z=>z.elim
   subst ay
   have ab:=λb a o e=>S.pin (b,o) (aF _ (aF _ (P6 (h:=s7.heap) (fp:=fp) a e)))
   refine⟨m',hm,i+1,σ8,_,S.unpinned,T.keep _ _ _ O λb a o e=>(ab b a o e).1,λb a=>?_,w9⟩
   obtain⟨o,e,d⟩:=T.obj _ _ O b a
   exact(ab b a o e).2.1
 exact codeAny_compStart_list F (T.self X.A 0 _ _ _ ad F)
theorem yx2 (own:Nat)(fr:List Nat)(N':List Str)(hc:X.calm=true)(hi:PI X tg iter wi)(hg:∀C s₃ H₃ fp,PG (o5 X N' scope C s₃ H₃ fp) tg (g C s₃ H₃ fp))(he:∀C s₃ H₃ fp,PE (o5 X N' scope C s₃ H₃ fp) elt (te C s₃ H₃ fp))
  (hok:M6 scope X.env.scope (N'.drop own)=true:=by rfl) (hfr:fr.map (λj=>X.N[j]?)=(N'.drop own).map some:=by rfl) (hown:own<=N'.length:=by decide) (hs:∀x,foldedSetIterable iter X.env x=pure x:=by intro _;rfl) :
  PE X (.ListComp elt [⟨tg,iter,[],0⟩] scope pos) (yn3 own fr wi g te):=by
 intro pins s σ H Q I h;rw[eval_ListComp];refine yh4 (use:=none) hc hi hg he (A4 hok) hfr hown hs I h λD C m H' s' I' hn sp q=>?_;refine⟨m,hn,λh' sb=>⟨.ref D,H',?_,rfl,q⟩⟩;exact I'.turned (t':=s'.toks) (λb o hb e=>(sb.2 b hb).trans e) sp.1 sp.2.1 (.inr sp.2.2.1) sp.2.2.2.1 sp.2.2.2.2
theorem ys3 {py spos:Pos}(own:Nat)(fr:List Nat)(N':List Str)(hN:X.N.Nodup)(hy:X.N[i]?=some y)(hl:X.env.scope.names.lookup y=some .local)(hc:X.calm=true)(hi:PI X tg iter wi)(hg:∀C s₃ H₃ fp,PG (o5 X N' scope C s₃ H₃ fp) tg (g C s₃ H₃ fp))(he:∀C s₃ H₃ fp,PE (o5 X N' scope C s₃ H₃ fp) elt (te C s₃ H₃ fp))
  (hsw:swapsWith (.ListComp elt [⟨tg,iter,[],0⟩] scope pos) (some (.Name y py)) spos.line X.env=pure true:=by rfl)
  (hok:M6 scope X.env.scope (N'.drop own)=true:=by rfl) (hfr:fr.map (λj=>X.N[j]?)=(N'.drop own).map some:=by rfl) (hown:own<=N'.length:=by decide) (hs:∀x,foldedSetIterable iter X.env x=pure x:=by intro _;rfl) :
  PS X (.Assign [.Name y py] (.ListComp elt [⟨tg,iter,[],0⟩] scope pos) spos) (yt8 (yn3 own fr wi g te) (h9 i)):=by
 intro pins s σ H D I h;rw[exec_Assign_Name_used _ _ _ _ hsw];refine fY (wpAny_standAt (fY ?_));show gg _ X.A (do let _ ←comprehension (.ListComp elt [⟨tg,iter,[],0⟩] scope pos) scope X.env _ (newList []) false (eval iter X.env) (some (assign (.Name y py) X.env))) _ _ s;refine fY (gu (yh4 (use:=some (assign (.Name y py) X.env)) (Q':=λ_ s'=>SP X pins D .next s') hc hi hg he (A4 hok) hfr hown hs I h λDl C m H' s' I' hn sp q=>?_) (λ_ s' hq=>gc (gc hq)) λ_ _ e=>e);show gg _ X.A (assign (.Name y py) X.env (.ref Dl)) _ _ _;refine wpAny_assign_Name (za5 (v:=.ref Dl) I' hN hy (.inl hl) rfl (λs2 I2 ⟨a,sb,ha⟩=>?_) (.inr hl));have hCa:C≠a:=by
  rcases ha with e|e
  .rw[e];exact sp.2.1
  .exact λz=>sp.2.2.2.1 y a e z.symm
 refine⟨m,hn.sameBut sb hCa,λh' sb'=>⟨_,H',?_,q⟩⟩;exact I2.turned (t':=s2.toks) (λb o hb e=>(sb'.2 b hb).trans e) sp.1 sp.2.1 (.inr sp.2.2.1) sp.2.2.2.1 sp.2.2.2.2
theorem b6 (fr:List Nat)(N':List Str)(hc:X.calm=true)(hi:PI X (.Name x px) iter wi)(he:∀C s₃ H₃ fp,PE (o5 X N' scope C s₃ H₃ fp) elt (te C s₃ H₃ fp))(hN:N'.Nodup:=by decide +kernel)(h0:N'[0]?=some x:=by rfl)(hx:scope.names.lookup x=some .local:=by rfl)
  (hok:M6 scope X.env.scope (N'.drop 1)=true:=by rfl) (hfr:fr.map (λj=>X.N[j]?)=(N'.drop 1).map some:=by rfl) (hown:1<=N'.length:=by decide) (hs:∀x,foldedSetIterable iter X.env x=pure x:=by intro _;rfl) :
  PE X (.ListComp elt [⟨.Name x px,iter,[],0⟩] scope pos) (yn3 1 fr wi (λ_ _ _ _=>h9 0) te) :=
 yx2 1 fr N' hc hi (λ_ _ _ _=>t9 hN h0 (.inl (lookup_relabel_local hx)) (.inr (lookup_relabel_local hx))) he hok hfr hown hs
theorem N8 {px py spos:Pos}(fr:List Nat)(N':List Str)(hNd:X.N.Nodup)(hy:X.N[i]?=some y)(hl:X.env.scope.names.lookup y=some .local)(hc:X.calm=true)(hi:PI X (.Name x px) iter wi)(he:∀C s₃ H₃ fp,PE (o5 X N' scope C s₃ H₃ fp) elt (te C s₃ H₃ fp))
  (hsw:swapsWith (.ListComp elt [⟨.Name x px,iter,[],0⟩] scope pos) (some (.Name y py)) spos.line X.env=pure true:=by rfl) (hN:N'.Nodup:=by decide +kernel) (h0:N'[0]?=some x:=by rfl) (hx:scope.names.lookup x=some .local:=by rfl)
  (hok:M6 scope X.env.scope (N'.drop 1)=true:=by rfl) (hfr:fr.map (λj=>X.N[j]?)=(N'.drop 1).map some:=by rfl) (hown:1<=N'.length:=by decide) (hs:∀x,foldedSetIterable iter X.env x=pure x:=by intro _;rfl) :
  PS X (.Assign [.Name y py] (.ListComp elt [⟨.Name x px,iter,[],0⟩] scope pos) spos) (yt8 (yn3 1 fr wi (λ_ _ _ _=>h9 0) te) (h9 i)) :=
 ys3 1 fr N' hNd hy hl hc hi (λ_ _ _ _=>t9 hN h0 (.inl (lookup_relabel_local hx)) (.inr (lookup_relabel_local hx))) he hsw hok hfr hown hs
end
end L2
namespace PySem
open Sem (wp)
section
variable {prog:gf}{w:gp}{A:gq}{E:Value->fZ->Prop}{s:fZ}
theorem zb4 {Q:List Value->fZ->Prop}{n:Nat}(y:A.handled=none)(hr:IsRange s.heap r a b c t u v)(g:Builtin.Range.small a b c=true)
  (z:Builtin.Range.rangeSize a b c=n) (k:n<=2 ^ 24)
  (x:∀h' tk acc,(∀b o,s.heap.get? b=some o->h'.get? b=some o)->ItemsOf (λi v=>∃t,v=.int (a+i*c) t) acc n->Q acc.toList { s with heap:=h',toks:=tk }) :
  gg (gn prog w) A (collect (.ref r)) Q E s:=by
 unfold collect;refine fY (wpAny_runValue (codeAny_builtin F.entry_proto_collect ?_));rw[Around.under_plainId F.plain_proto_collect _];show gg _ A.in1 (newList [] >>= λl=>again (.builtin "list.__iadd__" ⟨[l,.ref r],[]⟩)) _ _ s;refine fY (wpAny_newObj_type ?_);refine gc ⟨plainId_quiet F.plain_list_iadd _,codeAny_builtin F.entry_list_iadd ?_⟩;rw[Around.under_plainId F.plain_list_iadd _];show gg _ A.in1 (Builtin.List.listExtendWith (.ref s.heap.objs.size) (.ref r) (.ref s.heap.objs.size)) _ _ _;have key:∀(p:Result) (h:fZ),(p=.ok (.ret (.ref s.heap.objs.size))/\∃h' tk acc' c',h={ s with heap:=h',toks:=tk }/\(∀b o,s.heap.get? b=some o->h'.get? b=some o)/\h'.get? s.heap.objs.size=some { cls:=.type "list",dict:=none,data:=.seq acc' c',slots:=#[] }/\ItemsOf (λi v=>∃t,v=.int (a+i*c) t) acc' n) ->
   (match p with
    | .ok (.ret v)=>gg (gn prog w) A (match v with
      | .ref a=>do
       match (←load a).data with
       | .seq xs _=>pure xs.toList
       | _=>unsupported "internal:collect"
      | _=>unsupported "internal:collect") Q E h
    | .ok _=>False
    | .error e=>E e h):=by
  rintro p h ⟨rfl,h',tk,acc',c',rfl,q,j,d⟩;show gg _ A (load s.heap.objs.size >>= _) _ _ _;refine fY (wpAny_load j ?_);exact gc (x h' tk acc' q d)
 refine gu (wpAny_extend_range (s:={ s with heap:=s.heap.push { cls:=.type "list",data:=.seq ([]:List Value).toArray } }) (A:=A)
  (R:=λp h=>p=.ok (.ret (.ref s.heap.objs.size))/\∃h' tk acc' c',h={ s with heap:=h',toks:=tk }/\(∀b o,s.heap.get? b=some o->h'.get? b=some o)/\h'.get? s.heap.objs.size=some { cls:=.type "list",dict:=none,data:=.seq acc' c',slots:=#[] }/\ItemsOf (λi v=>∃t,v=.int (a+i*c) t) acc' n)
  y (ap _ hr) g z k s.heap.objs.size (.ref s.heap.objs.size) 0 (aC _ rfl) λh' tk acc' c' q j d=>⟨rfl,h',tk,acc',c',rfl,λb o e=>q b o (aX (aB e)) (ap _ e),j,d⟩) (λfin h m=>?_) λe h m=>key _ _ m
 cases fin with
 | done f=>exact key _ _ m
 | again c'=>exact⟨m.1,codeAny_mono m.2 λC D B=>key _ _ B⟩
open AutoSeq1 (wpAny_loadPart')
theorem D5 {n:Nat}(hsmall:Builtin.Range.small a b c=true)(hn:Builtin.Range.rangeSize a b c=n)(hlen:n<=2 ^ 24)(hsz:n<=ge) :
  Meets (Builtin.«tuple.__new__» ⟨[.type "tuple",.ref r],[]⟩)
   (λA R s=>A.handled=none/\IsRange s.heap r a b c t u v/\∀(h':Heap) (tk:Nat) (acc:Array Value),(∀b o,s.heap.get? b=some o->h'.get? b=some o)->ItemsOf (λi v=>∃t,v=.int (a+i*c) t) acc n ->
    R (.ok (.ret (.ref h'.objs.size))) { s with heap:=h'.push { cls:=.type "tuple",data:=.seq acc },toks:=tk }) :=
 .of_wp λprog w A R s h=>by
  obtain⟨hh,hr,h⟩:=h
  have hsub:=sub_tuple_self
  have hinit:=init_tuple_lookup
  have hmh:=madeHere_tuple
  have hT:s.TypeIs (.ref r) "range":=⟨_,hr,rfl⟩
  have hh1:A.in1.handled=none:=hh
  wp_walk using wpAny_typeOf hT,zb4 hh1 hr hsmall hn hlen
  intro h' tk acc hk hacc
  show gg _ _ (Builtin.Tuple.tupleExact acc.toList.toArray >>= λv=>ret v) _ _ _
  unfold Builtin.Tuple.tupleExact
  refine fY (wpAny_newObj_type ?_ (show acc.toList.toArray.size<=ge by simp only[Array.toArray_toList];rw[hacc.1];exact hsz))
  refine gc ⟨_,rfl,?_⟩
  have e:acc.toList.toArray=acc:=by simp
  rw[e]
  exact h h' tk acc hk hacc
theorem zi2 {Q:Value->fZ->Prop}{n:Nat}(hh:A.handled=none)(hr:IsRange s.heap r a b c t u v)(hsmall:Builtin.Range.small a b c=true)
  (hn:Builtin.Range.rangeSize a b c=n) (hlen:n<=2 ^ 24) (hsz:n<=ge)
  (h:∀(h':Heap) (tk:Nat) (acc:Array Value),(∀b o,s.heap.get? b=some o->h'.get? b=some o)->ItemsOf (λi v=>∃t,v=.int (a+i*c) t) acc n->Q (.ref h'.objs.size) { s with heap:=h'.push { cls:=.type "tuple",data:=.seq acc },toks:=tk }) :
  gg (gn prog w) A (call (.type "tuple") [.ref r]) Q E s :=
 callType_new F.called_tuple (by decide) (F.typeCall_tuple_1 _) (F.newCall_tuple_1 _) (λobj=>F.args_object_init_2 obj _) F.entry_tuple_new
  (D5 hsmall hn hlen hsz) ⟨hh,hr,λh' tk acc hk hacc=>⟨⟨_,aC _ rfl,rfl⟩,h h' tk acc hk hacc⟩⟩
end
end PySem
namespace L2
open PySem PySem.Spec PyProof.Rows
theorem zc0:∀{xs:List V} {us:List Value},xs.length=us.length->(∀(i:Nat) x u,xs[i]?=some x->us[i]?=some u->p8 x u)->r8 xs us
 | [],[],_,_=>.nil
 | [],_::_,h,_=>by cases h
 | _::_,[],h,_=>by cases h
 | x::xs,u::us,h,r=>.cons (r 0 x u rfl rfl) (zc0 (by simpa using h) λi y w e1 e2=>r (i+1) y w (by simpa using e1) (by simpa using e2))
def V6 (lo:Int)(n:Nat):List V:=(List.range n).map λi=>V.int (lo+(i:Nat))
theorem T5 (lo:Int)(n:Nat):(V6 lo n).length=n:=by unfold V6;rw[ae,aU]
theorem zv8 {a:Array Value}{lo:Int}(h:ItemsOf (λi v=>∃t,v=.int (lo+i*1) t) a n):r8 (V6 lo n) a.toList:=by
 obtain⟨h1,h2⟩:=h;refine zc0 (by rw[T5,aP,h1]) λi x u b c=>?_;have hi:i<n:=by
  have:=(ag.mp b).1;rwa [T5]at this
 obtain⟨t,rfl⟩:=h2 i u (by simpa using c);unfold V6 at b;rw[al,aZ hi]at b
 cases b
 exact⟨t,by rw[Int.mul_one]⟩
section
variable {X:Cx}
theorem L5:V1 X (.type "range") (λxs H Q=>∃j,xs=[.int j]/\∀p,H p=none->Q (.ref p) (upd H p (.rng 0 j))):=by
 intro pins s σ H xs a Q I r h;obtain⟨j,rfl,q⟩:=h;obtain⟨u,rfl,t,rfl⟩:=K6 r;exact call_range_1 ⟨.ref s.heap.objs.size,_,I.laid (λb o e=>ap _ e) (af _) (show n6 X.prog X.w _ _ _ (.rng 0 j) from⟨_,_,_,aC _ rfl⟩),rfl,q _ (I.hok.fresh (af _))⟩
def xf7 (lo hi:Int):Prop:=-(2 ^ 62)<=lo/\lo<2 ^ 62/\-(2 ^ 62)<=hi/\hi<2 ^ 62/\(hi-lo).toNat<=1000000
theorem E8:1000000<=ge:=by decide
theorem M5 (hc:X.calm=true):V1 X (.type "list") (λxs H Q=>∃p lo hi,xs=[.ref p]/\H p=some (.rng lo hi)/\xf7 lo hi/\∀l,H l=none->Q (.ref l) (upd H l (.lst (V6 lo (hi-lo).toNat)))):=by
 intro pins s σ H xs x Q I r h;obtain⟨p,lo,hi,rfl,d,⟨s1,g,i,j,o⟩,q⟩:=h;obtain⟨u,rfl,f⟩:=K6 r
 cases f
 obtain⟨t,u,v,hr⟩:=I.hok p _ d;have m:=E8;refine call_list_range (n:=(hi-lo).toNat) (I.ok.hd hc) hr (small_one s1 g i j) (by rw[rangeSize_one];split <;> lia) (by lia) λh' k a c e hS b=>?_;refine⟨.ref s.heap.objs.size,_,I.laid (t':=k) e (af _) (show n6 X.prog X.w _ h' _ (.lst (V6 lo (hi-lo).toNat)) from⟨by rw[T5];lia,a.toList,c,zv8 b,by simpa using hS⟩),rfl,q _ (I.hok.fresh (af _))⟩
theorem C1 (hc:X.calm=true):V1 X (.type "tuple") (λxs H Q=>∃p lo hi,xs=[.ref p]/\H p=some (.rng lo hi)/\xf7 lo hi/\∀l,H l=none->Q (.ref l) (upd H l (.tup (V6 lo (hi-lo).toNat)))):=by
 intro pins s σ H xs z Q I r h;obtain⟨p,lo,hi,rfl,f,⟨s1,j,k,m,y⟩,q⟩:=h;obtain⟨u,rfl,i⟩:=K6 r
 cases i
 obtain⟨t,u,v,hr⟩:=I.hok p _ f;have x:=E8;refine zi2 (n:=(hi-lo).toNat) (I.ok.hd hc) hr (small_one s1 j k m) (by rw[rangeSize_one];split <;> lia) (by lia) (by lia) λh' tk acc g a=>?_;have c:Inv X pins σ H { s with heap:=h',toks:=tk }:=I.kept g;have d:Inv X pins σ (upd H h'.objs.size (.tup (V6 lo (hi-lo).toNat))) { s with heap:=h'.push { cls:=.type "tuple",data:=.seq acc },toks:=tk } :=
  c.laid (t':=tk) (λb o e=>ap _ e) (af _) (show n6 X.prog X.w _ _ _ (.tup (V6 lo (hi-lo).toNat)) from⟨by rw[T5];lia,acc.toList,zv8 a,by simpa using yb3.new h' acc⟩)
 exact⟨.ref h'.objs.size,_,d,rfl,q _ (c.hok.fresh (af _))⟩
def Itd (lo:Int)(n:Nat):It:=⟨λi _=>i<n,λi H x H'=>H'=H/\x=.int (lo-i),λi _=>n<=i⟩
theorem yn9 {P:gf}{w:gp}{K:PySem.W.Frag}{tg:Expr}(it:Addr)(lo:Int)(n:Nat):yg6 P w K tg (Itd lo n) [it] it (λi h=>IsRangeIter h it (lo+(i:Nat)*(-1)) ((n:Int)-(i:Nat)) (-1)) where
 mem:=by simp
 obj:=λi h st b a=>by
  have e:b=it:=by simpa using a
  subst e
  exact⟨_,st,λv z=>by
   have F:Data.fields _=Data.cell v:=z
   cases F⟩
 keep:=λi h h' st k=>k it (by simp) _ st
 item:=by
  intro X q x p r i pins s σ H E I d st u
  subst q x p
  obtain⟨f,g,B,j,l,m⟩:=d it (by simp)
  have W:=Walks.range (prog:=X.prog) (w:=X.w) (I.ok.hd r) it lo (-1) n
  refine W.item i s _ _ u st λv h' tk C c D=>?_
  obtain⟨t,rfl⟩:=C
  have y:Inv X pins σ H { s with heap:=h',toks:=tk }:=I.turned (λb o a e=>D b o (by simpa using a) e) f g j l m
  refine⟨_,rfl,yi3 (s:={ s with heap:=h',toks:=tk }) (n:="range_iterator") c rfl rfl (by decide) ⟨.int (lo-i),H,y,⟨t,?_⟩,⟨rfl,rfl⟩,c,λb a=>(d b a).1⟩⟩
  rw[show lo+(i:Int)*(-1)=lo-i by lia]
 done:=by
  intro X q x p r i pins s σ H E I d st u
  subst q x p
  obtain⟨f,g,B,j,l,m⟩:=d it (by simp)
  exact wpAny_pyNext_range_end (I.ok.hd r) st (by have:n<=i:=u;lia) λh' A=>⟨rfl,I.turned (t':=s.toks) (λb o a e=>A b o a e) f g j l m⟩
 self:=λ_ _ _ _ _ st h=>wpAny_pyIter_rangeiter st h
theorem zg6 (a b:Int):Builtin.Range.rangeSize a b (-1)=((a-b).toNat:Int):=by
 unfold Builtin.Range.rangeSize;simp only[show ¬((-1:Int) > 0) by decide,if_false,show(-(-1):Int)=1 from rfl,Int.ediv_one]
 split <;> lia
theorem xn6 (e:-(2 ^ 62)<=a)(c:a<2 ^ 62)(f:-(2 ^ 62)<=b)(d:b<2 ^ 62):Builtin.Range.small a b (-1)=true:=by
 unfold Builtin.Range.small;rw[zg6];simp only[Builtin.Range.rangeFitsLong,bn,fP,decide_eq_true_eq,beq_iff_eq,show ¬((-1:Int) > 0) by decide,if_false];lia
def wd7 (ta:TA):TI:=λσ H R=>ta σ H λvs H1=>∃i j:Int,vs=[.int i,.int j,.int (-1)]/\(-(2 ^ 62)<=i/\i<2 ^ 62/\-(2 ^ 62)<=j/\j<2 ^ 62)/\R (Itd i (i-j).toNat) H1
theorem xd6 {σ:St}{s:fZ}{R:It->Hp->Prop}{E:Value->fZ->Prop}{lo hi:Int}{t u v:Tok}{c:Nat}(I:Inv X pins σ H s)(h1:-(2 ^ 62)<=lo)(h2:lo<2 ^ 62)(g:-(2 ^ 62)<=hi)(h:hi<2 ^ 62)
  (q:R (Itd lo (lo-hi).toNat) H):gg (gn X.prog X.w) X.A (pyIter (.ref s.heap.objs.size)) (PIE X pins σ tg R) E { s with heap:=s.heap.push { cls:=.type "range",data:=.fields #[.int lo t,.int hi u,.int (-1) v] },toks:=c }:=by
 refine wpAny_pyIter_range (IsRange.new ..) (xn6 h1 h2 g h) ?_;have a:Inv X pins σ H { s with heap:=s.heap.push { cls:=.type "range",data:=.fields #[.int lo t,.int hi u,.int (-1) v] },toks:=c }:=I.kept λb o e=>ap _ e;refine⟨(s.heap.push { cls:=.type "range",data:=.fields #[.int lo t,.int hi u,.int (-1) v] }).objs.size,[(s.heap.push { cls:=.type "range",data:=.fields #[.int lo t,.int hi u,.int (-1) v] }).objs.size],_,_,H,rfl,
  a.kept (t':=c) λb o e=>ap _ e,yn9 _ lo (lo-hi).toNat,?_,λb i=>?_,q⟩
 .have d:lo+((0:Nat):Int)*(-1)=lo:=by simp
  have f:(((lo-hi).toNat:Nat):Int)-((0:Nat):Int)=Builtin.Range.rangeSize lo hi (-1):=by rw[zg6];lia
  show IsRangeIter _ _ (lo+((0:Nat):Int)*(-1)) ((((lo-hi).toNat:Nat):Int)-((0:Nat):Int)) (-1);rw[d,f];exact aC _ rfl
 .have e:b=(s.heap.push { cls:=.type "range",data:=.fields #[.int lo t,.int hi u,.int (-1) v] }).objs.size:=by simpa using i
  subst e;exact a.fpOk (af _) (a.hok.fresh (af _))
theorem xd2 {tg a b c:Expr}{p pos:Pos}(hg:Gl X "range")(hm:X.mg "range"=none)(ha:PA X [a,b,c] ta)(hs:gh [a,b,c] X.env=[(false,eval a X.env),(false,eval b X.env),(false,eval c X.env)]:=by rfl)
  (hs2:gh [b,c] X.env=[(false,eval b X.env),(false,eval c X.env)]:=by rfl):PI X tg (.Call (.Name "range" p) [a,b,c] [] pos) (wd7 ta):=by
 intro pins s σ H R I h;refine Call_ (J4 I hg hm boot_range (PyProof.Rows.callWith_type1 (thn (ha pos pins s σ H _ I h) λus s1 ⟨vs,H1,I1,r1,q1⟩=>?_) (by rw[hs,hs2]) (by rw[hs2];rfl)));obtain⟨i,j,e,⟨q1,q2,q3,q4⟩,q⟩:=q1;subst e
 cases r1 with
 | cons r rr =>
  cases rr with
  | cons r' rr =>
   cases rr with
   | cons r'' rr =>
    cases rr
    obtain⟨t,rfl⟩:=r;obtain⟨t',rfl⟩:=r';obtain⟨t'',rfl⟩:=r'';exact call_range_3 (by decide) (xd6 I1 q1 q2 q3 q4 q) (Or.inl (PyProof.noPylong_small (by lia)))
theorem yp8 {lo:Int}{g:TG}{tb:TS}{D:zc1}{H:Hp}(a:Nat->St->Hp->Prop)(d:a 0 σ H)
  (h:∀i σ H,i<n->a i σ H->g (.int (lo-i)) σ H λσ2 H2=>tb { D with nx:=a (i+1),ct:=a (i+1),bk:=D.nx } σ2 H2) (f:∀σ H,a n σ H->D.nx σ H) :
  ∃W:Nat->Nat->St->Hp->Prop,(∃m,W 0 m σ H)/\∀i m σ H,W i m σ H ->
   ((Itd lo n).stop i H/\D.nx σ H)∨((Itd lo n).go i H/\∃N:St->Hp->Prop,(∀c H',N c H'->∃m',m'<m/\W (i+1) m' c H')/\∀x H',(Itd lo n).yld i H x H'->g x σ H' λσ2 H2=>tb { D with nx:=N,ct:=N,bk:=D.nx } σ2 H2):=by
 refine⟨λi m σ H=>m=n-i/\i<=n/\a i σ H,⟨n,by simp,aG _,d⟩,?_⟩;rintro i m σ H ⟨rfl,hi,p⟩;by_cases b:i<n
 .refine .inr ⟨b,a (i+1),λc H' j=>⟨n-(i+1),by lia,rfl,b,j⟩,λx H' y=>?_⟩;obtain⟨e,y⟩:=y;subst e y;exact h i σ _ b p
 .have e:i=n:=by lia
  subst e;exact .inl ⟨af _,f σ H p⟩
theorem Y9:V1 X (.builtin "isinstance") (λxs H Q=>∃x t c b,xs=[x,.ty c]/\D4 X.K H x t/\W.kitOne X.K t (.type c)=some b/\Q (.bl b) H):=by
 intro pins s σ H xs i Q I r h;obtain⟨x,t,c,b,rfl,ty,e,q⟩:=h;obtain⟨u,g,rfl,d,a⟩:=yo3 r
 cases (show g=Value.type c from a)
 exact xb7 I d ty e λf=>⟨.bl b,H,I.tok f,rfl,q⟩
theorem L6 {J:It}{fr:List Nat}{te:CT TE}{Q:Addr->Hp->Prop}(ys:List V)(A:ys.length=n)(hz:n<=ge)
  (c:∀H,y4 H1 H->J.stop n H) (s:∀i H,i<n->y4 H1 H->J.go i H)
  (l:∀i H x H2,i<n->y4 H1 H->J.yld i H x H2->H2=H/\∀f k g fp,te f k g fp (some x::fr.map λj=>(σ[j]?).getD none) H λy d=>y4 H d/\ys[i]?=some y)
  (fin:∀D H,H1 D=none->y4 H1 H->H D=some (.lst ys)->Q D H) :
  ∀D,H1 D=none->∃W:Nat->Nat->St->Hp->Prop,(∃m,W 0 m (X2 1 fr σ) (upd H1 D (.lst [])))/\∀i m p H',W i m p H' ->
  (J.stop i H'/\Q D H')∨(J.go i H'/\∀x H2,J.yld i H' x H2->∀f k g fp,h9 0 x p H2 λσ3 H3=>∃N:VK,te f k g fp σ3 H3 N/\∀y d,N y d ->
   ∃ys m',d D=some (.lst ys)/\ys.length<ge/\m'<m/\W (i+1) m' σ3 (upd d D (.lst (ys++[y])))):=by
 intro D r
 have s0:∀o,y4 H1 (upd H1 D o):=λo b u e=>by rw[z6 (z9 e r)];exact e
 refine⟨λi m p H'=>m=n-i/\i<=n/\y4 H1 H'/\H' D=some (.lst (ys.take i))/\∃z,p=z::fr.map λj=>(σ[j]?).getD none,⟨n,rfl,aG _,s0 _,by rw[z4];rfl,none,rfl⟩,?_⟩
 rintro i m p H' ⟨rfl,hi,h,t,z,rfl⟩
 by_cases a:i<n
 .refine .inr ⟨s i H' a h,λx H2 y f k g fp=>?_⟩
  obtain⟨e,q⟩:=l i H' x H2 a h y
  subst e
  refine⟨_,q f k g fp,λy d ⟨v,w⟩=>⟨ys.take i,n-(i+1),v _ _ t,?_,by lia,rfl,a,?_,?_,_,rfl⟩⟩
  .rw[aK];lia
  .intro b u e
   rw[z6 (z9 e r)]
   exact v _ _ (h _ _ e)
  .rw[z4,aT,w]
   rfl
 .have e:i=n:=by lia
  subst e
  refine .inl ⟨c H' h,fin D H' r h ?_⟩
  rw[t,aV (by lia)]
theorem y4.seqT {K:W.Frag}(e:y4 H H')(h:SqT K H a xs):SqT K H' a xs:=by
 rcases h with (h|⟨o,h⟩)|h
 .exact .inl (.inl (e _ _ h))
 .exact .inl (.inr ⟨o,e _ _ h⟩)
 .exact .inr h
theorem L7 {K:PySem.W.Frag}{xs:List V}{fr:List Nat}{te:CT TE}{Q:Addr->Hp->Prop}(hS:SqT K H1 a xs)(ys:List V)(hn:ys.length=xs.length)(hz:xs.length<=ge)
  (turn:∀(i:Nat) H x,xs[i]?=some x->y4 H1 H->∀C₀ s₀ H₀ fp,te C₀ s₀ H₀ fp (some x::fr.map λj=>(σ[j]?).getD none) H λy H4=>y4 H H4/\ys[i]?=some y)
  (fin:∀D H,H1 D=none->y4 H1 H->H D=some (.lst ys)->Q D H) :
  ∀D,H1 D=none->∃W:Nat->Nat->St->Hp->Prop,(∃m,W 0 m (X2 1 fr σ) (upd H1 D (.lst [])))/\∀i m σ' H',W i m σ' H' ->
  ((Itt K a).stop i H'/\Q D H')∨((Itt K a).go i H'/\∀x H2,(Itt K a).yld i H' x H2->∀C₀ s₀ H₀ fp,h9 0 x σ' H2 λσ3 H3=>∃N:VK,te C₀ s₀ H₀ fp σ3 H3 N/\∀y H4,N y H4 ->
   ∃ys m',H4 D=some (.lst ys)/\ys.length<ge/\m'<m/\W (i+1) m' σ3 (upd H4 D (.lst (ys++[y])))) :=
 L6 ys hn hz (λH s=>⟨xs,s.seqT hS,af _⟩) (λi H hi s=>⟨xs,xs[i],s.seqT hS,by simp[hi]⟩) (λi H x H2 hi s y=>⟨y.1,turn i H x (y.2 xs (s.seqT hS)) s⟩) fin
theorem zi4 {K:PySem.W.Frag}{xs:List V}{fr:List Nat}{te:CT TE}{Q:Addr->Hp->Prop}(hS:SqL K H1 a xs)(ys:List V)(hn:ys.length=xs.length)(hz:xs.length<=ge)
  (turn:∀(i:Nat) H x,xs[i]?=some x->y4 H1 H->∀C₀ s₀ H₀ fp,te C₀ s₀ H₀ fp (some x::fr.map λj=>(σ[j]?).getD none) H λy H4=>y4 H H4/\ys[i]?=some y)
  (fin:∀D H,H1 D=none->y4 H1 H->H D=some (.lst ys)->Q D H) :
  ∀D,H1 D=none->∃W:Nat->Nat->St->Hp->Prop,(∃m,W 0 m (X2 1 fr σ) (upd H1 D (.lst [])))/\∀i m σ' H',W i m σ' H' ->
  ((Itl K a).stop i H'/\Q D H')∨((Itl K a).go i H'/\∀x H2,(Itl K a).yld i H' x H2->∀C₀ s₀ H₀ fp,h9 0 x σ' H2 λσ3 H3=>∃N:VK,te C₀ s₀ H₀ fp σ3 H3 N/\∀y H4,N y H4 ->
   ∃ys m',H4 D=some (.lst ys)/\ys.length<ge/\m'<m/\W (i+1) m' σ3 (upd H4 D (.lst (ys++[y])))) :=
 L6 ys hn hz (λH s=>⟨xs,s.seq hS,af _⟩) (λi H hi s=>⟨xs,xs[i],s.seq hS,by simp[hi]⟩) (λi H x H2 hi s y=>⟨y.1,turn i H x (y.2 xs (s.seq hS)) s⟩) fin
end
end L2
namespace PySem
open Sem (wp)
open AutoSeq1 (wpAny_loadPart')
section
variable {prog:gf}{w:gp}{A:gq}{E:Value->fZ->Prop}{s:fZ}
theorem K8 {items}{Q:Value->fZ->Prop}(hit:s.heap.IsTupleIter it t i)(g:s.heap.IsTuple t items)(h:items[i]?=some x)
  (e:∀h',h'.IsTupleIter it t (i+1)->Heap.SameBut it s.heap h'->Q x { s with heap:=h' }):gg (gn prog w) A (Builtin.SmallTypes.nextOf (.ref it)) Q E s:=by
 obtain⟨o,b,f,a⟩:=id hit;obtain⟨k,d,_,j,c⟩:=g;unfold Builtin.SmallTypes.nextOf;refine fY (wpAny_callSpecial?_slot (name:=Str.ofString "__next__") hit.typeIs F.slot_tuple_iterator_next
  (wpAny_call_entry F.slot_tuple_iterator_next hit.typeIs F.entry_tuple_iterator_next ?_ (F.args_tuple_iterator_next_1 _)))
 show gg _ _ (field (.ref it) 0 >>= _) _ _ s;refine fY (wpAny_field b a (x:=.ref t) rfl ?_);show gg _ _ (if (Value.ref t==Value.none)=true then _ else _) _ _ s;rw[if_neg (show ¬((Value.ref t==Value.none)=true) from aA)];show gg _ _ (field (.ref it) 1 >>= _) _ _ s;refine fY (wpAny_field b a (x:=.int i 0) rfl ?_);show gg _ _ (seqItems? (.ref t) >>= _) _ _ s;refine fY (wpAny_seqItems d c ?_);simp only[bG,h];refine fY (wpAny_setField b a (by simp) (gc ⟨x,rfl,gc (e _ ?_ (Heap.SameBut.update ..))⟩));exact⟨_,Heap.get?_update_self _ b (Obj.isFreed_of_fields (Obj.data_mapFields a _)),(Obj.cls_mapFields ..).trans f,by
  rw[Obj.data_mapFields a];simp[rawInt]⟩
theorem U4 {items}{Q:Value->fZ->Prop}(g:A.handled=none)
  (hit:s.heap.IsTupleIter it t i) (j:s.heap.IsTuple t items) (k:items[i]?=none)
  (h:∀h' e,Heap.ExtBut it s.heap h'->(∃o,h'.get? e=some o/\o.cls=.type "StopIteration")->E (.ref e) { s with heap:=h' }) :
  gg (gn prog w) A (Builtin.SmallTypes.nextOf (.ref it)) Q E s:=by
 obtain⟨o,d,l,b⟩:=id hit;obtain⟨p,f,_,n,c⟩:=j;unfold Builtin.SmallTypes.nextOf;refine fY (wpAny_callSpecial?_slot (name:=Str.ofString "__next__") hit.typeIs F.slot_tuple_iterator_next
  (wpAny_call_entry F.slot_tuple_iterator_next hit.typeIs F.entry_tuple_iterator_next ?_ (F.args_tuple_iterator_next_1 _)))
 show gg _ _ (field (.ref it) 0 >>= _) _ _ s;refine fY (wpAny_field d b (x:=.ref t) rfl ?_);show gg _ _ (if (Value.ref t==Value.none)=true then _ else _) _ _ s;rw[if_neg (show ¬((Value.ref t==Value.none)=true) from aA)];show gg _ _ (field (.ref it) 1 >>= _) _ _ s;refine fY (wpAny_field d b (x:=.int i 0) rfl ?_);show gg _ _ (seqItems? (.ref t) >>= _) _ _ s;refine fY (wpAny_seqItems f c ?_);simp only[bG,k];refine fY (wpAny_rule (fY (wpAny_setField d b (by simp) ?_)));show gg _ _ (newExc (.type "StopIteration") [] >>= _) _ _ _;refine fY ?_;simp only[newExc,newTuple];refine fY (wpAny_newObj_type ?_ (by size_fits));refine fY (m:=firstArgMember _ _) (wpAny_of_eq (a:=Value.none) (by first|rfl|(simp only[firstArgMember];rfl)) ?_);refine wpAny_newObj_type ?_ (by size_fits);simp only[raiseNew];refine fY (wpAny_handled ?_)
 first|rw[show A.in1.handled=none from g]|rw[g]
 refine fY (gc (wpAny_throw ?_));exact h _ _ (((Heap.SameBut.update ..).extBut.push _).push _) ⟨_,aC _ rfl,rfl⟩
end
theorem Draws.tuple {A:gq}(hh:A.handled=none)(it l:Addr)(hne:l≠it)(items:Array Value) :
  Draws prog w A it [it,l] items.size (λi v=>items[i]?=some v) (λi h=>h.IsTupleIter it l i/\h.IsTuple l items) where
 live:=λ_ _ st=>let ⟨o,ho,_⟩:=st.1;⟨o,ho⟩
 frame:=λ_ _ _ st hk=>⟨st.1.at λo e=>hk it (by simp) o e,let ⟨o,ho,r⟩:=st.2;⟨o,hk l (by simp) o ho,r⟩⟩
 item:=λi s Q E hi st hQ=>by
  refine K8 st.1 st.2 (x:=items[i]) (by simp[hi]) λh' hit' hs'=>?_
  exact hQ _ h' s.toks (by simp[hi]) ⟨hit',st.2.extBut hs'.extBut hne⟩ hs'
 done:=λs Q E st hE=>U4 hh st.1 st.2 (by simp) hE
theorem C7 (l:Addr)(items:Array Value)(n:Nat)(dct:Option Addr)(sl:Array (Option Value)) :
  Meets (Builtin.«enumerate.__new__» ⟨[.type "enumerate",.ref l],[]⟩) (λ_ R s=>s.heap.get? l=some { cls:=.type "tuple",dict:=dct,data:=.seq items n,slots:=sl } /\
   R (.ok (.ret (.ref (s.heap.push { cls:=.type "tuple_iterator",data:=.fields #[.ref l,.int 0 0] }).objs.size)))
    {s with heap:=(s.heap.push { cls:=.type "tuple_iterator",data:=.fields #[.ref l,.int 0 0] }).push { cls:=.type "enumerate",data:=.fields #[.none,.bool false,.ref s.heap.objs.size,rawInt 0,.none,.none] } }) :=
 .of_wp λprog w A R s h=>by
  obtain⟨hp,g,d,tk,os⟩:=s;obtain⟨hl,h⟩:=h
  have hsub:=sub_enumerate
  have hL:Heap.IsTuple (Shared.heap ⟨hp,g,d,tk,os⟩) l items:=⟨_,hl,rfl,n,rfl⟩
  wp_walk using wpAny_loadPart' hl
  refine wpAny_stack_any λst=>gc ?_
  split
  .rename_i c _ _ _ _ _
   cases (c==Value.type "enumerate")
   .wp_walk using wpAny_loadPart' hl,wpAny_pyIter_tuple hL
    exact⟨_,rfl,h⟩
   .wp_walk using wpAny_loadPart' hl,wpAny_pyIter_tuple hL
    exact⟨_,rfl,h⟩
  .wp_walk using wpAny_loadPart' hl,wpAny_pyIter_tuple hL
   exact⟨_,rfl,h⟩
section
variable {prog:gf}{w:gp}{A:gq}{E:Value->fZ->Prop}{s:fZ}
theorem D9 {Q:Value->fZ->Prop}(i:s.heap.IsTuple l items)
  (h:∀h',IsEnum h' (s.heap.objs.size+1) s.heap.objs.size 0 .none->h'.IsTupleIter s.heap.objs.size l 0->h'.objs.size=s.heap.objs.size+2 ->
   (∀b o,s.heap.get? b=some o->h'.get? b=some o)->Q (.ref (s.heap.objs.size+1)) { s with heap:=h' }) :
  gg (gn prog w) A (call (.type "enumerate") [.ref l]) Q E s:=by
 obtain⟨⟨c,a,dt,sl⟩,j,d,n,e⟩:=i;replace d:c=.type "tuple":=d;replace e:dt=.seq items n:=e;subst d e;refine callType_new F.called_enumerate (by decide) (F.typeCall_enumerate_1 _) (F.newCall_enumerate_1 _) (λobj=>F.args_object_init_2 obj _) F.entry_enumerate_new
  (C7 l items n a sl) ⟨j,?_⟩
 have f:(s.heap.push { cls:=.type "tuple_iterator",data:=.fields #[.ref l,.int 0 0] }).objs.size=s.heap.objs.size+1:=cV ..;show _/\_;rw[f];have g:IsEnum ((s.heap.push { cls:=.type "tuple_iterator",data:=.fields #[.ref l,.int 0 0] }).push
   {cls:=.type "enumerate",data:=.fields #[.none,.bool false,.ref s.heap.objs.size,rawInt 0,.none,.none] }) (s.heap.objs.size+1) s.heap.objs.size 0 .none:=by
  have:=aC (s.heap.push { cls:=.type "tuple_iterator",data:=.fields #[.ref l,.int 0 0] })
   (o:={ cls:=.type "enumerate",data:=.fields #[.none,.bool false,.ref s.heap.objs.size,rawInt 0,.none,.none] }) rfl
  rw[f]at this;exact this
 refine⟨⟨_,g,rfl⟩,h _ g ⟨_,ap _ (aC _ rfl),rfl,rfl⟩ (by rw[cV,f]) λb o x=>ap _ (ap _ x)⟩
end
end PySem
namespace L2
open PySem PySem.Spec PyProof.Rows
section
variable {X:Cx}
theorem Inv.pair {σ:St}{s:fZ}{h':Heap}{xs:List V}{its:List Value}(I:Inv X pins σ H s)(g:zc2 X pins H e)(h:zc2 X pins H it)
  (k:∀b o,b≠e->b≠it->s.heap.get? b=some o->h'.get? b=some o) (hT:yb3 h' s.heap.objs.size its.toArray) (x:r8 xs its) (hz:xs.length<=ge) :
  Inv X pins σ (upd H s.heap.objs.size (.tup xs)) { s with heap:=h',toks:=t' }:=by
 have i:zc2 X pins H s.heap.objs.size:=I.fpOk (af _) (I.hok.fresh (af _));have f:∀b o,H b=some o->b≠s.heap.objs.size:=λb o q z=>by rw[z,i.1]at q;cases q
 have j:∀b o,H b=some o->b≠e:=λb o q z=>by rw[z,g.1]at q;cases q
 have l:∀b o,H b=some o->b≠it:=λb o q z=>by rw[z,h.1]at q;cases q
 have ok:∀b∈[e,it,s.heap.objs.size],zc2 X pins H b:=λb a=>by
  simp only[ax,aY,or_false]at a;rcases a with rfl|rfl|rfl
  .exact g
  .exact h
  .exact i
 have out:∀b,b∉[e,it,s.heap.objs.size]->b≠e/\b≠it/\b≠s.heap.objs.size:=λb a=>by
  simp only[ax,aY,or_false,not_or]at a;exact a
 refine I.step (g':=s.gens) (d':=s.drawn) (ch:=[e,it,s.heap.objs.size]) (λb a=>⟨(ok b a).2.2.2.1,(ok b a).2.1,(ok b a).2.2.2.2.1,(ok b a).2.2.2.2.2⟩)
  (λb o _ _ d q _=>k b o (out b d).1 (out b d).2.1 q) (λb o _ _ d q _=>⟨o.slots,k b o (out b d).1 (out b d).2.1 q⟩) (λb o d q n=>by rw[z6 (out b d).2.2];exact n)
  (λb o d q=>⟨o,k b o (out b d).1 (out b d).2.1 q⟩) (λb ys q=>by rw[z6 (f b _ q)];exact q) (λb o u q=>by rw[z6 (f b _ q)];exact q) (λb ps q=>⟨#[],by rw[z6 (f b _ q),q];simp⟩)
  (λm t=>?_) (λb u q=>?_) I.bare
 .obtain⟨o,es,p,w,r⟩:=t;exact⟨o,es,p,k _ o (Ne.symm g.2.1) (Ne.symm h.2.1) w,r⟩
 .by_cases a:b=s.heap.objs.size
  .subst a;rw[z4]at q
   cases q
   exact⟨hz,its,x,hT⟩
  .rw[z6 a]at q;refine(I.hok b u q).stay (λc v d z=>k c v ?_ ?_ z) (λc z=>by rw[z6 (f c _ z)];exact z) λc ys z=>by rw[z6 (f c _ z)];exact z
   .rcases d with z|z
    .rw[z];exact j b u q
    .exact j c _ z
   .rcases d with z|z
    .rw[z];exact l b u q
    .exact l c _ z
def Ite (Sq:Hp->List V->Prop):It :=
 ⟨λi H=>∃xs x,Sq H xs/\xs[i]?=some x,λi H x H'=>∃T v,H T=none/\x=.ref T/\H'=upd H T (.tup [.int (i:Nat),v])/\∀xs,Sq H xs->xs[i]?=some v,λi H=>∃xs,Sq H xs/\xs.length<=i⟩
theorem yu3 {P:gf}{w:gp}{K:W.Frag}{D:List Expr}{x1:Nat}{tp:Pos}(a e it:Addr)(t:e≠it):yg6 P w K (.Tuple D x1 tp) (Ite λH xs=>SqT K H a xs) [e,it] e (λi h=>(∃g,IsEnum h e it i g)/\h.IsTupleIter it a i) where
 mem:=by simp
 obj:=λi h st b j=>by
  obtain⟨⟨g,f⟩,o,B,c,d⟩:=st
  rcases ax.mp j with z|z
  .subst z
   exact⟨_,f,λv q=>by have q':Data.fields _=Data.cell v:=q;cases q'⟩
  .have z':b=it:=by simpa using z
   subst z'
   exact⟨o,B,λv q=>by rw[d]at q;cases q⟩
 keep:=λi h h' st k=>⟨let ⟨g,f⟩:=st.1;⟨g,k e (by simp) _ f⟩,st.2.at λo q=>k it (by simp) o q⟩
 item:=by
  intro X C hw O S i pins s σ H E I L st Y
  subst C hw O
  obtain⟨xs,x,N,hx⟩:=Y
  obtain⟨its,rv,p,hz⟩:=I.tuple N
  obtain⟨u,hu,ru⟩:=rv.get hx
  obtain⟨⟨g,f⟩,hit⟩:=st
  have G:=L e (by simp)
  have n:=L it (by simp)
  have Z:i<its.toArray.size:=by
   have:=(ag.mp hu).1
   simpa using this
  obtain⟨oa,l,r,na,al⟩:=id p
  have R:a≠it:=λz=>by
   obtain⟨o,B,c,d⟩:=id hit
   rw[z,B]at l
   cases l
   rw[c]at r
   exact absurd r (by decide)
  have Q:e∉[it,a]:=by
   intro z
   simp only[ax,aY,or_false]at z
   rcases z with z|z
   .exact t z
   .rw[←z,f]at l
    cases l
    exact absurd (show Value.type "enumerate"=Value.type "tuple" from r) (by decide)
  refine wpAny_pyNext_enum_itemD (Draws.tuple (A:=X.A.in1) (I.ok.hd S) it a R its.toArray) f ⟨hit,p⟩ Z t Q λy h' tk C B aa hT am kk=>?_
  obtain rfl:y=u:=by
   have:its.toArray[i]?=some u:=by simpa using hu
   rw[this]at C
   exact(Option.some.inj C).symm
  have I1:Inv X pins σ (upd H s.heap.objs.size (.tup [.int (i:Nat),x])) { s with heap:=h',toks:=tk+1 }:=I.pair (its:=[.int i tk,y]) G n kk ⟨_,hT,rfl,_,rfl,rfl⟩ (.cons ⟨tk,rfl⟩ (.cons ru .nil)) (by show 2<=ge;decide)
  have ae:∀b∈[e,it],b≠s.heap.objs.size:=λb j z=>by
   rcases ax.mp j with q|q
   .rw[←q,z]at f
    exact absurd (aB f) (aO _)
   .have q':b=it:=by simpa using q
    obtain⟨o,M,_⟩:=hit
    rw[←q',z]at M
    exact absurd (aB M) (aO _)
  have fr:∀b∈[e,it],(upd H s.heap.objs.size (.tup [.int (i:Nat),x])) b=none:=λb j=>by rw[z6 (ae b j)];exact(L b j).1
  refine⟨_,rfl,wpAny_letOwnedTupleGo_enum (s:={ s with heap:=h',toks:=tk+1 }) B λh'' J m=>?_⟩
  have I2:Inv X pins σ (upd H s.heap.objs.size (.tup [.int (i:Nat),x])) { s with heap:=h'',toks:=tk+1 }:=I1.turned (t':=tk+1) (λb o j q=>(m.2 b j).trans q) (fr e (by simp)) G.2.1 G.2.2.2.1 G.2.2.2.2.1 G.2.2.2.2.2
  refine⟨.ref s.heap.objs.size,_,I2,rfl,⟨s.heap.objs.size,x,I.hok.fresh (af _),rfl,rfl,λys hy=>by rw[I.tuple_inj hy N];exact hx⟩,⟨⟨y,by simpa using J⟩,aa.1.at λo q=>(m.2 it (Ne.symm t)).trans q⟩,fr⟩
 done:=by
  intro X C hw O S i pins s σ H E I L st Y
  subst C hw O
  obtain⟨xs,N,hx⟩:=Y
  obtain⟨its,rv,p,hz⟩:=I.tuple N
  obtain⟨⟨g,f⟩,hit⟩:=st
  have n:=L it (by simp)
  have hT:s.TypeIs (.ref e) "enumerate":=⟨_,f,rfl⟩
  unfold pyNext
  refine fY (wpAny_attempt (wpAny_callSpecial?_slot (name:=Str.ofString "__next__") hT F.slot_enumerate_next
   (wpAny_call_entry F.slot_enumerate_next hT F.entry_enumerate_next ?_ (F.args_enumerate_next_1 _))))
  show gg _ _ (field (.ref e) 2 >>= _) _ _ _
  refine fY (wpAny_field f rfl (x:=.ref it) rfl ?_)
  have hl:=rv.length
  refine fY (U4 (A:=_) (I.ok.hd S) hit p (by simp;lia) λh' x V ad=>?_)
  obtain⟨o,B,U⟩:=ad
  refine fY (wpAny_isInstance (T:="StopIteration") (b:=true) ⟨o,B,U⟩ isSubtype_stop ?_)
  exact gc ⟨rfl,I.turned (t':=s.toks) (λb o j q=>V b o j q) n.1 n.2.1 n.2.2.2.1 n.2.2.2.2.1 n.2.2.2.2.2⟩
 self:=λ_ _ _ _ _ st h=>let ⟨_,f⟩:=st.1;wpAny_pyIter_enum f h
theorem yu2 {P:gf}{w:gp}{K:W.Frag}{D:List Expr}{x1:Nat}{tp:Pos}(a e it:Addr)(t:e≠it):yg6 P w K (.Tuple D x1 tp) (Ite λH xs=>SqL K H a xs) [e,it] e (λi h=>(∃g,IsEnum h e it i g)/\h.IsListIter it a i) where
 mem:=by simp
 obj:=λi h st b j=>by
  obtain⟨⟨g,f⟩,o,B,c,d⟩:=st
  rcases ax.mp j with z|z
  .subst z
   exact⟨_,f,λv q=>by have q':Data.fields _=Data.cell v:=q;cases q'⟩
  .have z':b=it:=by simpa using z
   subst z'
   exact⟨o,B,λv q=>by rw[d]at q;cases q⟩
 keep:=λi h h' st k=>⟨let ⟨g,f⟩:=st.1;⟨g,k e (by simp) _ f⟩,st.2.at λo q=>k it (by simp) o q⟩
 item:=by
  intro X C hw O S i pins s σ H E I L st Y
  subst C hw O
  obtain⟨xs,x,N,hx⟩:=Y
  obtain⟨its,rv,p,hz⟩:=I.list N
  obtain⟨u,hu,ru⟩:=rv.get hx
  obtain⟨⟨g,f⟩,hit⟩:=st
  have G:=L e (by simp)
  have n:=L it (by simp)
  have Z:i<its.toArray.size:=by
   have:=(ag.mp hu).1
   simpa using this
  obtain⟨oa,l,r,na,al⟩:=id p.isList
  have R:a≠it:=λz=>by
   obtain⟨o,B,c,d⟩:=id hit
   rw[z,B]at l
   cases l
   rw[c]at r
   exact absurd r (by decide)
  have Q:e∉[it,a]:=by
   intro z
   simp only[ax,aY,or_false]at z
   rcases z with z|z
   .exact t z
   .rw[←z,f]at l
    cases l
    exact absurd (show Value.type "enumerate"=Value.type "list" from r) (by decide)
  refine wpAny_pyNext_enum_itemD (Draws.list (A:=X.A.in1) (I.ok.hd S) it a R its.toArray) f ⟨hit,p.isList⟩ Z t Q λy h' tk C B aa hT am kk=>?_
  obtain rfl:y=u:=by
   have:its.toArray[i]?=some u:=by simpa using hu
   rw[this]at C
   exact(Option.some.inj C).symm
  have I1:Inv X pins σ (upd H s.heap.objs.size (.tup [.int (i:Nat),x])) { s with heap:=h',toks:=tk+1 }:=I.pair (its:=[.int i tk,y]) G n kk ⟨_,hT,rfl,_,rfl,rfl⟩ (.cons ⟨tk,rfl⟩ (.cons ru .nil)) (by show 2<=ge;decide)
  have ae:∀b∈[e,it],b≠s.heap.objs.size:=λb j z=>by
   rcases ax.mp j with q|q
   .rw[←q,z]at f
    exact absurd (aB f) (aO _)
   .have q':b=it:=by simpa using q
    obtain⟨o,M,_⟩:=hit
    rw[←q',z]at M
    exact absurd (aB M) (aO _)
  have fr:∀b∈[e,it],(upd H s.heap.objs.size (.tup [.int (i:Nat),x])) b=none:=λb j=>by rw[z6 (ae b j)];exact(L b j).1
  refine⟨_,rfl,wpAny_letOwnedTupleGo_enum (s:={ s with heap:=h',toks:=tk+1 }) B λh'' J m=>?_⟩
  have I2:Inv X pins σ (upd H s.heap.objs.size (.tup [.int (i:Nat),x])) { s with heap:=h'',toks:=tk+1 }:=I1.turned (t':=tk+1) (λb o j q=>(m.2 b j).trans q) (fr e (by simp)) G.2.1 G.2.2.2.1 G.2.2.2.2.1 G.2.2.2.2.2
  refine⟨.ref s.heap.objs.size,_,I2,rfl,⟨s.heap.objs.size,x,I.hok.fresh (af _),rfl,rfl,λys hy=>by rw[I.list_inj hy N];exact hx⟩,⟨⟨y,by simpa using J⟩,aa.1.at λo q=>(m.2 it (Ne.symm t)).trans q⟩,fr⟩
 done:=by
  intro X C hw O S i pins s σ H E I L st Y
  subst C hw O
  obtain⟨xs,N,hx⟩:=Y
  obtain⟨its,rv,p,hz⟩:=I.list N
  obtain⟨⟨g,f⟩,hit⟩:=st
  have n:=L it (by simp)
  have hT:s.TypeIs (.ref e) "enumerate":=⟨_,f,rfl⟩
  unfold pyNext
  refine fY (wpAny_attempt (wpAny_callSpecial?_slot (name:=Str.ofString "__next__") hT F.slot_enumerate_next
   (wpAny_call_entry F.slot_enumerate_next hT F.entry_enumerate_next ?_ (F.args_enumerate_next_1 _))))
  show gg _ _ (field (.ref e) 2 >>= _) _ _ _
  refine fY (wpAny_field f rfl (x:=.ref it) rfl ?_)
  have hl:=rv.length
  refine fY (wpAny_nextOf_list_end (A:=_) (I.ok.hd S) hit p.isList (by simp;lia) λh' x V ad=>?_)
  obtain⟨o,B,U⟩:=ad
  refine fY (wpAny_isInstance (T:="StopIteration") (b:=true) ⟨o,B,U⟩ isSubtype_stop ?_)
  exact gc ⟨rfl,I.turned (t':=s.toks) (λb o j q=>V b o j q) n.1 n.2.1 n.2.2.2.1 n.2.2.2.2.1 n.2.2.2.2.2⟩
 self:=λ_ _ _ _ _ st h=>let ⟨_,f⟩:=st.1;wpAny_pyIter_enum f h
def xx6 (K:W.Frag)(ta:TA):TI:=λσ H R=>ta σ H λvs H1=>∃a,vs=[.ref a]/\(∃xs,SqT K H1 a xs)/\R (Ite λH xs=>SqT K H a xs) H1
def xx5 (K:W.Frag)(ta:TA):TI:=λσ H R=>ta σ H λvs H1=>∃a,vs=[.ref a]/\(∃xs,SqL K H1 a xs)/\R (Ite λH xs=>SqL K H a xs) H1
theorem zs9 (hg:Gl X "enumerate")(hm:X.mg "enumerate"=none)(ha:PA X [a] ta)(hs:gh [a] X.env=[(false,eval a X.env)]:=by rfl):PI X (.Tuple elts x1 tp) (.Call (.Name "enumerate" p) [a] [] pos) (xx6 X.K ta):=by
 intro pins s σ H R I h;refine Call_ (J4 I hg hm boot_enumerate (PyProof.Rows.callWith_type1 (thn (ha pos pins s σ H _ I h) λus s1 ⟨vs,H1,I1,r1,q1⟩=>?_) hs rfl));obtain⟨b,e,⟨xs,hq⟩,q⟩:=q1;subst e
 cases r1 with
 | cons r rr =>
  cases rr
  cases r
  obtain⟨its,rv,pl,hz⟩:=I1.tuple hq;refine D9 pl λh' he hit hsz kk=>?_;have I2:Inv X pins σ H1 { s1 with heap:=h' }:=I1.kept (t':=s1.toks) kk;refine wpAny_pyIter_enum he ⟨s1.heap.objs.size+1,[s1.heap.objs.size+1,s1.heap.objs.size],_,_,H1,rfl,I2,yu3 b _ _ (dv (bZ _)),⟨⟨.none,by simpa using he⟩,hit⟩,λc hc=>?_,q⟩;have hle:s1.heap.objs.size<=c:=by
   simp only[ax,aY,or_false]at hc;rcases hc with rfl|rfl
   .exact bU _
   .exact af _
  exact I1.fpOk hle (I1.hok.fresh hle)
theorem zg3 (hg:Gl X "enumerate")(hm:X.mg "enumerate"=none)(ha:PA X [a] ta)(hs:gh [a] X.env=[(false,eval a X.env)]:=by rfl):PI X (.Tuple elts x1 tp) (.Call (.Name "enumerate" p) [a] [] pos) (xx5 X.K ta):=by
 intro pins s σ H R I h;refine Call_ (J4 I hg hm boot_enumerate (PyProof.Rows.callWith_type1 (thn (ha pos pins s σ H _ I h) λus s1 ⟨vs,H1,I1,r1,q1⟩=>?_) hs rfl));obtain⟨b,e,⟨xs,hq⟩,q⟩:=q1;subst e
 cases r1 with
 | cons r rr =>
  cases rr
  cases r
  obtain⟨its,rv,pl,hz⟩:=I1.list hq;refine call_enumerate_list pl.isList λh' he hit hsz kk=>?_;have I2:Inv X pins σ H1 { s1 with heap:=h' }:=I1.kept (t':=s1.toks) kk;refine wpAny_pyIter_enum he ⟨s1.heap.objs.size+1,[s1.heap.objs.size+1,s1.heap.objs.size],_,_,H1,rfl,I2,yu2 b _ _ (dv (bZ _)),⟨⟨.none,by simpa using he⟩,hit⟩,λc hc=>?_,q⟩;have hle:s1.heap.objs.size<=c:=by
   simp only[ax,aY,or_false]at hc;rcases hc with rfl|rfl
   .exact bU _
   .exact af _
  exact I1.fpOk hle (I1.hok.fresh hle)
theorem L8 {c:Hp->List V->Prop}{xs:List V}{g:TG}{tb:TS}{D:zc1}(a:Nat->St->Hp->Prop)(f:a 0 σ H)(hl:∀i σ H,i<=xs.length->a i σ H->c H xs)
  (j:∀i x σ H T,xs[i]?=some x->a i σ H->H T=none->g (.ref T) σ (upd H T (.tup [.int (i:Nat),x])) λσ2 H2=>tb { D with nx:=a (i+1),ct:=a (i+1),bk:=D.nx } σ2 H2) (h:∀σ H,a xs.length σ H->D.nx σ H) :
  ∃W:Nat->Nat->St->Hp->Prop,(∃m,W 0 m σ H)/\∀i m σ H,W i m σ H ->
   ((Ite c).stop i H/\D.nx σ H)∨((Ite c).go i H/\∃N:St->Hp->Prop,(∀d H',N d H'->∃m',m'<m/\W (i+1) m' d H')/\∀x H',(Ite c).yld i H x H'->g x σ H' λσ2 H2=>tb { D with nx:=N,ct:=N,bk:=D.nx } σ2 H2):=by
 refine⟨λi m σ H=>m=xs.length-i/\i<=xs.length/\a i σ H,⟨xs.length,by simp,aG _,f⟩,?_⟩;rintro i m σ H ⟨rfl,hi,p⟩;have q:=hl i σ H hi p;by_cases b:i<xs.length
 .refine .inr ⟨⟨xs,xs[i],q,by simp[b]⟩,a (i+1),λd H' l=>⟨xs.length-(i+1),by lia,rfl,b,l⟩,λx H' y=>?_⟩;obtain⟨T,v,hT,rfl,rfl,k⟩:=y;exact j i v σ H T (k xs q) p hT
 .have e:i=xs.length:=by lia
  subst e;exact .inl ⟨⟨xs,q,af _⟩,h σ H p⟩
end
section
variable {X:Cx}
theorem yb9:V1 X (.builtin "sorted") (λxs H Q=>∃(p:Addr) (c:List Int),xs=[.ref p]/\SqL X.K H p (c.map V.int)/\c.length<64/\∀(l:Addr) (a:List Int),H l=none->a.Perm c->a.Pairwise (·<=·)->Q (.ref l) (upd H l (.lst (a.map V.int)))):=by
 intro pins s σ H xs B Q I r h;obtain⟨p,c,rfl,n,k,q⟩:=h;obtain⟨u,rfl,y⟩:=K6 r
 cases y
 obtain⟨d,g,x,t⟩:=I.list n;have v:=g.length;rw[ae]at v t;refine sorted_ints x.isList (J2 g) (by lia) λout a i f j=>?_;obtain⟨e,m⟩:=sortedAll_at s.heap d out;have A:=f.length_eq;refine⟨.ref (s.heap.objs.size+1),_,I.laid (t':=s.toks) (λb o z=>sortedAll_old z) (bU _) (show n6 X.prog X.w _ _ _ (.lst (a.map V.int)) from⟨by rw[ae];lia,out.toList,e,K7 i,by simpa using m⟩),rfl,q _ a (I.hok.fresh (bU _)) f j⟩
end
section
variable {X:Cx}
theorem yw7:OpR X (binaryOp .Add) (λx y H Q=>∃(l b:Addr) (xs zs:List V),x=.ref l/\y=.ref b/\SqL X.K H l xs/\SqL X.K H b zs/\xs.length+zs.length<=ge/\∀p,H p=none->Q (.ref p) (upd H p (.lst (xs++zs)))):=by
 intro pins s σ H x y v u Q I J L h;obtain⟨l,b,xs,zs,rfl,rfl,D,hB,M,q⟩:=h
 cases J
 cases L
 obtain⟨c,r,G,_⟩:=I.list D;obtain⟨a,A,p2,_⟩:=I.list hB;obtain⟨⟨B,C,o,sl⟩,n,z,t,_,w⟩:=G;obtain⟨⟨m,j,i,k⟩,E,g,d,_,f⟩:=p2;simp only at t w d f;subst t w d f;have N:=r.length;have O:=A.length;have e:c.toArray++a.toArray=(c++a).toArray:=by simp
 refine concat_meets ⟨_,z,rfl⟩ ⟨_,g,rfl⟩ noFill_list_add seq_list_add PySem.F.slot_list_add PySem.F.entry_list_add (PySem.F.args_list_add_2 _ _) (list_addW l b c.toArray a.toArray n E C j sl k (by simp only[ay];lia)) ⟨z,g,?_⟩;rw[e];exact⟨.ref _,_,I.lnew (t':=s.toks) (r.append A) (by rw[ao];lia),rfl,q _ I.fresh⟩
end
end L2
namespace L2
open PySem PySem.Spec PyProof.Rows PyProof.Rows.LSm
mutual
inductive RdD (K:W.Frag) (H:Hp):V->PyData->Prop
 | non:RdD K H .non .none
 | bl (b:Bool):RdD K H (.bl b) (.bool b)
 | int (i:Int):RdD K H (.int i) (.int i)
 | str (x:Str):RdD K H (.str x) (.str x)
 | lst {a:Addr} {xs:List V} {ds:List PyData}:SqL K H a xs->zc3 K H xs ds->RdD K H (.ref a) (.list ds)
 | tup {a:Addr} {xs:List V} {ds:List PyData}:SqT K H a xs->zc3 K H xs ds->RdD K H (.ref a) (.tuple ds)
inductive zc3 (K:W.Frag) (H:Hp):List V->List PyData->Prop
 | nil:zc3 K H [] []
 | cons {x:V} {d:PyData} {xs:List V} {ds:List PyData}:RdD K H x d->zc3 K H xs ds->zc3 K H (x::xs) (d::ds)
end
theorem zc3.ints {K:W.Frag}:∀(ns:List Int),zc3 K H (ns.map V.int) (ns.map PyData.int)
 | []=>.nil
 | n::r=>.cons (.int n) (zc3.ints r)
section
variable {X:Cx}{pins:List (Addr×Obj)}{σ:St}{H:Hp}{s:fZ}
mutual
theorem RdD.reads (I:Inv X pins σ H s):∀{x:V} {d:PyData},RdD X.K H x d->∀u,p8 x u->∃as,Reads s.heap u d as
 | _,_,.non,u,r=>by cases (show u=Value.none from r);exact⟨_,.none⟩
 | _,_,.bl b,u,r=>by cases (show u=Value.bool b from r);exact⟨_,.bool b⟩
 | _,_,.int i,u,r=>by obtain⟨t,rfl⟩:=(show ∃t,u=Value.int i t from r);exact⟨_,.int i t⟩
 | _,_,.str x,u,r=>by obtain⟨t,rfl⟩:=(show ∃t,u=Value.str x t from r);exact⟨_,.str x t⟩
 | _,_,.lst h hs,u,r=>by
  cases (show u=Value.ref _ from r)
  obtain⟨its,rv,p,_⟩:=I.list h
  obtain⟨o,ho,hc,n,hd⟩:=p.isList
  obtain⟨as,ha⟩:=zc3.reads I hs its rv
  exact⟨_,.list ho hc hd (by simpa using ha)⟩
 | _,_,.tup h hs,u,r=>by
  cases (show u=Value.ref _ from r)
  obtain⟨its,rv,p,_⟩:=I.tuple h
  obtain⟨o,ho,hc,n,hd⟩:=p
  obtain⟨as,ha⟩:=zc3.reads I hs its rv
  exact⟨_,.tuple ho hc hd (by simpa using ha)⟩
theorem zc3.reads (I:Inv X pins σ H s):∀{xs:List V} {ds:List PyData},zc3 X.K H xs ds->∀us,r8 xs us->∃as,ReadsAll s.heap us ds as
 | _,_,.nil,us,r=>by cases r;exact⟨_,.nil⟩
 | _,_,.cons h hs,us,r=>by
  cases r with
  | cons r1 r2 =>
   obtain⟨as,ha⟩:=RdD.reads I h _ r1
   obtain⟨bs,hb⟩:=zc3.reads I hs _ r2
   exact⟨_,.cons ha hb⟩
end
end
section
variable {X:Cx}
theorem xz5 (c:X.A.units+64<cLine):OpR X (compareOp .Eq) (λx y H Q=>∃d e,RdD X.K H x d/\RdD X.K H y e/\PySem.SeqAt.shaped d=true/\PySem.SeqAt.shaped e=true/\Q (.bl (PyData.eqv d e)) H):=by
 intro pins s σ H x y v u Q I i j h;obtain⟨d,e,a,b,s1,k,q⟩:=h;obtain⟨l,f⟩:=a.reads I v i;obtain⟨bs,g⟩:=b.reads I u j;exact eq_dataH f g s1 k c ⟨.bl _,H,I,rfl,q⟩
theorem zl3:∀{bs:List Bool} {us:List Value},r8 (bs.map V.bl) us->BoolsAre us bs
 | [],_,r=>by cases r;exact .nil
 | b::bs,_,r=>by
  cases r with
  | cons a c =>
   cases (show _=Value.bool b from a)
   exact .cons b (zl3 c)
theorem P1 (hc:X.calm=true):V1 X (.builtin "all") (λxs H Q=>∃(p:Addr) (bs:List Bool),xs=[.ref p]/\SqL X.K H p (bs.map V.bl)/\Q (.bl (bs.all id)) H):=by
 intro pins s σ H xs B Q I r h;obtain⟨p,bs,rfl,l,q⟩:=h;obtain⟨u,rfl,t⟩:=K6 r
 cases t
 obtain⟨a,o,n,y⟩:=I.list l;obtain⟨m,F⟩:=I.fr;have g:=zl3 o;have c:=n.isList;have d:p<s.heap.objs.size:=by obtain⟨_,e,_⟩:=c;exact aB e
 refine call_all_walk (wpAny_pyIter_list c ?_);refine⟨s.heap.objs.size,[s.heap.objs.size,p],[s.heap.objs.size],a.toArray.size,_,_,λi=>(bs[i]?).getD true,rfl,Walks.list (A:=X.A.in1) (I.ok.hd hc) _ p (aX d) a.toArray,
  ⟨⟨_,aC _ rfl,rfl,rfl⟩,c.push _⟩,λi v s' x w j f=>?_,λh' z k=>?_⟩
 .obtain⟨b,e,rfl⟩:=g.get i v (by simpa using j);simp only[e,cn]at f;exact wpAny_truthy_bool f
 .have e:((List.range a.toArray.size).all λi=>(bs[i]?).getD true)=bs.all id:=by
   rw[ay,g.length];exact range_all bs
  rw[e];exact⟨.bl _,H,I.kept (kept_iter k),rfl,q⟩
end
end L2
namespace L2
open PySem PySem.Spec PyProof.Rows
theorem zw2:gv "reversed"=some (.type "reversed"):=by decide +kernel
theorem yz8 {K:PySem.W.Frag}{xs:List V}{fr:List Nat}{te:CT TE}{Q:Addr->Hp->Prop}(hS:SqL K H1 a xs)(ys:List V)(B:ys.length=xs.length)(hz:xs.length<=ge)
  (l:∀(i:Nat) H x,xs[i]?=some x->y4 H1 H->∀f k g fp,te f k g fp (some (V.int (i:Nat))::some x::fr.map λj=>(σ[j]?).getD none) H λy c=>y4 H c/\ys[i]?=some y)
  (fin:∀D H,H1 D=none->y4 H1 H->H D=some (.lst ys)->Q D H) :
  ∀D,H1 D=none->∃W:Nat->Nat->St->Hp->Prop,(∃m,W 0 m (X2 2 fr σ) (upd H1 D (.lst [])))/\∀i m n H',W i m n H' ->
  ((Ite λH xs=>SqL K H a xs).stop i H'/\Q D H')∨((Ite λH xs=>SqL K H a xs).go i H'/\∀x H2,(Ite λH xs=>SqL K H a xs).yld i H' x H2->∀f k g fp,wc9 K 2 (xh3 (h9 0) (xh3 (h9 1) wc8)) x n H2 λσ3 H3=>∃N:VK,te f k g fp σ3 H3 N/\∀y c,N y c ->
   ∃ys m',c D=some (.lst ys)/\ys.length<ge/\m'<m/\W (i+1) m' σ3 (upd c D (.lst (ys++[y])))):=by
 intro D o
 refine⟨λi m n H'=>m=xs.length-i/\i<=xs.length/\y4 H1 H'/\H' D=some (.lst (ys.take i))/\∃t w,n=t::w::fr.map λj=>(σ[j]?).getD none,⟨xs.length,rfl,aG _,(λb u e=>by rw[z6 (z9 e o)];exact e),by rw[z4];rfl,none,none,rfl⟩,?_⟩
 rintro i m n H' ⟨rfl,hi,d,r,t,w,rfl⟩
 by_cases h:i<xs.length
 .refine .inr ⟨⟨xs,xs[i],d.seq hS,by simp[h]⟩,λx H2 y f k g fp=>?_⟩
  obtain⟨T,v,hT,rfl,rfl,A⟩:=y
  have p:=A xs (d.seq hS)
  have q:y4 H' (upd H' T (.tup [V.int (i:Nat),v])):=λb u e=>by rw[z6 (z9 e hT)];exact e
  refine⟨T,_,rfl,SqT.of z4,rfl,_,_,rfl,_,_,rfl,rfl,?_⟩
  refine⟨_,l i _ v p (d.trans q) f k g fp,λy c ⟨s,z⟩=>⟨ys.take i,xs.length-(i+1),s _ _ (q _ _ r),by rw[aK];lia,by lia,rfl,h,λb u e=>?_,?_,_,_,rfl⟩⟩
  .rw[z6 (z9 e o)]
   exact s _ _ (q _ _ (d _ _ e))
  .rw[z4,aT,z]
   rfl
 .have e:i=xs.length:=by lia
  subst e
  refine .inl ⟨⟨xs,d.seq hS,af _⟩,fin D H' o d ?_⟩
  rw[r,aV (by lia)]
def xf3 (K:W.Frag)(w:gp)(a:Addr):Prop:=(∃es n,K.lookup a=some ⟨.type "dict",none,.dict es n,#[]⟩/\W.KeysLit w.params es.toList)/\(a==sysModules)=false
section
variable {X:Cx}
def wb4 (K:W.Frag)(w:gp)(td ty:TE):TE:=λσ H Q=>td σ H λx H1=>ty σ H1 λy H2=>∃a z v u,x=.ref a/\y=.str z/\xf3 K w a/\W.nsIn K a z=some (some u)/\p8 v u/\Q v H2
theorem xl2 (k:PE X o td)(hi:PE X i ty)(l:xw5 i):PE X (.Subscript o i pos) (wb4 X.K X.w td ty):=by
 intro pins s σ H Q I h;refine yy9 PySem.F.slot_dict_getitem.lookup l (thn (k pins s σ H _ I h) λu s1 ⟨x,H1,e,q,m⟩=>thn (hi pins s1 σ H1 _ e m) λA B ⟨y,H2,b,r,a,z,v,C,ex,f,⟨⟨es,n,c,g⟩,hne⟩,j,rv,p⟩=>?_);subst ex f;obtain rfl:u=Value.ref a:=q;obtain⟨t,rfl⟩:=r;have d:=W.mapOf_K (prog:=X.prog) (w:=X.w) b.kIn c g;exact⟨d.typeIs,wpAny_getItem_of (strKind_is X.prog X.w z t) d (W.find_K c j) ⟨v,H2,b.tok _,rv,p⟩⟩
theorem xc9:OpR X (compareOp .NotIn) (λy x H Q=>∃a z r,x=.ref a/\y=.str z/\xf3 X.K X.w a/\W.nsIn X.K a z=some r/\Q (.bl (!r.isSome)) H):=by
 intro pins s σ H y x v u Q I g f h;obtain⟨a,z,r,rfl,rfl,⟨⟨es,n,b,c⟩,hne⟩,e,q⟩:=h;obtain rfl:u=Value.ref a:=f;obtain⟨t,rfl⟩:=g;have d:=W.mapOf_K (prog:=X.prog) (w:=X.w) I.kIn b c;refine wpAny_notIn_of (strKind_is X.prog X.w z t) hne d ?_;rw[W.find_K b e];exact⟨.bl (!r.isSome),H,I.tok _,rfl,q⟩
end
def CX1 (P:gf)(w:gp):CXT:=λouter H s E e s'=>∃(ea C:Addr) (a0:Value) (B:Heap) (H':Hp),e=.ref ea/\s'.os=s.os/\AllBare s'.gens/\HOk P w H' B/\Heap.FlyingW B outer ea (.ref C) a0 s'.heap /\
 (∀b o,s.heap.get? b=some o->H b=none->b∉frs outer->B.get? b=some o) /\
 (∀b o,s.heap.get? b=some o->H b=none->b∈frs outer->∃sl,s'.heap.get? b=some { o with slots:=sl }) /\
 (∀b o,s.heap.get? b=some o->H b=none->H' b=none) /\
 (∀b o,s.heap.get? b=some o->b∈frs outer∨∃o',B.get? b=some o') /\
 (∀b xs,H b=some (.tup xs)->H' b=some (.tup xs))/\(∀b o u,H b=some (.frz o u)->H' b=some (.frz o u)) /\
 (∀b ps,H b=some (.tbl ps)->∃more,H' b=some (.tbl (ps++more)))/\E (.ref C) none H'
theorem xh7 (x:HOk P w H h)(hf:∀b∈fs,H b=none):HOk P w H (W.hideAll h fs):=λa o e =>
 (x a o e).stay (λb u hb q=>W.hideAll_get _ q λhm=>by
  have hn:=hf b hm
  rcases hb with rfl|hb
  .rw[e]at hn;cases hn
  .rw[hb]at hn;cases hn) (λ_ q=>q) λ_ _ q=>q
section
variable {P:gf}{w:gp}{K:W.Frag}{mg:Str->Option Value}{base:Heap}{N:List Str}{qual:Str}{scope:Scope}{f:Addr}{cd:Value}{A:gq}{outer:List Env}{s s1:fZ}{H H1:Hp}{E:XK}{pins:List (Addr×Obj)}{σ:St}
theorem yq6 (I:Inv (R3 (CX1 P w) P w K mg base N qual scope f cd A outer s H E) pins σ H1 s1)(v:Heap.MadeExcOf s1.heap h' e (.ref C) l)(D:E (.ref C) none H1) :
  (R3 (CX1 P w) P w K mg base N qual scope f cd A outer s H E).xe (.ref e) { s1 with heap:=h' }:=by
 have r:=I.stack;have j:=I.stkFree;refine wpAny_leaves_madeW (base:=W.hideAll s1.heap (frs (envOfC qual scope s.heap.objs.size f cd::outer))) (h:=s1.heap) I.ok.frames rfl (λb o q=>W.of_hideAll _ q) (W.funFrames_hide r λi m a n=>bA.mpr ⟨i,m,n⟩) v λB t M Q R O=>?_;have g:∀b o,s.heap.get? b=some o->b∉frs outer->b∉frs (envOfC qual scope s.heap.objs.size f cd::outer):=λb o c k G=>by
  obtain⟨i,m,n⟩:=bA.mp G;rcases ax.mp m with rfl|m
  .have x:s.heap.objs.size=b:=Option.some.inj n;exact absurd (aB c) (by rw[x];exact aO _)
  .exact k (bA.mpr ⟨i,m,n⟩)
 refine⟨e,C,.ref t,_,H1,rfl,I.os,I.bare,xh7 I.hok j,M,λb o c k d=>?_,λb o c k d=>?_,λb o c k=>?_,λb o c=>?_,I.base.tups,I.base.frzs,I.base.tbls,D⟩
 .exact W.hideAll_get _ (I.base.keep b o c k d (by intro z;cases z)) (g b o c d)
 .obtain⟨sl,q⟩:=I.base.slot b o c k d (by intro z;cases z);obtain⟨_,J,p,F⟩:=I.funs.mem d;have y:J={ o with slots:=sl }:=Option.some.inj (p.symm.trans q);subst y;obtain⟨u,L⟩:=O b _ (v.keeps _ _ q) F;exact⟨u,L⟩
 .exact I.base.free b o c k (by intro z;cases z)
 .by_cases d:b∈frs outer
  .exact .inl d
  .obtain⟨o',q⟩:=I.base.there b o c (by intro z;cases z);exact .inr ⟨o',W.hideAll_get _ q (g b o c d)⟩
theorem xj3 (I:Inv (R3 (CX1 P w) P w K mg base N qual scope f cd A outer s H E) pins σ H1 s1)(T:CX1 P w (R3 (CX1 P w) P w K mg base N qual scope f cd A outer s H E).stack H1 s1 G e J)(R:∀C a H',G C a H'->E C a H') :
  (R3 (CX1 P w) P w K mg base N qual scope f cd A outer s H E).xe e J:=by
 obtain⟨O,C,L,B,H',rfl,x,j,v,p,U,V,W,X,Y,Z,k7,n⟩:=T;refine wpAny_leaves_onW I.ok.frames rfl p λQ x1 x2=>?_;have y:∀b o,s.heap.get? b=some o->H b=none->b∉frs outer->B.get? b=some o:=λb o c k h=>by
  have q:=I.base.keep b o c k h (by intro z;cases z);refine U b o q (I.base.free b o c k (by intro z;cases z)) λl=>?_;obtain⟨d,g,i⟩:=bA.mp l;rcases ax.mp g with rfl|g
  .have m:s.heap.objs.size=b:=Option.some.inj i;exact absurd (aB c) (by rw[m];exact aO _)
  .exact h (bA.mpr ⟨d,g,i⟩)
 have sub:∀b,b∈frs outer->b∈frs (envOfC qual scope s.heap.objs.size f cd::outer):=λb c=>by
  obtain⟨d,g,i⟩:=bA.mp c;exact bA.mpr ⟨d,ar _ g,i⟩
 refine⟨O,C,L,B,H',rfl,x.trans I.os,j,v,x1,y,λb o c k h=>?_,λb o c k=>?_,λb o c=>?_,λb xs q=>Y b xs (I.base.tups b xs q),λb o u q=>Z b o u (I.base.frzs b o u q),λb ps q=>?_,R _ _ _ n⟩
 .obtain⟨sl,q⟩:=I.base.slot b o c k h (by intro z;cases z);have r:=I.base.free b o c k (by intro z;cases z);obtain⟨ag,D⟩:=V b _ q r (sub b h);obtain⟨_,o2,t,S⟩:=I.funs.mem h;have M:o2={ o with slots:=sl }:=Option.some.inj (t.symm.trans q);subst M;obtain⟨F,q'⟩:=x2 b _ D S;exact⟨F,q'⟩
 .obtain⟨o',q⟩:=I.base.there b o c (by intro z;cases z);exact W b o' q (I.base.free b o c k (by intro z;cases z))
 .by_cases h:b∈frs outer
  .exact .inl h
  .obtain⟨o',q⟩:=I.base.there b o c (by intro z;cases z);rcases X b o' q with l|l
   .obtain⟨d,g,i⟩:=bA.mp l;rcases ax.mp g with rfl|g
    .have m:s.heap.objs.size=b:=Option.some.inj i;exact absurd (aB c) (by rw[m];exact aO _)
    .exact absurd (bA.mpr ⟨d,g,i⟩) h
   .exact .inr l
 .obtain⟨m1,q1⟩:=I.base.tbls b ps q;obtain⟨m2,D⟩:=k7 b _ q1;exact⟨m1++m2,by rw[D,fB]⟩
end
section
variable {prog:gf}{w:gp}{A:gq}{s:fZ}
theorem za8 {R:Result->fZ->Prop}(I:Nat->fZ->Prop)
  (f:∀n s,I n s->gg (gn prog w) A (pyNext it) (λr i=>match r with
   | none=>R (.ok .next) i
   | some v=>gg (gn prog w) A (letOwnedTupleGo b it v) (λ_ d=>gg (gn prog w) A (assign b a v) (λ_ o=>gg (gn prog w) A (isTrue ce a (eval ce a)) (λok j =>
     if ok=true then gg (gn prog w) A (eval elt a) (λx p =>
      gg (gn prog w) A (call (.builtin "list.append") [c,x]) (λ_ q=>∃m,m<n/\I m q) (notedBy (gn prog w) A a λe s'=>R (.error e) s') p) (notedBy (gn prog w) A a λe s'=>R (.error e) s') j
     else ∃m,m<n/\I m j)
     (notedBy (gn prog w) A a λe s'=>R (.error e) s') o) (notedBy (gn prog w) A a λe s'=>R (.error e) s') d) (notedBy (gn prog w) A a λe s'=>R (.error e) s') i) (notedBy (gn prog w) A a λe s'=>R (.error e) s') s)
  (n:Nat) (h:I n s):codeAny (gn prog w) A (.compLoop (.ListComp elt [⟨b,iter,[ce],0⟩] scope pos) 0 it c a) R s:=by
 refine codeAny_loop rfl I (λn s t=>?_) n h
 show gg _ _ ((compTurn (.ListComp elt [⟨b,iter,[ce],0⟩] scope pos) 0 it c a).onRaise (λx=>do noteFrame x a;theTreesLotGoes x)) _ _ s
 refine wpAny_noted ?_
 rw[compTurn_list]
 refine fY (wpAny_standAt (fY (gu (f n s t) (λr i k=>?_) λ_ _ h'=>h')))
 cases r with
 | none=>exact gc k
 | some v =>
  refine fY (gu k (λ_ d g=>?_) λ_ _ h'=>h')
  refine fY (gu g (λ_ o u=>fY (gu (wpAny_tests_one u) (λok j l=>?_) λ_ _ h'=>h')) λ_ _ h'=>h')
  cases ok with
  | false=>exact gc ⟨rfl,l⟩
  | true=>exact fY (fY (gu l (λx p y=>fY (gu y (λ_ q z=>gc (gc ⟨rfl,z⟩)) λ_ _ h'=>h')) λ_ _ h'=>h'))
end
def yn4 (own:Nat)(fr:List Nat)(wi:TI)(g:CT TG)(tt:CT TT)(te:CT TE)(σ:St)(H:Hp)(Q:Addr->Hp->Prop):Prop:=wi σ H λJ H1=>∀D,H1 D=none ->
 ∃W:Nat->Nat->St->Hp->Prop,(∃m,W 0 m (X2 own fr σ) (upd H1 D (.lst [])))/\∀i m σ' H',W i m σ' H' ->
  (J.stop i H'/\Q D H')∨(J.go i H'/\∀x H2,J.yld i H' x H2->∀C₀ s₀ H₀ fp,g C₀ s₀ H₀ fp x σ' H2 λσ3 H3=>∃T:Bool->Hp->Prop,tt C₀ s₀ H₀ fp σ3 H3 T/\∀b H5,T b H5 ->
   match b with
   | true=>∃N:VK,te C₀ s₀ H₀ fp σ3 H5 N/\∀y H4,N y H4->∃ys m',H4 D=some (.lst ys)/\ys.length<ge/\m'<m/\W (i+1) m' σ3 (upd H4 D (.lst (ys++[y])))
   | false=>∃m',m'<m/\W (i+1) m' σ3 H5)
def zp6 (own:Nat)(fr:List Nat)(wi:TI)(g:CT TG)(tt:CT TT)(te:CT TE):TE:=λσ H Q=>yn4 own fr wi g tt te σ H λD H'=>Q (.ref D) H'
section
variable {X:Cx}{own:Nat}{fr:List Nat}{N':List Str}{tg iter elt ce:Expr}{scope:Scope}{pos:Pos}{wi:TI}{g:CT TG}{te:CT TE}{tt:CT TT}
theorem zq2 {σ:St}{Q:Addr->Hp->Prop}{use:Option (Value->Sem Unit)}{Q':Value->fZ->Prop}(hc:X.calm=true)(hi:PI X tg iter wi)(hg:∀C s₃ H₃ fp,PG (o5 X N' scope C s₃ H₃ fp) tg (g C s₃ H₃ fp))(ht:∀C s₃ H₃ fp,PT (o5 X N' scope C s₃ H₃ fp) ce (tt C s₃ H₃ fp))(he:∀C s₃ H₃ fp,PE (o5 X N' scope C s₃ H₃ fp) elt (te C s₃ H₃ fp))
  (f:yb2 scope X.env.scope (N'.drop own)) (av:fr.map (λj=>X.N[j]?)=(N'.drop own).map some) (ac:own<=N'.length) (hs:∀x,foldedSetIterable iter X.env x=pure x)
  (I:Inv X pins σ H s) (h:yn4 own fr wi g tt te σ H Q)
  (fin:∀D C m H' s',Inv X pins σ H' s'->s'.heap.Ns C m->xv0 X pins H' C->Q D H'->compPost (gn X.prog X.w) X.A X.xe use Q' (.ref D) C (.ok .next) s') :
  gg (gn X.prog X.w) X.A (comprehension (.ListComp elt [⟨tg,iter,[ce],0⟩] scope pos) scope X.env pos' (newList []) false (eval iter X.env) use) Q' X.xe s:=by
 refine wpAny_comprehension_free rfl hs (C2 λy hy hk=>I.ok.has y.1 (f.free y hy hk)) f.kind f.loc (thn (hi pins s σ H _ I h) λxv s1 h1=>thn h1 λcl l h2=>?_)
 obtain⟨it,fp,tn,J,H2,e,I2,T,ad,f2,Y⟩:=h2
 subst e
 refine wpAny_newList (items:=[]) ?_
 have hD:H2 l.heap.objs.size=none:=I2.hok.fresh (af _)
 have F:Inv X pins σ (upd H2 l.heap.objs.size (.lst [])) { l with heap:=l.heap.push { cls:=.type "list",data:=.seq ([]:List Value).toArray } }:=I2.lnew (its:=[]) (t':=l.toks) .nil (by decide)
 obtain⟨W,⟨m0,w0⟩,M⟩:=Y _ hD
 generalize hDD:l.heap.objs.size=D at hD F w0 M ⊢
 have bj:∀b o,l.heap.get? b=some o->(l.heap.push { cls:=.type "list",data:=.seq ([]:List Value).toArray }).get? b=some o:=λb o e=>ap _ e
 have bi:tn 0 (l.heap.push { cls:=.type "list",data:=.seq ([]:List Value).toArray }):=T.keep _ _ _ ad λb _ o e=>bj b o e
 have Z:∀b∈fp,b≠D:=λb a e=>by
  obtain⟨o,ho,_⟩:=T.obj _ _ ad b a
  rw[e,←hDD]at ho
  exact absurd (aB ho) (aO _)
 have R:∀b∈fp,zc2 X pins (upd H2 D (.lst [])) b:=λb a=>⟨by rw[z6 (Z b a)];exact(f2 b a).1,(f2 b a).2⟩
 generalize hs3:({ l with heap:=l.heap.push { cls:=.type "list",data:=.seq ([]:List Value).toArray } }:fZ)=s3 at F ⊢
 have L:tn 0 s3.heap:=by rw[←hs3];exact bi
 generalize upd H2 D (.lst [])=P at F R w0
 have az:∀b∈fp,∃o,s3.heap.get? b=some o:=λb a=>let ⟨o,ho,_⟩:=T.obj _ _ L b a;⟨o,ho⟩
 refine wpAny_newFunctionEnv f.cell (by intro y hy;simp at hy) (λh₁ ab G=>?_) f.kind
 have bk:∀b o,s3.heap.get? b=some o->h₁.get? b=some o:=λb o e=>(G.2 b (aX (aB e))).trans (ap _ e)
 have I4:=yi5 (N':=N') (own:=own) (fr:=fr) (scope:=scope) (t:=s3.toks+([]:List (Str×Value)).length) F R az f av ac ab G
 have ae:tn 0 h₁:=T.keep _ _ _ L λb _ o e=>bk b o e
 have E:∀{H':Hp} ,(∀b∈fp,H' b=none)->∀b∈fp,zc2 (o5 X N' scope s3.heap.objs.size s3 P fp) [] H' b:=λhn b a=>by
  refine⟨hn b a,(I4.ok.exf b a).1,I4.ok.exfs b a,.inl a,(I4.ok.exf b a).2,λp hp=>by cases hp⟩
 have K:codeAny (gn X.prog X.w) X.A (.compLoop (.ListComp elt [⟨tg,iter,[ce],0⟩] scope pos) 0 (.ref it) (.ref D) (o5 X N' scope s3.heap.objs.size s3 P fp).env)
   (compPost (gn X.prog X.w) X.A X.xe use Q' (.ref D) s3.heap.objs.size) { s3 with heap:=h₁,toks:=s3.toks+([]:List (Str×Value)).length }:=by
  refine za8 (λn s'=>∃i σ' H',Inv (o5 X N' scope s3.heap.objs.size s3 P fp) [] σ' H' s'/\tn i s'.heap/\(∀b∈fp,H' b=none)/\W i n σ' H') ?_ m0 ⟨0,_,P,I4,ae,λb a=>(R b a).1,w0⟩
  rintro n s5 ⟨i,σ5,U,I5,ag,aa,w5⟩
  rcases M i n σ5 U w5 with⟨ah,q⟩|⟨go,step⟩
  .refine thn (T.done (o5 X N' scope s3.heap.objs.size s3 P fp) rfl rfl rfl hc i [] s5 σ5 U _ I5 (E aa) ag ah) λr s6 ⟨hr,S⟩=>?_
   subst hr
   obtain⟨m6,ay,_⟩:=S.loc
   have I7:Inv X pins σ U s6:=F.call' (ch:=fp) (by have:=S.os;exact this) S.base S.hok S.bare λb a=>⟨(R b a).2.2.2.1,(R b a).2.1,(R b a).2.2.2.2.1,(R b a).2.2.2.2.2⟩
   refine fin D s3.heap.objs.size m6 U s6 I7 ay ⟨S.free,dv F.lt,F.sz,λx c e z=>?_,λp hp z=>?_⟩ q
   .obtain⟨v,z1⟩:=F.cell x c e
    exact absurd z1.lt (by rw[z];exact aO _)
   .exact absurd (aB (F.pin p hp).1) (by rw[z];exact aO _)
  .refine thn (T.item (o5 X N' scope s3.heap.objs.size s3 P fp) rfl rfl rfl hc i [] s5 σ5 U _ I5 (E aa) ag go) λr s6 ⟨u,hr,h6⟩=>?_
   subst hr
   refine thn h6 λ_ s7 ⟨x,H7,I7,r7,y7,B,as⟩=>?_
   have aq:=I7.pinned (E as) (T.obj _ _ B)
   refine gu (hg _ _ _ _ _ s7 σ5 H7 x u _ aq r7 (step x H7 y7 _ _ _ _)) (λ_ s8 ⟨σ8,H8,I8,Tq,q8,hT⟩=>?_) λ_ _ z=>z.elim
   refine gu (ht _ _ _ _ _ s8 σ8 H8 Tq I8 q8) (λbv s9 ⟨H9,I9,n9⟩=>?_) λ_ _ z=>z.elim
   have a:=hT bv H9 n9
   cases bv with
   | false =>
    obtain⟨m',hm,w9⟩:=a
    show ∃m,m<n/\_
    have k:=λb a o e=>I9.pin (b,o) (aF _ (aF _ (P6 (h:=s7.heap) (fp:=fp) a e)))
    refine⟨m',hm,i+1,σ8,_,I9.unpinned,T.keep _ _ _ B λb a o e=>(k b a o e).1,λb a=>?_,w9⟩
    obtain⟨o,e,d⟩:=T.obj _ _ B b a
    exact(k b a o e).2.1
   | true =>
    obtain⟨N,q9,hN⟩:=a
    show gg _ _ (eval elt _) _ _ _
    refine gu (he _ _ _ _ _ s9 σ8 H9 N I9 q9) (λyv bf ⟨y,O,an,be,bc⟩=>?_) λ_ _ z=>z.elim
    obtain⟨ys,m',au,aw,hm,w9⟩:=hN y O bc
    refine gu (c3 (X:=o5 X N' scope s3.heap.objs.size s3 P fp) _ bf σ8 O (.ref D) [y] (.ref D) [yv] (λ_ H'=>H'=upd O D (.lst (ys++[y]))) an rfl (.cons be .nil) ⟨D,ys,y,rfl,rfl,au,aw,rfl⟩) (λ_ cs ⟨_,bw,V,_,bd⟩=>?_) λ_ _ z=>z.elim
    subst bd
    have k:=λb a o e=>V.pin (b,o) (aF _ (aF _ (P6 (h:=s7.heap) (fp:=fp) a e)))
    refine⟨m',hm,i+1,σ8,_,V.unpinned,T.keep _ _ _ B λb a o e=>(k b a o e).1,λb a=>?_,w9⟩
    obtain⟨o,e,d⟩:=T.obj _ _ B b a
    exact(k b a o e).2.1
 exact codeAny_compStart_list K (T.self X.A 0 _ _ _ ae K)
theorem xd0 (own:Nat)(fr:List Nat)(N':List Str)(hc:X.calm=true)(hi:PI X tg iter wi)(hg:∀C s₃ H₃ fp,PG (o5 X N' scope C s₃ H₃ fp) tg (g C s₃ H₃ fp))(ht:∀C s₃ H₃ fp,PT (o5 X N' scope C s₃ H₃ fp) ce (tt C s₃ H₃ fp))(he:∀C s₃ H₃ fp,PE (o5 X N' scope C s₃ H₃ fp) elt (te C s₃ H₃ fp))
  (hok:M6 scope X.env.scope (N'.drop own)=true:=by rfl) (hfr:fr.map (λj=>X.N[j]?)=(N'.drop own).map some:=by rfl) (hown:own<=N'.length:=by decide) (hs:∀x,foldedSetIterable iter X.env x=pure x:=by intro _;rfl) :
  PE X (.ListComp elt [⟨tg,iter,[ce],0⟩] scope pos) (zp6 own fr wi g tt te):=by
 intro pins s σ H Q I h;rw[eval_ListComp];refine zq2 (use:=none) hc hi hg ht he (A4 hok) hfr hown hs I h λD C m H' s' I' hn sp q=>?_;refine⟨m,hn,λh' sb=>⟨.ref D,H',?_,rfl,q⟩⟩;exact I'.turned (t':=s'.toks) (λb o hb e=>(sb.2 b hb).trans e) sp.1 sp.2.1 (.inr sp.2.2.1) sp.2.2.2.1 sp.2.2.2.2
theorem yf2 {py spos:Pos}(own:Nat)(fr:List Nat)(N':List Str)(hN:X.N.Nodup)(hy:X.N[i]?=some y)(hl:X.env.scope.names.lookup y=some .local)(hc:X.calm=true)(hi:PI X tg iter wi)(hg:∀C s₃ H₃ fp,PG (o5 X N' scope C s₃ H₃ fp) tg (g C s₃ H₃ fp))(ht:∀C s₃ H₃ fp,PT (o5 X N' scope C s₃ H₃ fp) ce (tt C s₃ H₃ fp))(he:∀C s₃ H₃ fp,PE (o5 X N' scope C s₃ H₃ fp) elt (te C s₃ H₃ fp))
  (hsw:swapsWith (.ListComp elt [⟨tg,iter,[ce],0⟩] scope pos) (some (.Name y py)) spos.line X.env=pure true:=by rfl)
  (hok:M6 scope X.env.scope (N'.drop own)=true:=by rfl) (hfr:fr.map (λj=>X.N[j]?)=(N'.drop own).map some:=by rfl) (hown:own<=N'.length:=by decide) (hs:∀x,foldedSetIterable iter X.env x=pure x:=by intro _;rfl) :
  PS X (.Assign [.Name y py] (.ListComp elt [⟨tg,iter,[ce],0⟩] scope pos) spos) (yt8 (zp6 own fr wi g tt te) (h9 i)):=by
 intro pins s σ H D I h;rw[exec_Assign_Name_used _ _ _ _ hsw];refine fY (wpAny_standAt (fY ?_));show gg _ X.A (do let _ ←comprehension (.ListComp elt [⟨tg,iter,[ce],0⟩] scope pos) scope X.env _ (newList []) false (eval iter X.env) (some (assign (.Name y py) X.env))) _ _ s;refine fY (gu (zq2 (use:=some (assign (.Name y py) X.env)) (Q':=λ_ s'=>SP X pins D .next s') hc hi hg ht he (A4 hok) hfr hown hs I h λDl C m H' s' I' hn sp q=>?_) (λ_ s' hq=>gc (gc hq)) λ_ _ e=>e);show gg _ X.A (assign (.Name y py) X.env (.ref Dl)) _ _ _;refine wpAny_assign_Name (za5 (v:=.ref Dl) I' hN hy (.inl hl) rfl (λs2 I2 ⟨a,sb,ha⟩=>?_) (.inr hl));have hCa:C≠a:=by
  rcases ha with e|e
  .rw[e];exact sp.2.1
  .exact λz=>sp.2.2.2.1 y a e z.symm
 refine⟨m,hn.sameBut sb hCa,λh' sb'=>⟨_,H',?_,q⟩⟩;exact I2.turned (t':=s2.toks) (λb o hb e=>(sb'.2 b hb).trans e) sp.1 sp.2.1 (.inr sp.2.2.1) sp.2.2.2.1 sp.2.2.2.2
theorem yr8 (fr:List Nat)(N':List Str)(hc:X.calm=true)(hi:PI X (.Name x px) iter wi)(ht:∀C s₃ H₃ fp,PT (o5 X N' scope C s₃ H₃ fp) ce (tt C s₃ H₃ fp))(he:∀C s₃ H₃ fp,PE (o5 X N' scope C s₃ H₃ fp) elt (te C s₃ H₃ fp))(hN:N'.Nodup:=by decide +kernel)(h0:N'[0]?=some x:=by rfl)(hx:scope.names.lookup x=some .local:=by rfl)
  (hok:M6 scope X.env.scope (N'.drop 1)=true:=by rfl) (hfr:fr.map (λj=>X.N[j]?)=(N'.drop 1).map some:=by rfl) (hown:1<=N'.length:=by decide) (hs:∀x,foldedSetIterable iter X.env x=pure x:=by intro _;rfl) :
  PE X (.ListComp elt [⟨.Name x px,iter,[ce],0⟩] scope pos) (zp6 1 fr wi (λ_ _ _ _=>h9 0) tt te) :=
 xd0 1 fr N' hc hi (λ_ _ _ _=>t9 hN h0 (.inl (lookup_relabel_local hx)) (.inr (lookup_relabel_local hx))) ht he hok hfr hown hs
theorem zx8 {px py spos:Pos}(fr:List Nat)(N':List Str)(hNd:X.N.Nodup)(hy:X.N[i]?=some y)(hl:X.env.scope.names.lookup y=some .local)(hc:X.calm=true)(hi:PI X (.Name x px) iter wi)(ht:∀C s₃ H₃ fp,PT (o5 X N' scope C s₃ H₃ fp) ce (tt C s₃ H₃ fp))(he:∀C s₃ H₃ fp,PE (o5 X N' scope C s₃ H₃ fp) elt (te C s₃ H₃ fp))
  (hsw:swapsWith (.ListComp elt [⟨.Name x px,iter,[ce],0⟩] scope pos) (some (.Name y py)) spos.line X.env=pure true:=by rfl) (hN:N'.Nodup:=by decide +kernel) (h0:N'[0]?=some x:=by rfl) (hx:scope.names.lookup x=some .local:=by rfl)
  (hok:M6 scope X.env.scope (N'.drop 1)=true:=by rfl) (hfr:fr.map (λj=>X.N[j]?)=(N'.drop 1).map some:=by rfl) (hown:1<=N'.length:=by decide) (hs:∀x,foldedSetIterable iter X.env x=pure x:=by intro _;rfl) :
  PS X (.Assign [.Name y py] (.ListComp elt [⟨.Name x px,iter,[ce],0⟩] scope pos) spos) (yt8 (zp6 1 fr wi (λ_ _ _ _=>h9 0) tt te) (h9 i)) :=
 yf2 1 fr N' hNd hy hl hc hi (λ_ _ _ _=>t9 hN h0 (.inl (lookup_relabel_local hx)) (.inr (lookup_relabel_local hx))) ht he hsw hok hfr hown hs
end
theorem zl5 {J:It}{fr:List Nat}{tt:CT TT}{te:CT TE}{Q:Addr->Hp->Prop}(p:Nat->Bool)(f:Nat->V)(hz:n<=ge)
  (k:∀H,y4 H1 H->J.stop n H) (B:∀i H,i<n->y4 H1 H->J.go i H)
  (t:∀i H x H2,i<n->y4 H1 H->J.yld i H x H2->H2=H/\∀g l h fp,tt g l h fp (some x::fr.map λj=>(σ[j]?).getD none) H λb d=>b=p i/\y4 H d/\(p i=true->te g l h fp (some x::fr.map λj=>(σ[j]?).getD none) d λy r=>y4 d r/\y=f i))
  (fin:∀D H,H1 D=none->y4 H1 H->H D=some (.lst (((List.range n).filter p).map f))->Q D H) :
  ∀D,H1 D=none->∃W:Nat->Nat->St->Hp->Prop,(∃m,W 0 m (X2 1 fr σ) (upd H1 D (.lst [])))/\∀i m v H',W i m v H' ->
  (J.stop i H'/\Q D H')∨(J.go i H'/\∀x H2,J.yld i H' x H2->∀g l h fp,h9 0 x v H2 λσ3 H3=>∃T:Bool->Hp->Prop,tt g l h fp σ3 H3 T/\∀b r,T b r ->
   match b with
   | true=>∃N:VK,te g l h fp σ3 r N/\∀y d,N y d->∃ys m',d D=some (.lst ys)/\ys.length<ge/\m'<m/\W (i+1) m' σ3 (upd d D (.lst (ys++[y])))
   | false=>∃m',m'<m/\W (i+1) m' σ3 r):=by
 intro D A
 have s0:∀o,y4 H1 (upd H1 D o):=λo b u e=>by rw[z6 (z9 e A)];exact e
 refine⟨λi m v H'=>m=n-i/\i<=n/\y4 H1 H'/\H' D=some (.lst (((List.range i).filter p).map f))/\∃z,v=z::fr.map λj=>(σ[j]?).getD none,⟨n,rfl,aG _,s0 _,by rw[z4];rfl,none,rfl⟩,?_⟩
 rintro i m v H' ⟨rfl,hi,s,C,z,rfl⟩
 by_cases c:i<n
 .refine .inr ⟨B i H' c s,λx H2 y g l h fp=>?_⟩
  obtain⟨e,q⟩:=t i H' x H2 c s y
  subst e
  refine⟨_,q g l h fp,λb r ⟨G,w,I⟩=>?_⟩
  subst G
  have a:List.range (i+1)=List.range i++[i]:=eV
  cases hp:p i with
  | true =>
   refine⟨_,I hp,λy d ⟨E,F⟩=>⟨((List.range i).filter p).map f,n-(i+1),E _ _ (w _ _ C),?_,by lia,rfl,c,?_,?_,_,rfl⟩⟩
   .rw[ae]
    have:=dR p (List.range i)
    rw[aU]at this
    lia
   .intro b u e
    rw[z6 (z9 e A)]
    exact E _ _ (w _ _ (s _ _ e))
   .subst F
    rw[z4,a,cR,aJ]
    simp[hp]
  | false =>
   refine⟨n-(i+1),by lia,rfl,c,λb u e=>w _ _ (s _ _ e),?_,_,rfl⟩
   rw[w _ _ C,a,cR,aJ]
   simp[hp]
 .have e:i=n:=by lia
  subst e
  exact .inl ⟨k H' s,fin D H' A s C⟩
theorem yc2 {lo:Int}{fr:List Nat}{tt:CT TT}{te:CT TE}{H1:Hp}{Q:Addr->Hp->Prop}(p:Nat->Bool)(f:Nat->V)(hz:n<=ge)
  (turn:∀i H,i<n->y4 H1 H->∀C₀ s₀ H₀ fp,tt C₀ s₀ H₀ fp (some (.int (lo+i))::fr.map λj=>(σ[j]?).getD none) H λb H4=>b=p i/\y4 H H4/\(p i=true->te C₀ s₀ H₀ fp (some (.int (lo+i))::fr.map λj=>(σ[j]?).getD none) H4 λy H5=>y4 H4 H5/\y=f i))
  (fin:∀D H,H1 D=none->y4 H1 H->H D=some (.lst (((List.range n).filter p).map f))->Q D H) :
  ∀D,H1 D=none->∃W:Nat->Nat->St->Hp->Prop,(∃m,W 0 m (X2 1 fr σ) (upd H1 D (.lst [])))/\∀i m σ' H',W i m σ' H' ->
  ((Itr lo n).stop i H'/\Q D H')∨((Itr lo n).go i H'/\∀x H2,(Itr lo n).yld i H' x H2->∀C₀ s₀ H₀ fp,h9 0 x σ' H2 λσ3 H3=>∃T:Bool->Hp->Prop,tt C₀ s₀ H₀ fp σ3 H3 T/\∀b H5,T b H5 ->
   match b with
   | true=>∃N:VK,te C₀ s₀ H₀ fp σ3 H5 N/\∀y H4,N y H4->∃ys m',H4 D=some (.lst ys)/\ys.length<ge/\m'<m/\W (i+1) m' σ3 (upd H4 D (.lst (ys++[y])))
   | false=>∃m',m'<m/\W (i+1) m' σ3 H5) :=
 zl5 p f hz (λ_ _=>af n) (λi _ hi _=>hi) (λi H x H2 hi s y=>⟨y.1,by rw[y.2];exact turn i H hi s⟩) fin
abbrev bmV:List Value:=[.type "ValueError",.type "Exception",.type "BaseException",.type "object"]
structure zn0 (K:W.Frag) (C:Addr) (tl:List Value) (newId:String):Prop where
 obj:∃nm qn N bs hdct sn sub ab col dd k0 k1 k2 k3 k5 oN,K.lookup C=some (excClassObj nm qn C N bs tl hdct sn sub ab col dd k0 k1 k2 k3 k5 newId)/\K.lookup N=some oN/\W.nsOkIn K N=true/\W.nsIn K N "__init__"=some none
 tail:W.tailIn K bmV tl=true
theorem zn0.mk' {K:W.Frag}
  (l:K.lookup C=some (excClassObj nm qn C N bs tl hdct sn sub ab col dd k0 k1 k2 k3 k5 newId)) (n:K.lookup N=some oN) (o:W.nsOkIn K N=true) (i:W.nsIn K N "__init__"=some none) (t:W.tailIn K bmV tl=true):zn0 K C tl newId :=
 ⟨⟨nm,qn,N,bs,hdct,sn,sub,ab,col,dd,k0,k1,k2,k3,k5,oN,l,n,o,i⟩,t⟩
theorem wg2 {K:W.Frag}(x:zn0 K C tl b):∃p r N bs a s sub d c e f g j k m q,
  K.lookup C=some (excClassObj p r C N bs tl a s sub d c e f g j k m b)/\K.lookup N=some q/\∀h,K.In h->(∃mN,h.Ns N mN/\mN "__init__"=none)/\OwnTail h bmV tl:=by
 obtain⟨⟨p,r,N,bs,a,s,sub,d,c,e,f,g,j,k,m,q,l,n,o,i⟩,t⟩:=x;exact⟨p,r,N,bs,a,s,sub,d,c,e,f,g,j,k,m,q,l,n,λh X=>⟨⟨_,.of_isNs (W.isNs_of_in X o),W.nsMap_none_of_in X o i⟩,W.tail_of_in X t⟩⟩
theorem xs3 {h h':Heap}{m:Str->Option Value}(e:h.get? N=some o)(b:h'.get? N=some o)(n:h.Ns N m):h'.Ns N m:=by
 obtain⟨d,es,c,a,r⟩:=n;rw[e]at a
 cases a
 exact⟨o,es,c,b,r⟩
theorem OwnTail.base_in {tl:List Value}(T:OwnTail h bmV tl):tl.contains (.type "BaseException")=true:=T.hasType (by decide)
def zv9 (ea C:Addr):HO:=.ext λh=>∃o,h.get? ea=some o/\o.cls=.ref C
section
variable {P:gf}{w:gp}{K:W.Frag}{mg:Str->Option Value}{base:Heap}{N:List Str}{qual:Str}{scope:Scope}{f:Addr}{cd:Value}{A:gq}{outer:List Env}{s0:fZ}{H0:Hp}{E:XK}
theorem zt1 {e:Expr}{es:List Expr}{t:TA}{np cpos pos:Pos}(hm:mg x=some (.ref C))(hx:zn0 K C tl newId)(Fn:ExcBaseFacts Bn newId inN bmN)(hBn:bmV.contains (.type Bn)=true)
  (hg:Gl (R3 (CX1 P w) P w K mg base N qual scope f cd A outer s0 H0 E) x) (ha:PA (R3 (CX1 P w) P w K mg base N qual scope f cd A outer s0 H0 E) (e::es) t)
  (hd:(x==("__debug__":Str))=false:=by decide) (he:gh (e::es) (envOfC qual scope s0.heap.objs.size f cd)=(false,eval e (envOfC qual scope s0.heap.objs.size f cd))::gh es (envOfC qual scope s0.heap.objs.size f cd):=by rfl)
  (hpl:(backTo cpos (gh es (envOfC qual scope s0.heap.objs.size f cd))).any (·.1)=false:=by rfl) :
  PS (R3 (CX1 P w) P w K mg base N qual scope f cd A outer s0 H0 E) (.Raise (some (.Call (.Name x np) (e::es) [] cpos)) none pos) (λD σ H1=>t σ H1 λvs H2=>vs.length<=1000/\E (.ref C) none H2):=by
 intro pins s σ H D I h
 obtain⟨nm,qn,Na,bs,hdct,sn,sub,ab,col,dd,k0,k1,k2,k3,k5,oN,lC,lN,all⟩:=wg2 hx
 obtain⟨⟨mN,hN,hni⟩,T⟩:=all _ I.kIn
 refine wpAny_Raise_call_subU (C:=C) (nm:=nm) (q:=qn) (N:=Na) (bs:=bs) (bm:=tl) (hdct:=hdct) (sn:=sn) (sub:=sub) (ab:=ab) (col:=col) (dd:=dd) (k0:=k0) (k1:=k1) (k2:=k2) (k3:=k3) (k5:=k5)
  Fn hBn PySem.F.excBase_ValueError (mN:=mN) (OwnTail.base_in T) (I.ok.hd rfl) ?_ hni (A6 I hg hm ⟨rfl,?_⟩ hd)
 .show(backTo cpos (gh (e::es) (envOfC qual scope s0.heap.objs.size f cd))).any (·.1)=false
  rw[he]
  show(false || (backTo cpos (gh es (envOfC qual scope s0.heap.objs.size f cd))).any (·.1))=false
  rw[hpl]
  rfl
 have hA:=ha cpos pins s σ H _ I h
 show gg _ _ (evalArgs (.ref C) true (backTo cpos (gh (e::es) (envOfC qual scope s0.heap.objs.size f cd))) []) _ _ s
 have hA':gg (gn P w) (R3 (CX1 P w) P w K mg base N qual scope f cd A outer s0 H0 E).A (spliced (backTo cpos (gh (e::es) (envOfC qual scope s0.heap.objs.size f cd)))) _ _ s:=hA
 rw[he]at hA' ⊢
 refine Calls.evalArgs_plain (thn hA' λus s2 ⟨vs,H2,I2,r,q1,q2⟩=>?_)
 refine⟨rfl,?_,I2.kIn _ _ lC,xs3 (I.kIn _ _ lN) (I2.kIn _ _ lN) hN,(all _ I2.kIn).2,λh' ex hx=>yq6 I2 hx q2⟩
 rw[←r.length]
 exact aD q1 (by decide)
theorem Fun.okX {st:Stmt}{N ps:List Str}{sp:Sp}(F:Fun K x qual st f fd)(S:x0 N ps (y6 st))(g:∀c H Q E,sp c H Q E->c.length=ps.length)
  (b:∀(a:Value) (A:gq) (outer:List Env) (s:fZ) (H:Hp) (c:List V) (Q:VK) (E:XK),X3 k (A.deeper (envOfC qual (y6 st) s.heap.objs.size f a))->sp c H Q E ->
   ∃t,PSs (R3 (CX1 P w) P w K mg base N qual (y6 st) f a A outer s H E) (V4 st) t/\t { nx:=λ_ H'=>Q .non H',rt:=Q } (start N c) H):u7 P w K mg base (CX1 P w) (k+1) f fd ps sp:=by
 obtain⟨oc,od,kV,i,pm,an,a,ct,l,rfl,j,d⟩:=F.ex;refine xv3 j d S g λA outer s H c Q E hr e=>?_;obtain⟨t,h,q⟩:=b a A outer s H c Q E hr e;exact⟨t,h,q⟩
end
theorem n6.there {h:Heap}(x:n6 P w H h a o):∃ob,h.get? a=some ob:=by
 cases o with
 | lst xs=>obtain⟨_,_,_,_,e⟩:=x;exact⟨_,e⟩
 | tup xs=>obtain⟨_,_,_,o,e,_⟩:=x;exact⟨_,e⟩
 | dK kvs=>obtain⟨_,_,_,_,o,_,_,e,_⟩:=x;exact⟨_,e⟩
 | dT kvs=>obtain⟨_,_,_,_,o,_,_,e,_⟩:=x;exact⟨_,e⟩
 | set S n=>obtain⟨o,_,_,_,e,_⟩:=x;exact⟨_,e⟩
 | ins C dx fs=>obtain⟨_,_,_,e,_⟩:=x;exact⟨_,e⟩
 | own y=>obtain⟨_,e⟩:=x;exact⟨_,e⟩
 | xd fs=>obtain⟨_,⟨_,_,_,e,_⟩,_⟩:=x;exact⟨_,e⟩
 | rng lo hi=>obtain⟨_,_,_,e⟩:=x;exact⟨_,e⟩
 | frz ob u=>obtain⟨e,_⟩:=x;exact⟨_,e⟩
 | tbl ps=>exact⟨_,(show h.get? a=some _ from x)⟩
 | met f y=>exact⟨_,(show h.get? a=some _ from x)⟩
 | ext φ=>obtain⟨_,⟨_,e⟩,_⟩:=x;exact⟨_,e⟩
theorem HOk.track (x:HOk P w H h)(hn:H a=none)(new:n6 P w (upd H a o) h a o):HOk P w (upd H a o) h:=λb u e=>by
 by_cases hb:b=a
 .subst hb;rw[z4]at e;cases e;exact new
 .rw[z6 hb]at e
  exact(x b u e).stay (λc v _ q=>q) (λc q=>by rw[z6 (z9 q hn)];exact q) λc xs q=>by rw[z6 (z9 q hn)];exact q
def Cgt (X:Cx)(pins:List (Addr×Obj))(σ:St)(H:Hp)(ea C:Addr)(s:fZ):Prop :=
 ∃(B:Heap) (a0:Value),Heap.FlyingW B X.stack ea (.ref C) a0 s.heap/\H ea=some (zv9 ea C)/\∀(h:Heap) (tk:Nat),Heap.FlyingW B X.stack ea (.ref C) a0 h->s.heap.UpToSlots h->Inv X pins σ H { s with heap:=h,toks:=tk }
theorem Cgt.inv (x:Cgt X pins σ H a C s):Inv X pins σ H s:=by
 obtain⟨B,b,f,e,all⟩:=x;exact all s.heap s.toks f (Heap.UpToSlots.refl _)
theorem xg0 {X:Cx}{σ:St}{e:Value}{Q:Flow->fZ->Prop}{F:Value->fZ->Prop}{U:List ExceptHandler}(I:Inv X pins σ H s)(l:X.stack=X.env::X.outer)(M:X.env.frame=some X.env.locals)
  (hx:CX1 X.prog X.w X.stack H s E e s')
  (h:∀a C H' s2,e=.ref a->Cgt X pins σ (upd H' a (zv9 a C)) a C s2->H' a=none->E (.ref C) none H'->gg (gn X.prog X.w) X.A (handleBy (.ref a) X.env U) Q F s2) :
  gg (gn X.prog X.w) X.A (noteFrame e X.env) (λ_ s2=>gg (gn X.prog X.w) X.A (setFlight e none) (λ_ s3=>gg (gn X.prog X.w) X.A (handleBy e X.env U) Q F s3) F s2) F s':=by
 obtain⟨a,C,a0,B,H',rfl,N,j,y,i,k1,k2,k3,V,W,Y,k7,hE⟩:=hx;have f:H' a=none:=by
  cases q:H' a with
  | none=>rfl
  | some o =>
   obtain⟨ob,z⟩:=n6.there (y a o q);rw[i.2.1]at z
   cases z
 have c:=i;rw[l]at i;refine wpAny_looks_onW (l ▸ I.ok.frames) M i λh1 v u1=>?_;refine wpAny_landsW v λh2 p u2=>?_;have T:s'.heap.UpToSlots h2:=u1.trans u2;rw[←l]at p;refine h a C H' _ rfl ⟨B,a0,p,z4,λhh tk g uh=>?_⟩ f hE;have u3:s'.heap.UpToSlots hh:=T.trans uh;have O:∀b o,s.heap.get? b=some o->b≠a:=λb o hb z=>by
  subst z;rcases V b o hb with x|⟨o',q⟩
  .obtain⟨_,J,d,L⟩:=c.2.2.1.mem x;obtain⟨P,vs,G,_,t,_⟩:=c.first
   rw[G]at d
   cases d
   exact L vs t
  .rw[c.2.1]at q
   cases q
 obtain⟨P,vs,G,hc,t,_⟩:=g.first
 have D:∀b o,s.heap.get? b=some o->H b=none->b∈frs X.stack->∃sl,hh.get? b=some { o with slots:=sl }:=λb o q n m=>by
  obtain⟨sl,Z⟩:=k2 b o q n m;obtain⟨_,J,d,L⟩:=c.2.2.1.mem m;have e2:J={ o with slots:=sl }:=Option.some.inj (d.symm.trans Z);subst e2;obtain⟨S,R⟩:=u3 b _ Z L;exact⟨S,R⟩
 have K:HOk X.prog X.w (upd H' a (zv9 a C)) hh:=HOk.track (y.kept λb u q=>g.1 _ _ q) f ⟨⟨P,G,hc⟩,⟨P,G⟩,λh1 h2 ⟨o,ho,r⟩ k=>⟨o,k o ho,r⟩⟩;refine I.call' (s':={ s' with heap:=hh,toks:=tk }) (ch:=[]) N ⟨λb o q n m _=>g.1 _ _ (k1 b o q n m),λb o q n m _=>D b o q n m,λb o q n _=>by rw[z6 (O b o q)];exact k3 b o q n,λb o q _=>?_,λb xs q=>by rw[z6 (z9 (W b xs q) f)];exact W b xs q,λb o u q=>by rw[z6 (z9 (Y b o u q) f)];exact Y b o u q,λb ps q=>by
   obtain⟨more,z⟩:=k7 b ps q
   exact⟨more,by rw[z6 (z9 z f)];exact z⟩⟩ K j (λb z=>absurd z (by simp))
 rcases V b o q with x|⟨o',R⟩
 .obtain⟨_,J,d,_⟩:=I.stack.mem x;obtain⟨sl,q2⟩:=D b J d (I.stkFree b x) x;exact⟨_,q2⟩
 .exact⟨o',g.1 _ _ R⟩
section
variable {M:Model}{A:gq}{E:Value->fZ->Prop}{s:fZ}
theorem yp7 {α β:Type}{cs:List α}{b:β}{f:α->β->Sem (ForInStep β)}{Q:β->fZ->Prop}(a:∀c∈cs,∀Q':ForInStep β->fZ->Prop,Q' (.yield b) s->gg M A (f c b) Q' E s)(h:Q b s):gg M A (forIn cs b f) Q E s:=by
 induction cs with
 | nil=>exact gc h
 | cons c r ih =>
  rw[dM];exact fY (a c aw _ (ih λd e=>a d (ar _ e)))
def XAt (h:Heap)(D:Addr)(tl:List Value):Prop:=∃nm qn N bs hdct sn sub ab col dd k0 k1 k2 k3 k5 newId,h.get? D=some (excClassObj nm qn D N bs tl hdct sn sub ab col dd k0 k1 k2 k3 k5 newId)
theorem zn0.at {K:W.Frag}{tl:List Value}(x:zn0 K C tl a)(X:K.In h):XAt h C tl/\tl.contains (.type "BaseException")=true:=by
 obtain⟨m,o,N,bs,b,p,sub,d,c,e,f,g,i,j,k,q,l,n,all⟩:=wg2 x;exact⟨⟨m,o,N,bs,b,p,sub,d,c,e,f,g,i,j,k,a,X _ _ l⟩,OwnTail.base_in (all _ X).2⟩
theorem xo8 {Q:Bool->fZ->Prop}(x:XAt s.heap D tl)(q:Q ((Value.ref D::tl).contains v) s):gg M A (isSubtype (.ref D) v) Q E s:=by
 obtain⟨o,r,N,bs,b,u,sub,e,c,f,i,j,k,m,n,a,l⟩:=x;obtain⟨h,g,d,t,p⟩:=s;exact wpAny_isSubtype_exc l q
theorem xi3 {tl:List Value}{Q:Bool->fZ->Prop}(x:XAt s.heap D tl)(b:tl.contains (.type "BaseException")=true)(q:Q true s):gg M A (isExcClass (.ref D)) Q E s:=by
 obtain⟨m,n,N,bs,c,o,sub,e,d,f,g,h,i,j,k,a,l⟩:=id x;unfold isExcClass isType loadHead;refine fY (fY (wpAny_loadPart l (gc ?_)));dsimp only;rw[if_pos rfl];refine xo8 x ?_;rw[List.contains_cons,b,fV];exact q
theorem xf0 {a:Obj}{Q:Value->fZ->Prop}(b:s.heap.get? e=some a)(hc:a.cls=.ref C)(q:Q (.ref C) s):gg M A (typeOf (.ref e)) Q E s:=by
 obtain⟨h,g,d,t,c⟩:=s;unfold typeOf;refine fY (wpAny_loadPart b (gc ?_));rw[hc];exact q
theorem yj3 {i:Obj}{tl a:List Value}{Q:Bool->fZ->Prop}(n:s.heap.get? e=some i)(hc:i.cls=.ref C)(k:XAt s.heap C tl)(g:XAt s.heap D a)(m:a.contains (.type "BaseException")=true)
  (o:(Value.ref C::tl).contains (.ref D)=true) (q:Q true s):gg M A (excMatches (.ref e) (.ref D)) Q E s:=by
 obtain⟨B,F,N,bs,h,G,sub,t,j,u,v,w,x,y,z,f,l⟩:=id g;unfold excMatches;refine fY (wpAny_isInstance (T:="type") (b:=false) (show s.TypeIs (.ref D) "type" from⟨_,l,rfl⟩) (by rw[isSubtype_type];kernel_rfl) ?_);dsimp only;rw[if_neg aA]
 try (refine fY (gc ?_))
 refine fY (yp7 (λc d r p=>?_) ?_)
 .obtain rfl:=aq.mp d;refine fY (xi3 g m ?_);rw[if_neg (by decide)];exact gc p
 refine fY (xf0 n hc ?_);rw[dM];refine fY (fY (fY (xo8 k ?_)));rw[o,if_pos rfl];exact gc (gc (gc q))
end
abbrev xo9 (X:Cx) (ea:Addr):Cx:={ X with A:=X.A.mark (some (.ref ea)),calm:=false,xe:=λ_ _=>False }
theorem Inv.sx {σ:St}(I:Inv X pins σ H s)(ea:Addr):Inv (xo9 X ea) pins σ H s :=
 ⟨⟨I.ok.mod,I.ok.kind,I.ok.glob,I.ok.blt,I.ok.above,I.ok.inj,I.ok.has,I.ok.cab,(λz=>by cases z),I.ok.frames,I.ok.stk,I.ok.exf,I.ok.bs,I.ok.bsz,I.ok.noex,I.ok.exfs,I.ok.funs,I.ok.frf⟩,I.os,I.bare,I.base,I.loc,I.cell,I.free,I.freeC,I.pin,I.hok,I.len⟩
theorem Inv.unsx {X:Cx}{σ:St}(ok:X.Ok)(I:Inv (xo9 X ea) pins σ H s):Inv X pins σ H s :=
 ⟨ok,I.os,I.bare,I.base,I.loc,I.cell,I.free,I.freeC,I.pin,I.hok,I.len⟩
def PH (X:Cx)(hs:List ExceptHandler)(t:Addr->Addr->TS):Prop:=∀(pins:List (Addr×Obj)) (σ:St) (H:Hp) (ea C:Addr) (s:fZ) (D:zc1),Cgt X pins σ H ea C s->t ea C D σ H ->
 gg (gn X.prog X.w) X.A (handleBy (.ref ea) X.env hs) (SP X pins D) X.xe s
theorem xf1 {X:Cx}{σ:St}{E:Value->fZ->Prop}{Q:Unit->fZ->Prop}(I:Inv X pins σ H s)(O:X.N.Nodup)(hi:X.N[i]?=some x)(P:X.env.scope.names.lookup x=some .local)
  (h:∀s',Inv X pins (σ.set i none) H s'->Q () s'):gg M A (do bindName X.env x .none;unbindBehindTheSuite X.env x pos) Q E s:=by
 obtain⟨m,G,R⟩:=id I.loc;have f:(X.env.scope.kind == .class || (X.env.scope.kind == .module&&X.env.locals != X.env.globals))=false:=by rw[I.ok.kind];rfl
 obtain⟨Z,_,_,S,_⟩:=id G;have B:i<σ.length:=by rw[I.len];exact(ag.mp hi).1
 refine wpAny_nameGoes_keeps P G f λh' v C l=>h _ ?_;have a:∀b o,X.s₀.heap.get? b=some o->h'.get? b=s.heap.get? b:=λb o e=>l.2 b (aX (aM (aB e) I.ok.above));refine⟨I.ok,I.os,I.bare,⟨λb o e n w g=>(a b o e).trans (I.base.keep b o e n w g),λb o e n w g=>?_,I.base.free,λb o e g=>?_,I.base.tups,I.base.frzs,I.base.tbls⟩,⟨_,C,λj y Y D r L=>?_⟩,λy c e=>?_,I.free,I.freeC,λp T=>?_,λb V e=>?_,by rw[bt];exact I.len⟩
 .obtain⟨sl,q⟩:=I.base.slot b o e n w g;exact⟨sl,(a b o e).trans q⟩
 .obtain⟨o',q⟩:=I.base.there b o e g;exact⟨o',(a b o e).trans q⟩
 .have F:j≠i:=λz=>by
   subst z;rw[bB B]at r
   cases r
  rw[br (Ne.symm F)]at r;obtain⟨J,W,q⟩:=R j y Y D r L;refine⟨J,W,?_⟩;rcases q with⟨k,e⟩|⟨k,c,e,z⟩
  .have u:y≠x:=λe=>F (zr7 O D (e ▸ hi));exact .inl ⟨k,by show(if y=x then v else m y)=some J;rw[if_neg u];exact e⟩
  .exact .inr ⟨k,c,e,z.sameBut l (I.cne y c e)⟩
 .obtain⟨K,z⟩:=I.cell y c e;exact⟨K,z.sameBut l (I.cne y c e)⟩
 .obtain⟨e,n,u,U,d⟩:=I.pin p T;exact⟨(l.2 p.1 u).trans e,n,u,U,d⟩
 .refine(I.hok b V e).stay (λc K t q=>(l.2 c ?_).trans q) (λ_ q=>q) λ_ _ q=>q;rintro rfl;have fr:=I.free;rcases t with rfl|t
  .rw[fr]at e;cases e
  .rw[fr]at t;cases t
section
variable {X:Cx}
abbrev yi0 (i:Nat) (D:zc1):zc1:={ nx:=λσ H=>D.nx (σ.set i none) H,rt:=D.rt,bk:=λσ H=>D.bk (σ.set i none) H,ct:=λσ H=>D.ct (σ.set i none) H }
theorem we6 {R5:List ExceptHandler}{ts:Addr->TS}{C0 D0:Addr}{tl0 tlD:List Value}{n0 nD:String}(h0:zn0 X.K C0 tl0 n0)(hD:zn0 X.K D0 tlD nD)(hc:(Value.ref C0::tl0).contains (.ref D0)=true)
  (hg:Gl X y) (hm:X.mg y=some (.ref D0)) (hN:X.N.Nodup) (hi:X.N[i]?=some n) (hk:X.env.scope.names.lookup n=some .local) (hs:∀ea,PSs (xo9 X ea) (b0::suite) (ts ea)) (hdb:(y==("__debug__":Str))=false:=by decide) :
  PH X (.ExceptHandler (some (.Name y np)) (some n) (b0::suite) pos::R5) (λea C D σ H=>C=C0/\ts ea (yi0 i D) (σ.set i (some (.ref ea))) H):=by
 rintro pins σ H ea C s D G ⟨rfl,h⟩;have I:=G.inv;have Is:=I.sx ea;obtain⟨B,a0,fl,hH,all⟩:=id G;obtain⟨oe,vs,he,hcl,_,_⟩:=fl.first
 refine wpAny_handleBy_cons (codeAny_handlers_test (A6 Is hg hm ?_ hdb)) (by intro q;cases q);refine yj3 he hcl (h0.at I.kIn).1 (hD.at I.kIn).1 (hD.at I.kIn).2 hc ?_;refine codeAny_handlers_suite_as ?_;refine lands_againW fl λh2 fl2 u2=>?_;have I2:Inv X pins σ H { s with heap:=h2,toks:=s.toks }:=all h2 s.toks fl2 u2;refine za5 (X:=xo9 X ea) (v:=.ref ea) (I2.sx ea) hN hi (.inl hk) rfl (λs3 I3 _=>?_) (.inr hk);refine gu (hs ea pins s3 _ H (yi0 i D) I3 h) (λf s4 h4=>?_) λ_ _ z=>z.elim;have fin:∀{σ':St} {H':Hp} {R:St->Hp->Prop} {Q:Unit->fZ->Prop} {E:Value->fZ->Prop},Inv (xo9 X ea) pins σ' H' s4->R (σ'.set i none) H'->(∀s5,(∃σ5 H5,Inv X pins σ5 H5 s5/\R σ5 H5)->Q () s5)->gg (gn X.prog X.w) X.A (do bindName X.env n .none;unbindBehindTheSuite X.env n pos) Q E s4 :=
  λI4 r q=>xf1 (I4.unsx I.ok) hN hi hk λs5 I5=>q s5 ⟨_,_,I5,r⟩
 cases f with
 | next =>
  obtain⟨σ',H',I4,q4⟩:=h4;exact fin (R:=D.nx) I4 q4 λs5 z=>z
 | brk =>
  obtain⟨σ',H',I4,q4⟩:=h4;exact fin (R:=D.bk) I4 q4 λs5 z=>z
 | cont =>
  obtain⟨σ',H',I4,q4⟩:=h4;exact fin (R:=D.ct) I4 q4 λs5 z=>z
 | ret u =>
  obtain⟨v,σ',H',I4,r4,q4⟩:=h4;refine fin (R:=λ_ H=>D.rt v H) I4 q4 λs5 ⟨σ5,H5,I5,q5⟩=>⟨v,σ5,H5,I5,r4,q5⟩
def P4 (P:gf)(w:gp)(K:W.Frag)(mg:Str->Option Value)(base:Heap)(k:Nat)(x:Str)(ps:List Str)(sp:Sp):Prop :=
 ∃f fd,u7 P w K mg base (CX1 P w) k f fd ps sp/\W.keepIn K (.ref f)=true/\mg x=some (.ref f)/\P3 K fd ps []
theorem xt1 {p cpos epos pos:Pos}{th:Addr->Addr->TS}(kn:P4 X.prog X.w X.K X.mg X.base k x ps sp)(hr:X3 j X.A)(hg:Gl X x)(ha:PA X.nox (e::es) t)(hh:PH X (h0::hs) th)
  (hst:X.stack=X.env::X.outer) (hfr:X.env.frame=some X.env.locals) (hj:k<=j:=by decide) (hdb:(x==("__debug__":Str))=false:=by decide)
  (he:gh (e::es) X.env=(false,eval e X.env)::gh es X.env:=by rfl) (hpl:(backTo cpos (gh es X.env)).any (·.1)=false:=by rfl) (hsw:swapsWith (.Call (.Name x p) (e::es) [] cpos) none epos.line X.env=pure false:=by rfl) :
  PS X (.Try [.Expr (.Call (.Name x p) (e::es) [] cpos) epos] (h0::hs) [] [] pos) (λD σ H=>∃E:XK,(t σ H λvs H1=>sp vs H1 (λ_ H2=>D.nx σ H2) E)/\∀(ea C:Addr) (H':Hp),E (.ref C) none H'->H' ea=none->th ea C D σ (upd H' ea (zv9 ea C))):=by
 rintro pins s σ H D I ⟨E,h1,h2⟩;obtain⟨f,fd,G,hk,hm,hb⟩:=kn;refine wpAny_Try_except (wpAny_execs_cons (wpAny_Expr_any (wpAny_Call_Name_kw (A6 I hg hm ?_ hdb)) I.quiet hsw));refine W.callWith_K (h₀:=X.base) I.ok.mod.kin hk (gu (ha cpos pins s σ H _ (I.wish _) h1) (λus s1 ⟨vs,H1,I1,r,q⟩=>⟨I1.kIn,?_⟩) λ_ _ z=>z.elim) he hpl;have I1':Inv X pins σ H1 s1:=I1.unwish;have hl:(us++[]).length=ps.length:=by rw[bu,←r.length];exact G.len _ _ _ _ q
 have bb:=hb s1 us I1'.kIn hl;rw[bu]at bb;refine wpAny_call (codeAny_mono (G.run X.A X.stack s1 H1 ⟨us,[]⟩ us vs _ E (hr.mono hj) I1'.env0 bb r q) λrr s' hq=>?_)
 cases rr with
 | error ex =>
  exact xg0 I1' hst hfr hq λea C H' s2 _ cg hn hE=>hh pins σ _ ea C s2 D cg (h2 ea C H' hE hn)
 | ok fl =>
  cases fl with
  | ret u =>
   obtain⟨v,H',I2,_,q2⟩:=I1'.after hq;exact wpAny_execs_nil (wpAny_execs_nil ⟨σ,H',I2,q2⟩)
  | next=>exact False.elim hq
  | brk=>exact False.elim hq
  | cont=>exact False.elim hq
theorem yb8:V1 X (.builtin "isinstance") (λxs H Q=>∃a C D,xs=[.ref a,.ref D]/\H a=some (zv9 a C)/\W.isIn X.K (.ref C) D=true/\Q (.bl true) H):=by
 intro pins s σ H xs j Q I r h;obtain⟨a,C,D,rfl,b,hi,q⟩:=h;obtain⟨g,i,rfl,e,f⟩:=yo3 r
 cases e
 cases f
 obtain⟨⟨o,d,c⟩,_⟩:=I.hok a _ b;refine W.isi_call I.kIn (λM=>?_) hi (λz=>nomatch z) ⟨.bl true,H,I,rfl,q⟩;exact c ▸ (W.Looks.ld d).andThen .now
end
structure xf2 (K:W.Frag) (mg:Str->Option Value) (TE:Addr):Prop where
 m:mg "TurnError"=some (.ref TE)
 c:zn0 K TE bmV "ValueError.__new__"
 v:mg "ValueError"=none
structure zp7 (K:W.Frag) (mg:Str->Option Value) (TE:Addr) (x:Str) (C:Addr):Prop where
 m:mg x=some (.ref C)
 c:zn0 K C (.ref TE::bmV) "ValueError.__new__"
 i:W.isIn K (.ref C) TE=true
def kvD (x:Key×V):PyData×PyData:=(match x.1 with | .inl i=>.int i | .inr t=>.str t,match x.2 with | .int i=>.int i|_=>.none)
mutual
inductive Dt (H:Hp):V->PyData->Prop
 | non:Dt H .non .none
 | bl (b:Bool):Dt H (.bl b) (.bool b)
 | int (i:Int):Dt H (.int i) (.int i)
 | str (x:Str):Dt H (.str x) (.str x)
 | lst {a:Addr} {xs:List V} {ds:List PyData}:H a=some (.lst xs)->Dts H xs ds->Dt H (.ref a) (.list ds)
 | tup {a:Addr} {xs:List V} {ds:List PyData}:H a=some (.tup xs)->Dts H xs ds->Dt H (.ref a) (.tuple ds)
 | dct {a:Addr} {kvs:List (Key×V)}:H a=some (.dK kvs)->Dt H (.ref a) (.dict (kvs.map kvD))
inductive Dts (H:Hp):List V->List PyData->Prop
 | nil:Dts H [] []
 | cons {x:V} {d:PyData} {xs:List V} {ds:List PyData}:Dt H x d->Dts H xs ds->Dts H (x::xs) (d::ds)
end
mutual
theorem Dt.same (s:y4 H H'):∀{x:V} {d:PyData},Dt H x d->Dt H' x d
 | _,_,.non=>.non
 | _,_,.bl b=>.bl b
 | _,_,.int i=>.int i
 | _,_,.str x=>.str x
 | _,_,.lst h r=>.lst (s _ _ h) (Dts.same s r)
 | _,_,.tup h r=>.tup (s _ _ h) (Dts.same s r)
 | _,_,.dct h=>.dct (s _ _ h)
theorem Dts.same (s:y4 H H'):∀{xs:List V} {ds:List PyData},Dts H xs ds->Dts H' xs ds
 | _,_,.nil=>.nil
 | _,_,.cons h r=>.cons (Dt.same s h) (Dts.same s r)
end
theorem Dts.length :∀{xs:List V} {ds:List PyData},Dts H xs ds->xs.length=ds.length
 | _,_,.nil=>rfl
 | _,_,.cons _ r=>by rw[av,av,Dts.length r]
theorem Dts.get :∀{xs:List V} {ds:List PyData} {i:Nat} {x:V},Dts H xs ds->xs[i]?=some x->∃d,ds[i]?=some d/\Dt H x d
 | _,_,_,_,.nil,e=>by simp at e
 | _,_,0,_,.cons h _,e=>by simp at e;subst e;exact⟨_,rfl,h⟩
 | _,_,i+1,x,.cons _ r,e=>by
  obtain⟨d,h1,h2⟩:=Dts.get (i:=i) (x:=x) r (by simpa using e)
  exact⟨d,by simpa using h1,h2⟩
def tyD:PyData->String
 | .none=>"NoneType"
 | .bool _=>"bool"
 | .int _=>"int"
 | .str _=>"str"
 | .list _=>"list"
 | .tuple _=>"tuple"
 | .dict _=>"dict"
theorem Dt.ty {K:W.Frag}(h:Dt H x d):D4 K H x (.type (tyD d)):=by
 cases h with
 | non=>exact .non
 | bl b=>exact .bl b
 | int i=>exact .int i
 | str x=>exact .str x
 | lst h _=>exact .lst h
 | tup h _=>exact .tup h
 | dct h=>exact .dK h
section
variable {X:Cx}{e:Expr}{es:List Expr}{pos:Pos}{C:St->Hp->Prop}{d:PyData}{ds:List PyData}
def tDt (C:St->Hp->Prop)(d:PyData):TE:=λσ H Q=>C σ H/\∀v H',y4 H H'->Dt H' v d->Q v H'
def xp2 (C:St->Hp->Prop)(ds:List PyData):TA:=λσ H Q=>C σ H/\∀vs H',y4 H H'->Dts H' vs ds->Q vs H'
def xv1 (C:St->Hp->Prop):Prop:=∀σ H H',y4 H H'->C σ H->C σ H'
theorem PE.weak (h:PE X e t)(k:∀σ H Q,t' σ H Q->t σ H Q):PE X e t':=λpins s σ H Q I q=>h pins s σ H Q I (k σ H Q q)
theorem PA.weak (h:PA X es t)(k:∀σ H Q,t' σ H Q->t σ H Q):PA X es t':=λpos pins s σ H Q I q=>h pos pins s σ H Q I (k σ H Q q)
structure DE (X:Cx) (e:Expr) (t:TE):Prop where
 h:PE X e t
structure DA (X:Cx) (es:List Expr) (t:TA):Prop where
 h:PA X es t
structure DS (X:Cx) (st:Stmt) (t:TS):Prop where
 h:PS X st t
structure DSs (X:Cx) (st:List Stmt) (t:TS):Prop where
 h:PSs X st t
theorem h8 {st:Stmt}{R5:List Stmt}(h1:DS X st t)(h2:DSs X R5 u):DSs X (st::R5) (wb8 t u):=⟨@z7 _ _ _ _ _ h1.h h2.h⟩
theorem xx3 (hN:X.N.Nodup)(hi:X.N[i]?=some x)(hx:Loc X.env.scope x)(he:DE X e te)(hs:swapsWith e (some (.Name x pos')) pos.line X.env=pure false:=by rfl)(hf:X.fn x=true∨X.env.scope.names.lookup x=some .local:=by first|exact .inl rfl|exact .inr rfl|assumption) :
  DS X (.Assign [.Name x pos'] e pos) (yt8 te (h9 i)):=⟨u0 hN hi hx he.h hs hf⟩
theorem xl0 {j pos}:DE X (.Constant .none j pos) (tDt C .none):=⟨ye9.weak λ_ H _ q=>q.2 _ H (y4.refl _) .non⟩
theorem we4 {b j pos}:DE X (.Constant (.bool b) j pos) (tDt C (.bool b)):=⟨Y3.weak λ_ H _ q=>q.2 _ H (y4.refl _) (.bl b)⟩
theorem ye8 {i j pos}:DE X (.Constant (.int i) j pos) (tDt C (.int i)):=⟨y8.weak λ_ H _ q=>q.2 _ H (y4.refl _) (.int i)⟩
theorem xl1 {x j pos}:DE X (.Constant (.str x) j pos) (tDt C (.str x)):=⟨W7.weak λ_ H _ q=>q.2 _ H (y4.refl _) (.str x)⟩
theorem zf9 (hp:H p=none)(u:HO):y4 H (upd H p u):=λb o h=>by
 have hne:b≠p:=λz=>by rw[z,hp]at h;cases h
 show(if b=p then _ else _)=_
 rw[if_neg hne];exact h
theorem new_at (u:HO):upd H p u p=some u:=by show(if p=p then _ else _)=_;rw[if_pos rfl]
theorem N5:DA X [] (xp2 C []):=⟨z5.weak λ_ H _ q=>q.2 [] H (y4.refl _) .nil⟩
theorem m4 (hC:xv1 C)(he:DE X e (tDt C d))(hr:DA X es (xp2 C ds))(hs:gh (e::es) X.env=(false,eval e X.env)::gh es X.env:=by rfl):DA X (e::es) (xp2 C (d::ds)) :=
 ⟨(z0 he.h hr.h hs).weak λσ H Q q=>⟨q.1,λv H1 s1 hv=>⟨hC σ H H1 s1 q.1,λvs H2 s2 hvs=>q.2 (v::vs) H2 (s1.trans s2) (.cons (hv.same s2) hvs)⟩⟩⟩
theorem xz8 {x1}(h:DA X es (xp2 C ds))(hz:ds.length<=ge):DE X (.Tuple es x1 pos) (tDt C (.tuple ds)) :=
 ⟨(P9 h.h).weak λ_ _ _ q=>⟨q.1,λvs H1 s1 hvs=>⟨by rw[hvs.length];exact hz,λp hp=>q.2 _ _ (s1.trans (zf9 hp _)) (.tup (new_at _) (hvs.same (zf9 hp _)))⟩⟩⟩
theorem zd0 (h:DA X es (xp2 C ds))(hz:ds.length<=ge):DE X (.List es pos) (tDt C (.list ds)) :=
 ⟨(Z2 h.h).weak λ_ _ _ q=>⟨q.1,λvs H1 s1 hvs=>⟨by rw[hvs.length];exact hz,λp hp=>q.2 _ _ (s1.trans (zf9 hp _)) (.lst (new_at _) (hvs.same (zf9 hp _)))⟩⟩⟩
theorem yk8 (h:PE X e t)(k:∀σ H Q,C σ H->(∀v H',y4 H H'->Dt H' v d->Q v H')->t σ H Q):DE X e (tDt C d):=⟨h.weak λσ H Q q=>k σ H Q q.1 q.2⟩
end
section
variable {prog:gf}{w:gp}{A:gq}{E:Value->fZ->Prop}{s:fZ}
def gat (h:Heap)(vs:List Value):Heap:=(h.push (gD "list" #[] 0)).update h.objs.size (Obj.mapSeq (·++vs.toArray))
theorem yh2 {vs:List Value}{R:List Value->fZ->Prop}(i:IsTup s.heap a vs.toArray)(hz:vs.length<=ge)(q:R vs { s with heap:=gat s.heap vs }):gg (gn prog w) A (collect (.ref a)) R E s:=by
 obtain⟨o,h,f,n,g⟩:=i;have c:(s.heap.push (gD "list" #[] 0)).get? a=some o:=ap _ h;have b:(s.heap.push (gD "list" #[] 0)).get? s.heap.objs.size=some (gD "list" #[] 0):=aC _ rfl;unfold collect;refine fY (wpAny_runValue (codeAny_builtin entry_proto_collect' (fY (m:=newList []) (wpAny_newList (gc ⟨Code.quiet_builtin _ (by decide +kernel),codeAny_builtin entry_list_iadd' ?_⟩)))));show gg _ _ (Builtin.List.listExtendWith (.ref s.heap.objs.size) (.ref a) (.ref s.heap.objs.size)) _ _ { s with heap:=s.heap.push (gD "list" #[] 0) };(unfold Builtin.List.listExtendWith;refine fY (wpAny_typeOf (T:="tuple") ⟨o,c,f⟩ ?_));have d:(Value.type "tuple" == Value.type "tuple")=true:=rfl;rw[if_pos (show _=true by rw[d,fV])];refine fY (listItems_at c g (fY (listItems_at (xs:=#[]) (n:=0) b rfl ?_)));rw[if_neg (show ¬_=true by simp)];refine fY (listUpdate_at (xs:=#[]) (n:=0) b rfl (gc ?_) (aG _) (by simp only[Array.size_append,ay,bO];show 0+vs.length<=_;lia));show gg (gn prog w) A (load s.heap.objs.size >>= _) R E { s with heap:=gat s.heap vs };refine fY (wpAny_load (get?_update_seq b _) ?_);have e:((#[]:Array Value)++vs.toArray).toList=vs:=by simp
 exact gc (e.symm ▸ q)
theorem zq6 (h:Heap)(vs:List Value):(gat h vs).objs.size=h.objs.size+1:=by unfold gat;rw[Heap.size_update,size_push']
theorem zo5 {h:Heap}(e:h.get? b=some o):(gat h vs).get? b=some o:=by
 have a:=aB e;unfold gat;rw[Heap.get?_update_ne _ _ _ _ (aX a),Heap.get?_push_ne _ _ _ (aX a)];exact e
theorem yt2 {vs:List Value}{R:Value->fZ->Prop}(i:IsTup s.heap a vs.toArray)(h:IntsAre vs ns)(c:vs.length<64)
  (q:∀(out:Array Value) (b:List Int),IntsAre out.toList b->b.Perm ns->b.Pairwise (·<=·)->R (.ref (gat s.heap vs).objs.size) { s with heap:=sortedHeap ((gat s.heap vs).push (gD "list" vs.toArray 0)) (gat s.heap vs).objs.size vs out }) :
  gg (gn prog w) A (call (.builtin "sorted") [.ref a]) R E s:=by
 have d:((gat s.heap vs).push (gD "list" vs.toArray 0)).get? (gat s.heap vs).objs.size=some (gD "list" vs.toArray 0):=aC _ rfl;refine Calls.call_function_entry kind_sorted plain_sorted entry_sorted (args_sorted1 (.ref a)) ?_;unfold Builtin.«sorted»;refine fY (m:=checkCount "sorted" 1 1 _) (gc (fY (yh2 i (by rw[sizeLine_eq];lia) (fY (wpAny_newList ?_)))));show gg _ _ _ _ _ { s with heap:=(gat s.heap vs).push (gD "list" vs.toArray 0) };refine fY (gr (wpAny_call_entry slot_list_sort ⟨_,d,rfl⟩ entry_list_sort (list_sort_tree d h c λout b e f g=>⟨_,rfl,gc ⟨_,rfl,q out b e f g⟩⟩) (args_list_sort _)))
end
section
variable {X:Cx}
theorem yc1:V1 X (.builtin "sorted") (λxs H Q=>∃(p:Addr) (f:List Int),xs=[.ref p]/\SqT X.K H p (f.map V.int)/\f.length<64/\∀(l:Addr) (c:List Int),H l=none->c.Perm f->c.Pairwise (·<=·)->Q (.ref l) (upd H l (.lst (c.map V.int)))):=by
 intro pins s σ H xs F Q I r h;obtain⟨p,f,rfl,y,v,q⟩:=h;obtain⟨u,rfl,D⟩:=K6 r
 cases D
 obtain⟨a,k,C,A⟩:=I.tuple y;have B:=k.length;rw[ae]at B A;refine yt2 C (J2 k) (by lia) λout c m j t=>?_;have E:=j.length_eq;have i:=zq6 s.heap a;obtain⟨e,x⟩:=sortedHeap_at (vs:=a) (out:=out) (n:=0) (show((gat s.heap a).push (gD "list" a.toArray 0)).get? (gat s.heap a).objs.size=some (gD "list" a.toArray 0) from aC _ rfl);have d:∀b o,s.heap.get? b=some o->(sortedHeap ((gat s.heap a).push (gD "list" a.toArray 0)) (gat s.heap a).objs.size a out).get? b=some o:=λb o z=>by
  have g:=aB z;have h1:b<(gat s.heap a).objs.size:=i.symm ▸ cK g;rw[sortedHeap_old (aX h1) (by rw[size_push'];exact cK h1),Heap.get?_push_ne _ _ _ (aX h1)];exact zo5 z
 refine⟨.ref (gat s.heap a).objs.size,_,I.laid (t':=s.toks) d (by lia) (show n6 X.prog X.w _ _ _ (.lst (c.map V.int)) from⟨by rw[ae];lia,out.toList,e,K7 m,by simpa using x⟩),rfl,q _ c (I.hok.fresh (by lia)) j t⟩
end
section
variable {X:Cx}{pins:List (Addr×Obj)}{σ:St}{H:Hp}{s:fZ}
theorem xi9 {K:W.Frag}{t:Value}:∀{cs:List String} {us:List Value},r8 (cs.map V.ty) us->us=cs.map Value.type
 | [],_,r=>by cases r;rfl
 | c::cs,_,r=>by
  cases r with
  | cons a b =>
   cases (show _=Value.type c from a)
   rw[xi9 (K:=K) (t:=t) b];rfl
theorem yq3 {E:Value->fZ->Prop}{Q:Value->fZ->Prop}{its:List Value}(I:Inv X pins σ H s)(f:p8 x u)(ty:Dt H x d)(m:IsTup s.heap g its.toArray)(e:W.kitAny X.K (.type (tyD d)) its=some b)(h:∀tk,Q (.bool b) { s with toks:=tk }) :
  gg (gn X.prog X.w) A (call (.builtin "isinstance") [u,.ref g]) Q E s:=by
 obtain⟨o,l,j,n,k⟩:=m;have c:s.heap.get? g=some ⟨.type "tuple",o.dict,.seq its.toArray n,o.slots⟩:=by rw[l];cases o;cases j;cases k;rfl
 cases ty with
 | non=>cases (show u=Value.none from f);exact W.kia_tup W.kitx_none I.kIn True.intro c e (λz=>nomatch z) h
 | bl y=>cases (show u=Value.bool y from f);exact W.kia_tup W.kitx_bool I.kIn True.intro c e (λz=>nomatch z) h
 | int i=>obtain⟨t,q⟩:=(show ∃t,u=Value.int i t from f);cases q;exact W.kia_tup W.kitx_int I.kIn True.intro c e (λz=>nomatch z) h
 | str y=>obtain⟨t,q⟩:=(show ∃t,u=Value.str y t from f);cases q;exact W.kia_tup W.kitx_str I.kIn True.intro c e (λz=>nomatch z) h
 | @lst a xs ds ea _ =>
  cases (show u=Value.ref a from f)
  obtain⟨_,_,n,_,h1⟩:=(show n6 X.prog X.w H s.heap a (.lst xs) from I.hok a _ ea);exact W.kia_tup W.kitx_list I.kIn ⟨_,h1,rfl⟩ c e (λz=>nomatch z) h
 | @tup a xs ds ea _ =>
  cases (show u=Value.ref a from f)
  obtain⟨_,_,_,p⟩:=(show n6 X.prog X.w H s.heap a (.tup xs) from I.hok a _ ea);obtain⟨o,h1,h2,_⟩:=p;exact W.kia_tup W.kitx_tuple I.kIn ⟨o,h1,h2⟩ c e (λz=>nomatch z) h
 | @dct a kvs ea =>
  cases (show u=Value.ref a from f)
  obtain⟨_,_,v,_,p⟩:=(show n6 X.prog X.w H s.heap a (.dK kvs) from I.hok a _ ea);obtain⟨o,es,r,h1,h2,_⟩:=p;exact W.kia_tup W.kitx_dict I.kIn ⟨o,h1,h2.1⟩ c e (λz=>nomatch z) h
theorem yb7:V1 X (.builtin "isinstance") (λxs H Q=>∃(x:V) (d:PyData) (c:Addr) (a:List String) (b:Bool),xs=[x,.ref c]/\Dt H x d/\SqT X.K H c (a.map V.ty)/\W.kitAny X.K (.type (tyD d)) (a.map Value.type)=some b/\Q (.bl b) H):=by
 intro pins s σ H xs o Q I r h;obtain⟨x,d,c,a,b,rfl,ty,f,e,q⟩:=h;obtain⟨u,p,rfl,l,k⟩:=yo3 r
 cases k
 obtain⟨g,j,i,n⟩:=I.tuple f;rw[←xi9 (K:=X.K) (t:=.none) j]at e;exact yq3 I l ty i e λm=>⟨.bl b,H,I.tok m,rfl,q⟩
def wd8 (K:W.Frag)(tl:TE):TI:=λσ H R=>tl σ H λx H1=>∃a,x=.ref a/\(((∃xs,SqL K H1 a xs)/\R (Itl K a) H1)∨((∃xs,SqT K H1 a xs)/\R (Itt K a) H1))
theorem xl4 (hl:PE X l tl):PI X tg l (wd8 X.K tl):=by
 intro pins s σ H R I h;refine thn (hl pins s σ H _ I h) λv s1 ⟨x,H1,c,k,i⟩=>?_;obtain⟨a,e,i⟩:=i;subst e
 cases k
 rcases i with⟨⟨xs,g⟩,q⟩|⟨⟨xs,g⟩,q⟩
 .obtain⟨d,rv,p,j⟩:=c.list g;refine wpAny_pyIter_list p.isList ?_;refine⟨s1.heap.objs.size,[s1.heap.objs.size],_,_,H1,rfl,c.kept (t':=s1.toks) λb o e=>ap _ e,ya9 a _,⟨_,aC _ rfl,rfl,rfl⟩,λb f=>?_,q⟩;have e:b=s1.heap.objs.size:=by simpa using f
  subst e;exact c.fpOk (af _) (c.hok.fresh (af _))
 .obtain⟨d,rv,p,j⟩:=c.tuple g;refine wpAny_pyIter_tuple (show s1.heap.IsTuple a d.toArray from p) ?_;refine⟨s1.heap.objs.size,[s1.heap.objs.size],_,_,H1,rfl,c.kept (t':=s1.toks) λb o e=>ap _ e,zv7 a _,⟨_,aC _ rfl,rfl,rfl⟩,λb f=>?_,q⟩;have e:b=s1.heap.objs.size:=by simpa using f
  subst e;exact c.fpOk (af _) (c.hok.fresh (af _))
mutual
theorem Dt.reads (I:Inv X pins σ H s):∀{x:V} {d:PyData},Dt H x d->d.canLay0=true->∀u,p8 x u->∃as,Reads s.heap u d as
 | _,_,.non,_,u,r=>by cases (show u=Value.none from r);exact⟨_,.none⟩
 | _,_,.bl b,_,u,r=>by cases (show u=Value.bool b from r);exact⟨_,.bool b⟩
 | _,_,.int i,_,u,r=>by obtain⟨t,rfl⟩:=(show ∃t,u=Value.int i t from r);exact⟨_,.int i t⟩
 | _,_,.str x,_,u,r=>by obtain⟨t,rfl⟩:=(show ∃t,u=Value.str x t from r);exact⟨_,.str x t⟩
 | _,_,.lst h hs,c,u,r=>by
  cases (show u=Value.ref _ from r)
  obtain⟨its,rv,p,_⟩:=I.list (SqL.of h)
  obtain⟨o,ho,hc,n,hd⟩:=p.isList
  rw[PyData.canLay0]at c
  obtain⟨as,ha⟩:=Dts.reads I hs c its rv
  exact⟨_,.list ho hc hd (by simpa using ha)⟩
 | _,_,.tup h hs,c,u,r=>by
  cases (show u=Value.ref _ from r)
  obtain⟨its,rv,p,_⟩:=I.tuple (SqT.of h)
  obtain⟨o,ho,hc,n,hd⟩:=p
  rw[PyData.canLay0]at c
  obtain⟨as,ha⟩:=Dts.reads I hs c its rv
  exact⟨_,.tuple ho hc hd (by simpa using ha)⟩
 | _,_,.dct h,c,u,r=>by
  rw[PyData.canLay0]at c
  cases c
theorem Dts.reads (I:Inv X pins σ H s):∀{xs:List V} {ds:List PyData},Dts H xs ds->PyData.canLayAll0 ds=true->∀us,r8 xs us->∃as,ReadsAll s.heap us ds as
 | _,_,.nil,_,us,r=>by cases r;exact⟨_,.nil⟩
 | _,_,.cons h hs,c,us,r=>by
  cases r with
  | cons r1 r2 =>
   rw[PyData.canLayAll0,bn]at c
   obtain⟨as,ha⟩:=Dt.reads I h c.1 _ r1
   obtain⟨bs,hb⟩:=Dts.reads I hs c.2 _ r2
   exact⟨_,.cons ha hb⟩
end
end
section
variable {P:gf}{w:gp}{K:W.Frag}{mg:Str->Option Value}{base:Heap}{N:List Str}{qual:Str}{scope:Scope}{f:Addr}{cd:Value}{A:gq}{outer:List Env}{s s1:fZ}{H H1:Hp}{E:XK}{pins:List (Addr×Obj)}{σ:St}
theorem xv7:D7 (CX1 P w) (R3 (CX1 P w) P w K mg base N qual scope f cd A outer s H E) E:=λ_ _ _ _ _ _ I hx=>xj3 I hx λ_ _ _ z=>z
end
section
variable {P:gf}{w:gp}{K:W.Frag}{mg:Str->Option Value}{base:Heap}{N:List Str}{qual:Str}{scope:Scope}{f:Addr}{cd:Value}{A:gq}{outer:List Env}{s:fZ}{H:Hp}{E:XK}
theorem yr9 {p pos:Pos}{ps:List Str}{sp:Sp}{k j:Nat}(kn:P4 P w K mg base k x ps sp)(hr:X3 j (A.deeper (envOfC qual scope s.heap.objs.size f cd)))(hg:Gl (R3 (CX1 P w) P w K mg base N qual scope f cd A outer s H E) x)
  (ha:PA (R3 (CX1 P w) P w K mg base N qual scope f cd A outer s H E) (e::es) t) (hj:k<=j:=by decide) (hdb:(x==("__debug__":Str))=false:=by decide)
  (he:gh (e::es) (envOfC qual scope s.heap.objs.size f cd)=(false,eval e (envOfC qual scope s.heap.objs.size f cd))::gh es (envOfC qual scope s.heap.objs.size f cd):=by rfl) (hpl:(backTo pos (gh es (envOfC qual scope s.heap.objs.size f cd))).any (·.1)=false:=by rfl) :
  PE (R3 (CX1 P w) P w K mg base N qual scope f cd A outer s H E) (.Call (.Name x p) (e::es) [] pos) (xp0 sp [] E t):=by
 obtain⟨g,gd,G,hk,hm,hb⟩:=kn;exact yx1 (X:=R3 (CX1 P w) P w K mg base N qual scope f cd A outer s H E) G (hr.mono hj) hg hm hk hb .nil xv7 ha hdb he hpl
end
section
variable {X:Cx}
theorem yw8 (f:X.A.units+64<cLine):OpR X (compareOp .Eq) (λx y H Q=>∃d e,Dt H x d/\Dt H y e/\PySem.SeqAt.shaped d=true/\PySem.SeqAt.shaped e=true/\Q (.bl (PyData.eqv d e)) H):=by
 intro pins s σ H x y v u Q I j k h;obtain⟨d,e,b,c,s1,a,q⟩:=h;obtain⟨l,g⟩:=b.reads I (PySem.SeqAt.canLay_of_shaped s1) v j;obtain⟨bs,i⟩:=c.reads I (PySem.SeqAt.canLay_of_shaped a) u k;exact eq_dataH g i s1 a f ⟨.bl _,H,I,rfl,q⟩
theorem ye4 (f:X.A.units+64<cLine):OpR X (compareOp .NotEq) (λx y H Q=>∃d e,Dt H x d/\Dt H y e/\PySem.SeqAt.shaped d=true/\PySem.SeqAt.shaped e=true/\Q (.bl (!PyData.eqv d e)) H):=by
 intro pins s σ H x y v u Q I j k h;obtain⟨d,e,b,c,s1,a,q⟩:=h;obtain⟨l,g⟩:=b.reads I (PySem.SeqAt.canLay_of_shaped s1) v j;obtain⟨bs,i⟩:=c.reads I (PySem.SeqAt.canLay_of_shaped a) u k;exact ne_dataH g i s1 a f ⟨.bl _,H,I,rfl,q⟩
theorem xs7 (i:X.A.units+65<cLine):OpR X (compareOp .In) (λx y H Q=>∃(a:Addr) (xs:List V) (ds:List PyData) (d:PyData),y=.ref a/\H a=some (.lst xs)/\Dts H xs ds/\Dt H x d/\PySem.SeqAt.shaped (.list ds)=true/\PySem.SeqAt.shaped d=true/\Q (.bl (ds.any λe=>PyData.eqv e d)) H):=by
 intro pins s σ H x y v u Q I l m h;obtain⟨a,xs,ds,d,rfl,c,g,f,s1,b,q⟩:=h;obtain⟨n,j⟩:=(Dt.lst c g).reads I (PySem.SeqAt.canLay_of_shaped s1) u m;obtain⟨bs,k⟩:=f.reads I (PySem.SeqAt.canLay_of_shaped b) v l;exact PySem.SeqAt.in_list_reads j k (PySem.SeqAt.canLay_of_shaped s1) (PySem.SeqAt.canLay_of_shaped b) (room_in_shaped b i) ⟨.bl _,H,I,rfl,q⟩
end
open PySem.W PySem.Builtin PySem.Builtin.ObjectAttr PySem.Builtin.Getset_descriptor
structure yb4 (K:W.Frag) (C:Addr):Prop where
 ga:W.findIn K (.ref C) "__getattribute__"=some (some (.builtin "BaseException.__getattribute__"))
 no:W.findIn K (.ref C) "__getattr__"=some none
 cl:W.findIn K (.ref C) "__class__"=some (some (.builtin "object.__class__"))
 be:W.mroIn K C (.type "BaseException")=some true
 ob:W.mroIn K C (.type "object")=some true
 gt:W.specialIn K (.builtin "object.__class__") "__get__"=some (some (.builtin "getset_descriptor.__get__"))
 tk:W.takesIn K (.builtin "object.__class__")=some true
section
variable {prog:gf}{w:gp}{A:gq}{E:Value->fZ->Prop}{s:fZ}{K:W.Frag}{x C:Addr}{o:Obj}
theorem zh8 {h:Heap}(hx:h.get? x=some o)(hc:o.cls=.ref C):W.Looks M h (typeOf (.ref x)) (.ref C):=hc ▸ (W.Looks.ld hx).andThen .now
theorem xu8 (X:K.In h)(a:yb4 K C):W.Looks M h (Builtin.ObjectAttr.find (.ref x) (.ref C) "__class__") (.bind (.builtin "getset_descriptor.__get__") (.builtin "object.__class__")):=by
 have b:=looks_takesIn (M:=M) X a.tk;have g:W.Looks M h (Builtin.ObjectAttr.getOf (some (.builtin "object.__class__"))) (some (.builtin "getset_descriptor.__get__")):=looks_specialIn X a.gt;refine(looks_findIn (M:=M) X a.cl).andThen (g.andThen ?_);exact(show W.Looks M h (Builtin.ObjectAttr.dataDescriptor? (some (.builtin "object.__class__")) (some (.builtin "getset_descriptor.__get__"))) (some (.builtin "getset_descriptor.__get__",.builtin "object.__class__")) from b.andThen .now).andThen (Looks.tag .now)
theorem wc1 {R:Result->fZ->Prop}(X:K.In s.heap)(a:yb4 K C)(b:s.heap.get? x=some o)(hc:o.cls=.ref C)(h:R (.ok (.ret (.ref C))) s) :
  codeAny (gn prog w) A (.call (.builtin "getset_descriptor.__get__") ⟨[.builtin "object.__class__",.ref x,c],[]⟩) R s:=by
 obtain⟨i,g,f,t,j⟩:=s;have d:=zh8 (M:=gn prog w) b hc;have e:=looks_mroIn (M:=gn prog w) X a.ob;refine codeAny_call_builtin KF.slot_gs.plain KF.entry_gs (KF.slot_gs.check _ _ _ _ _ _ _ _ KF.type_class (KF.args_gs _ _ _) (by
  unfold Builtin.«getset_descriptor.__get__» descrGet;rw[dga_obj]
  refine fY (gc ?_);unfold descrGetter descrCheckInstance descrNameAndClass isInstance;simp only[KF.owner_class]
  repeat lk
  refine⟨Code.quiet_builtin _ (by decide +kernel),codeAny_builtin KF.entry_class (by unfold Builtin.«object.__class__» shownTypeOf;(repeat lk);exact h)⟩))
theorem xq0 {Q:Fin->fZ->Prop}(X:K.In s.heap)(a:yb4 K C)(b:s.heap.get? x=some o)(hc:o.cls=.ref C)(h:Q (.done (.ret (.ref C))) s) :
  gg (gn prog w) A (Builtin.«object.__getattribute__» ⟨[.ref x,.str "__class__" e],[]⟩) Q E s:=by
 have c:=zh8 (M:=gn prog w) b hc;have d:=xu8 (M:=gn prog w) (x:=x) X a;unfold Builtin.«object.__getattribute__»;refine fY (gc ?_);dsimp only;refine fY (gc ?_);obtain⟨i,g,f,t,j⟩:=s;refine fY (c.at (fY (d.at ?_)));dsimp only;unfold Builtin.ObjectAttr.bindTo;dsimp only;refine fY (gr (wpAny_call (wc1 X a b hc ?_)));exact gc h
theorem xp9 {Q:Unit->fZ->Prop}(X:K.In s.heap)(a:yb4 K C)(j:s.heap.get? x=some o)(hc:o.cls=.ref C)(h:Q () s):gg (gn prog w) A (checkBuiltinCall "BaseException.__getattribute__" ⟨[.ref x,b],[]⟩) Q E s:=by
 have f:builtinKind "BaseException.__getattribute__"=some .slot:=by decide +kernel
 have i:splitId "BaseException.__getattribute__"=some ("BaseException","__getattribute__"):=by decide +kernel
 have d:=zh8 (M:=gn prog w) j hc;have e:=looks_mroIn (M:=gn prog w) X a.be;have c:=F.args_bexc_ga (.ref x) b;obtain⟨l,g,k,t,m⟩:=s;simp only[checkBuiltinCall,f,i];unfold isInstance;refine fY (fY (d.at (e.at ?_)));rw[if_neg (by decide)];unfold argsOk at c;exact wpAny_of_eq c h
theorem xu7 {Q:Option Value->fZ->Prop}(X:K.In s.heap)(a:yb4 K C)(b:s.heap.get? x=some o)(hc:o.cls=.ref C)(h:Q (some (.ref C)) { s with toks:=s.toks+1 }):gg (gn prog w) A (getAttr? (.ref x) "__class__") Q E s:=by
 have e:=zh8 (M:=gn prog w) b hc;have c:=looks_findIn (M:=gn prog w) X a.ga;have d:=looks_findIn (M:=gn prog w) X a.no;obtain⟨i,g,f,t,j⟩:=s;unfold getAttr? getAttrBy? getAttrBy;refine fY (wpAny_mkText (fY (wpAny_attempt (gr (fY (e.at (fY (c.at ?_))))))));dsimp only;rw[show(onTheHeap (Value.ref C)&&Value.builtin "BaseException.__getattribute__" == Value.builtin "object.__getattribute__")=false by rw[show(Value.builtin "BaseException.__getattribute__" == Value.builtin "object.__getattribute__")=false by decide +kernel];rfl,if_neg aA];unfold getAttrByItsOwn hookBefore;rw[show onTheHeap (Value.ref C)=true from rfl,if_pos rfl];refine fY (d.at ?_);refine fY (wpAny_attempt (gr ?_));unfold callGetattribute boundAndCalled;rw[if_neg (by decide)];rw[F.excAttr_ValueError.ga.bind (.ref x)];refine fY (gc ?_);refine wpAny_call (codeAny_call_builtin F.excAttr_ValueError.ga.plain F.entry_bexc_ga (xp9 X a b hc (xq0 X a b hc ?_)));exact handed_on rfl (gc h)
theorem xj0 (a:yb4 K C):KitX K (.ref x) (.ref C) (λh=>∃o,h.get? x=some o/\o.cls=.ref C) where
 ty:=λ_ _ _ ⟨_,h1,h2⟩=>zh8 h1 h2
 it:=λ_ _ X _=>by
  obtain⟨cd,hcd,_⟩:=Option.bind_eq_some_iff.mp a.ob
  unfold clsIn at hcd
  split at hcd
  .rename_i ho
   intro A' Q' E' s' k q
   unfold isType loadHead;exact fY (wpAny_loadPart (k _ _ (X _ _ ho)) (gc q))
  .cases hcd
 ne:=λh tp dd its n sl X htp=>by
  obtain⟨cd,hcd,_⟩:=Option.bind_eq_some_iff.mp a.ob
  refine cJ.mpr λq=>?_
  have e:C=tp:=Value.ref.inj (beq_iff_eq.mp q)
  subst e
  unfold clsIn at hcd
  split at hcd
  .rename_i ho
   cases (X _ _ ho).symm.trans htp
  .cases hcd
 ca:=λX ⟨_,h1,h2⟩ k=>xu7 X a h1 h2 k
end
end L2
namespace L2
open PySem PySem.Spec PyProof.Rows
section
variable {X:Cx}
theorem yb1:∀{as:List Addr} {us:List Value},r8 (as.map V.ref) us->us=as.map Value.ref
 | [],_,r=>by rw[dJ]at r;cases r;rfl
 | a::as,_,r=>by
  rw[aN]at r
  cases r with
  | cons h t =>
   cases h
   rw[yb1 t]
   rfl
end
theorem yq9:typeLookup (.type "list_reverseiterator") "__len__"=pure none:=by rw[typeLookup_type,builtinLookup_eq_fast];kernel_rfl
theorem xj8:typeLookup (.type "list_reverseiterator") "__length_hint__"=pure (some (.builtin "list_reverseiterator.__length_hint__")):=by rw[typeLookup_type,builtinLookup_eq_fast];kernel_rfl
section
variable {prog:gf}{w:gp}{A:gq}{E:Value->fZ->Prop}{s:fZ}
theorem xh6 {Q:Bool->fZ->Prop}(hT:s.TypeIs (.ref r) "list_reverseiterator")(h:Q false s):gg (gn prog w) A (Builtin.List.listLengthHint (.ref r)) Q E s:=by
 unfold Builtin.List.listLengthHint;refine fY (wpAny_specialOf hT yq9 ?_);show gg _ _ (specialOf (Value.ref r) (Str.ofString "__length_hint__") >>= _) _ _ s;refine fY (wpAny_specialOf hT xj8 ?_);generalize hid:("list_reverseiterator.__length_hint__":String)=a;wp_delta;rw[show splitId a=some ("list_reverseiterator","__length_hint__") from by subst hid;decide +kernel];subst hid;refine fY (wpAny_isInstance (T:="list_reverseiterator") (b:=true) hT (by rw[isSubtype_type];kernel_rfl) ?_);refine wpAny_ite_split (λz=>absurd z (by decide)) (λ_=>?_);refine wpAny_ite_split (λ_=>?_) (λz=>absurd (by decide +kernel) z);refine wpAny_ite_split (λz=>absurd z (by decide +kernel)) (λ_=>?_);exact gc h
variable {I Z:Addr}{fp wr:List Addr}{G:Array GenState->Array GenState->Prop}{n:Nat}{P:Nat->Value->Prop}{St:Nat->fZ->Prop}{R:Result->fZ->Prop}
abbrev zf5 (acc:Array Value) (c:Nat):Obj:={ cls:=.type "list",dict:=none,data:=.seq acc c,slots:=#[] }
theorem xr1 (W:WalksS prog w A.in1 I fp wr G n P St)(hT:∀i s,St i s->s.TypeIs (.ref I) "list_reverseiterator")(st:St 0 s)(h:Z∉fp)(x:I∈fp)(hS:s.heap.get? Z=some (zf5 #[] r))(p:n<=ge)
  (q:∀s' a c,Moved (Z::wr) G s s'->s'.heap.get? Z=some (zf5 a c)->ItemsOf P a n->R (.ok (.ret d)) s') :
  gg (gn prog w) A.in1 (Builtin.List.listExtendWith (.ref Z) (.ref I) d) (λfin s'=>match fin with | .done f=>R (.ok f) s' | .again c'=>c'.quiet=true/\codeAny (gn prog w) A c' R s') (λe s'=>R (.error e) s') s:=by
 have l:Z≠I:=λe=>h (e ▸ x);unfold Builtin.List.listExtendWith;refine fY (wpAny_typeOf (hT 0 _ st) ?_);have t:Builtin.List.listSameRef (.ref Z) (.ref I)=false:=by simp[Builtin.List.listSameRef,l]
 have u:(Value.type "list_reverseiterator" == Value.type "list")=false:=by decide
 have v:(Value.type "list_reverseiterator" == Value.type "tuple")=false:=by decide
 simp only[t,u,v,Bool.or_false,bY,if_false];refine fY (W.self 0 _ _ _ st ?_);refine fY (gr (xh6 (hT 0 _ st) ?_));refine wpAny_ite_split (λ_=>?_) (λ_=>gc ⟨plainId_quiet PySem.F.plain_extend_loop _,codeAny_extend_loopS W p Z h d n 0 _ _ _ rfl (aG _) st hS (ItemsOf.nil _) λm a c mv h2 hit=>q m a c mv h2 hit⟩);refine fY (wpAny_rule ?_);refine fY ?_;show gg _ _ (updateSeq Z (·.push .none) >>= λ_=>updateSeq Z (·.pop)) _ _ _;refine fY (wpAny_updateSeq hS rfl ?_);have g:=Heap.get?_update_self (Obj.mapSeq (·.push Value.none)) hS rfl;refine wpAny_updateSeq (hz:=by seq_fits) g rfl ?_;have j:=Heap.get?_update_self (Obj.mapSeq (·.pop)) g rfl;have keep:∀b o,b≠Z->s.heap.get? b=some o->((s.heap.update Z (Obj.mapSeq (·.push Value.none))).update Z (Obj.mapSeq (·.pop))).get? b=some o:=λb o nb e=>by
  rw[Heap.get?_update_other _ _ (Ne.symm nb),Heap.get?_update_other _ _ (Ne.symm nb)];exact e
 refine gc ⟨plainId_quiet PySem.F.plain_extend_loop _,codeAny_extend_loopS W p Z h d n 0 _ _ _ rfl (aG _) (W.frame 0 s _ s.toks st (af _) λb k o e=>keep b o (λz=>h (z ▸ k)) e) j (ItemsOf.nil _) λm a c mv h2 hit=>q m a c ?_ h2 hit⟩;exact Moved.trans W.gtrans ((Moved.refl W.grefl).then_heap (af _) λb o k e=>keep b o (λz=>k (by rw[z];exact aw)) e) mv
theorem xi2 (W:WalksS prog w A.in1 I fp wr G n P St)(hT:∀i s,St i s->s.TypeIs (.ref I) "list_reverseiterator")(st:St 0 s)(h:Z∉fp)(j:I∈fp)(hS:s.heap.get? Z=some (zf5 #[] 0))(k:n<=ge)
  (q:∀s' a c,Moved (Z::wr) G s s'->s'.heap.get? Z=some (zf5 a c)->ItemsOf P a n->R (.ok (.ret .none)) s') :
  gg (gn prog w) A.in1 (Builtin.«list.__init__» ⟨[.ref Z,.ref I],[]⟩) (λfin s'=>match fin with | .done f=>R (.ok f) s' | .again c'=>c'.quiet=true/\codeAny (gn prog w) A c' R s') (λe s'=>R (.error e) s') s:=by
 show gg _ A.in1 (do
  let old ←Builtin.List.listItems (.ref Z)
  Builtin.List.listUpdate (.ref Z) (λ_=>#[])
  letGo old.toList.reverse
  Builtin.List.listExtendWith (.ref Z) (.ref I) .none) _ _ s
 refine fY ?_;unfold Builtin.List.listItems;refine fY (wpAny_seqItems hS rfl (gc ?_));show gg _ A.in1 (updateSeq Z (λ_=>#[]) >>= λ_=>letGo (#[]:Array Value).toList.reverse >>= λ_=>Builtin.List.listExtendWith (.ref Z) (.ref I) .none) _ _ s;refine fY (wpAny_updateSeq hS rfl ?_);have d:=Heap.get?_update_self (Obj.mapSeq (λ_=>(#[]:Array Value))) hS rfl;have keep:∀b o,b≠Z->s.heap.get? b=some o->(s.heap.update Z (Obj.mapSeq (λ_=>(#[]:Array Value)))).get? b=some o:=λb o nb e=>by
  rw[Heap.get?_update_other _ _ (Ne.symm nb)];exact e
 refine fY (wpAny_letGo ?_);refine xr1 W hT (W.frame 0 s _ s.toks st (af _) λb g o e=>keep b o (λz=>h (z ▸ g)) e) h j d k λl a c mv h2 hit=>q l a c ?_ h2 hit;exact Moved.trans W.gtrans ((Moved.refl W.grefl).then_heap (af _) λb o g e=>keep b o (λz=>g (by rw[z];exact aw)) e) mv
theorem zw3 {Q:Value->fZ->Prop}(W:WalksS prog w A.in1.in1 I fp wr G n P St)(hT:∀i s,St i s->s.TypeIs (.ref I) "list_reverseiterator")(st:St 0 s)(d:∀b∈fp,b<s.heap.objs.size)(f:I∈fp)(g:n<=ge)
  (q:∀s' a c,Moved (s.heap.objs.size::wr) G { s with heap:=s.heap.push (zf5 #[] 0) } s'->s'.heap.get? s.heap.objs.size=some (zf5 a c)->ItemsOf P a n->Q (.ref s.heap.objs.size) s') :
  gg (gn prog w) A (call (.type "list") [.ref I]) Q E s:=by
 refine callType_codes (Q₁:=λz s1=>z=.ref s.heap.objs.size/\s1={ s with heap:=s.heap.push (zf5 #[] 0) }) PySem.F.called_list (PySem.F.typeCall_list_1 _) PySem.F.entry_list_init (code_list_new _ ⟨rfl,rfl⟩) λz s1 h1=>?_;obtain⟨rfl,rfl⟩:=h1;have hS:(s.heap.push (zf5 #[] 0)).get? s.heap.objs.size=some (zf5 #[] 0):=aC _ rfl;refine⟨⟨_,hS,rfl⟩,PySem.F.args_list_init_2 _ _,xi2 W hT (W.frame 0 s _ s.toks st (af _) λb _ o e=>ap _ e) (λz=>aO _ (d _ z)) f hS g λh a c mv h2 hit=>?_⟩;exact⟨rfl,q h a c mv h2 hit⟩
end
section
variable {X:Cx}
def xp3 (K:W.Frag)(ta:TA):TE:=λσ H Q=>ta σ H λvs H1=>∃a xs,vs=[.ref a]/\SqL K H1 a xs/\∀l,H1 l=none->Q (.ref l) (upd H1 l (.lst xs.reverse))
theorem xm4 {xs:List V}{us b:List Value}(r:r8 xs us)(hl:b.length=us.length)(h:∀(i:Nat) v,b[i]?=some v->us[us.length-1-i]?=some v):r8 xs.reverse b:=by
 have e:b=us.reverse:=by
  apply cI;intro i;by_cases hi:i<b.length
  .rw[List.getElem?_reverse (by lia)];have:=h i _ (aa hi);rw[aa hi,this]
  .rw[aQ (by lia),aQ (by rw[dY];lia)]
 rw[e];clear h hl e
 induction r with
 | nil=>exact .nil
 | cons a _ ih =>
  rw[eI,eI];exact ih.append (.cons a .nil)
theorem ys0 {p p2 pos pos2:Pos}(hc:X.calm=true)(hg:Gl X "list")(hm:X.mg "list"=none)(hv:gv "list"=some (.type "list"))(hg2:Gl X "reversed")(hm2:X.mg "reversed"=none)(ha:PA X [a] ta)
  (hs:gh [a] X.env=[(false,eval a X.env)]:=by rfl) (he:gh [Expr.Call (.Name "reversed" p2) [a] [] pos2] X.env=[(false,eval (Expr.Call (.Name "reversed" p2) [a] [] pos2) X.env)]:=by rfl) :
  PE X (.Call (.Name "list" p) [.Call (.Name "reversed" p2) [a] [] pos2] [] pos) (xp3 X.K ta):=by
 intro pins s σ H Q I h;refine wpAny_Call_Name_kw (J4 I hg hm hv ?_ (by decide) (by decide));refine PyProof.Rows.callWith_type1 ?_ he rfl;rw[he];show gg _ _ (spliced [(false,eval (Expr.Call (.Name "reversed" p2) [a] [] pos2) X.env)]) _ _ s;refine Calls.spliced_cons (Call_ (J4 I hg2 hm2 zw2 (PyProof.Rows.callWith_type1 (thn (ha pos2 pins s σ H _ I h) λus s1 ⟨vs,H1,I1,r1,q1⟩=>?_) hs rfl)));obtain⟨b,xs,e,hq,q⟩:=q1;subst e
 cases r1 with
 | cons r rr =>
  cases rr
  cases r
  obtain⟨its,rv,pl,hz⟩:=I1.list hq;refine call_reversed_list pl.isList ?_;refine Calls.spliced_nil ?_;have hlt:b<s1.heap.objs.size:=by
   obtain⟨o,n,e,_⟩:=pl;exact aB e
  have hne:b≠s1.heap.objs.size:=aX hlt;have hit:(s1.heap.push (revObj b ((its.toArray.size:Int)-1))).IsRevIter s1.heap.objs.size b ((its.toArray.size:Int)-1):=⟨_,aC _ rfl,rfl,rfl⟩;have hsz:its.toArray.size=xs.length:=by rw[ay,←rv.length]
  refine zw3 (s:={ s1 with heap:=s1.heap.push (revObj b ((its.toArray.size:Int)-1)) }) (Walks.listRev (by simp[I.ok.hd hc]) s1.heap.objs.size b hne its.toArray).toS (λi s2 st=>?_) ⟨aG _,?_,pl.isList.push _⟩ (λc hc'=>?_) (by simp) (by rw[hsz];exact hz) λs3 acc c mv h3 hacc=>?_
  .exact st.2.1.typeIs
  .rw[show(its.toArray.size:Int)-1-((0:Nat):Int)=(its.toArray.size:Int)-1 by lia];exact hit
  .show c<(s1.heap.push _).objs.size;rw[cV];rcases ax.mp hc' with z|z
   .rw[z];exact bZ _
   .rw[aq.mp z];exact cK hlt
  .obtain⟨h4,g4,d4,k4,o4⟩:=s3;have eg:g4=s1.gens:=mv.gens;have ed:d4=s1.drawn:=mv.drawn;have eo:o4=s1.os:=mv.os;subst eg;subst ed;subst eo;have hle:s1.heap.objs.size<=(s1.heap.push (revObj b ((its.toArray.size:Int)-1))).objs.size:=by rw[cV];exact bU _
   refine⟨.ref _,_,I1.laid (h':=h4) (o:=.lst xs.reverse) (t':=k4) (λb' o' e'=>?_) hle ?_,rfl,q _ (I1.hok.fresh hle)⟩
   .have hb:=aB e';refine mv.heap b' o' (λz=>?_) (ap _ (ap _ e'));rcases ax.mp z with z|z
    .rw[z]at hb;exact aO _ (aM hb hle)
    .rw[aq.mp z]at hb;exact aO _ hb
   .refine⟨by rw[dY];exact hz,acc.toList,c,xm4 rv ?_ (λi v hv=>?_),by simpa using h3⟩
    .rw[aP,hacc.1,ay]
    .have h5:=hacc.2 i v (by rw[←bE];exact hv);simpa using h5
end
section
variable {prog:gf}{w:gp}{A:gq}{E:Value->fZ->Prop}{s:fZ}
theorem p4 {α β:Type}{F:α->β->Prop}:∀{as:List α} {bs:List β},Paired F as bs->∀(i:Nat) (a:α) (b:β),as[i]?=some a->bs[i]?=some b->F a b
 | _,_,.nil,i,a,b,h,_=>by cases i <;> cases h
 | _,_,.cons f _,0,a,b,h,h'=>by
  cases h
  cases h'
  exact f
 | _,_,.cons _ r,i+1,a,b,h,h'=>p4 r i a b (by simpa using h) (by simpa using h')
end
def b9 (P:gf)(w:gp)(K:W.Frag)(mg:Str->Option Value)(base:Heap)(k:Nat)(C:Addr)(m:Str)(ps:List Str)(sp:Sp):Prop :=
 ∃f fd,u7 P w K mg base CX0 k f fd ps sp/\xf5 K C m f/\P3 K fd ps []
def xf6 (P:gf)(w:gp)(K:W.Frag)(mg:Str->Option Value)(base:Heap)(k:Nat)(C:Addr)(m:Str)(ps:List Str)(sp:Sp):Prop :=
 ∃f fd,u7 P w K mg base (CX1 P w) k f fd ps sp/\xf5 K C m f/\P3 K fd ps []
section
variable {X:Cx}{C:Addr}{k j:Nat}{m:Str}{ps:List Str}{sp:Sp}{o e:Expr}{es:List Expr}{ta:TE}{t:TA}{apos pos cpos:Pos}{pl:Sem Bool}
theorem Z3 (c:Cls X.K C)(kn:b9 X.prog X.w X.K X.mg X.base k C m ps sp)(hr:X3 j X.A)(ho:PE X o ta)(ha:PA X (e::es) t)(hj:k<=j:=by decide)
  (hst:gh (e::es) X.env=(false,eval e X.env)::gh es X.env:=by rfl) (hpl:(backTo pos (gh es X.env)).any (·.1)=false:=by rfl)
  (ht:eval (.Call (.Attribute o m apos) (e::es) [] pos) X.env=(do
   let v ←eval o X.env
   standAt apos.atName
   let (f,first) ←holding [v] (getMethod v m pl)
   callWith pos f first (backTo pos (gh (e::es) X.env)) (backToKw pos (gw [] X.env))):=by rfl):PE X (.Call (.Attribute o m apos) (e::es) [] pos) (yn6 C m sp [] E0 ta t):=by
 obtain⟨f,fd,G,hm,hb⟩:=kn
 exact yx3 ho c hm G (hr.mono hj) hb .nil yx0 ha hst hpl ht
end
section
variable {P:gf}{w:gp}{K:W.Frag}{mg:Str->Option Value}{base:Heap}{N:List Str}{qual:Str}{scope:Scope}{f:Addr}{cd:Value}{A:gq}{outer:List Env}{s:fZ}{H:Hp}{E:XK}
theorem we5 {C:Addr}{o e:Expr}{es:List Expr}{ta:TE}{t:TA}{apos pos:Pos}{pl:Sem Bool}(c:Cls K C)(kn:xf6 P w K mg base k C m ps sp)(hr:X3 j (A.deeper (envOfC qual scope s.heap.objs.size f cd)))(ho:PE (R3 (CX1 P w) P w K mg base N qual scope f cd A outer s H E) o ta)
  (ha:PA (R3 (CX1 P w) P w K mg base N qual scope f cd A outer s H E) (e::es) t) (hj:k<=j:=by decide)
  (hst:gh (e::es) (envOfC qual scope s.heap.objs.size f cd)=(false,eval e (envOfC qual scope s.heap.objs.size f cd))::gh es (envOfC qual scope s.heap.objs.size f cd):=by rfl) (hpl:(backTo pos (gh es (envOfC qual scope s.heap.objs.size f cd))).any (·.1)=false:=by rfl)
  (ht:eval (.Call (.Attribute o m apos) (e::es) [] pos) (envOfC qual scope s.heap.objs.size f cd)=(do
   let v ←eval o (envOfC qual scope s.heap.objs.size f cd)
   standAt apos.atName
   let (f',first) ←holding [v] (getMethod v m pl)
   callWith pos f' first (backTo pos (gh (e::es) (envOfC qual scope s.heap.objs.size f cd))) (backToKw pos (gw [] (envOfC qual scope s.heap.objs.size f cd)))):=by rfl) :
  PE (R3 (CX1 P w) P w K mg base N qual scope f cd A outer s H E) (.Call (.Attribute o m apos) (e::es) [] pos) (yn6 C m sp [] E ta t):=by
 obtain⟨g,gd,G,hm,hb⟩:=kn
 exact yx3 (X:=R3 (CX1 P w) P w K mg base N qual scope f cd A outer s H E) ho c hm G (hr.mono hj) hb .nil xv7 ha hst hpl ht
end
section
variable {P:gf}{w:gp}{K:W.Frag}{mg:Str->Option Value}{base:Heap}{f:Addr}{fd:gz}{ps:List Str}{k:Nat}
theorem u7.calm (F:u7 P w K mg base (CX1 P w) k f fd ps sp):u7 P w K mg base CX0 k f fd ps (λvs H Q _=>sp vs H Q E0) :=
 ⟨λvs H Q _ h=>F.len vs H Q E0 h,λA outer s H args us vs Q E hr he hb hv hs=>codeAny_mono (F.run A outer s H args us vs Q E0 hr he hb hv hs) λr s' h=>by
  cases r with
  | ok fl=>cases fl <;> exact h
  | error e =>
   obtain⟨ea,C,a0,B,H',_,_,_,_,_,_,_,_,_,_,_,_,hE⟩:=h
   exact hE.elim⟩
end
theorem xv4 (h:zr3 k u=true):p8 (kV k) u:=by
 rcases g9 h with⟨i,t,rfl,rfl⟩|⟨x,t,rfl,rfl⟩
 .exact⟨t,rfl⟩
 .exact⟨t,rfl⟩
section
variable {X:Cx}{pins:List (Addr×Obj)}{σ:St}{H:Hp}{s:fZ}
theorem Inv.freeze (I:Inv X pins σ H s)(e:H a=some (.dK kvs))(d:s.heap.get? a=some c):Inv X pins σ (upd H a (.frz c (.dK kvs))) s:=by
 have f:Mut (H a):=by rw[e];exact True.intro
 refine Inv.write (t':=s.toks) (o:=.frz c (.dK kvs)) I f (.inl rfl) (λ_ _ _ q=>q) ⟨c,d⟩ ⟨d,?_⟩;refine(I.hok a _ e).stay (λ_ _ _ q=>q) (λb q=>?_) λb xs q=>?_
 .rw[z6 (l8 q e (by intro z;cases z))];exact q
 .rw[z6 (l8 q e (by intro z;cases z))];exact q
theorem Inv.thaw (I:Inv X pins σ H s)(e:H a=some (.frz j (.dK kvs)))(i:∀o u,X.H₀ a≠some (.frz o u)):Inv X pins σ (upd H a (.dK kvs)) s:=by
 have g:∀b o,H b=some o->o≠.frz j (.dK kvs)->b≠a:=λb o q d=>l8 q e d;have f:∀b,H b=none->b≠a:=λb q z=>by subst z;rw[q]at e;cases e
 refine⟨I.ok,I.os,I.bare,⟨I.base.keep,I.base.slot,λb o q n w=>?_,I.base.there,λb xs q=>?_,λb o u q=>?_,λb ps q=>?_⟩,I.loc,I.cell,?_,λx c q=>?_,λp v=>?_,λb u q=>?_,I.len⟩
 .have r:=I.base.free b o q n w;rw[z6 (f b r)];exact r
 .have r:=I.base.tups b xs q;rw[z6 (g b _ r (by intro z;cases z))];exact r
 .have r:=I.base.frzs b o u q;have h:b≠a:=λz=>by subst z;exact i o u q
  rw[z6 h];exact r
 .obtain⟨m,r⟩:=I.base.tbls b ps q;exact⟨m,by rw[z6 (g b _ r (by intro z;cases z))];exact r⟩
 .rw[z6 (f _ I.free)];exact I.free
 .rw[z6 (f _ (I.freeC x c q))];exact I.freeC x c q
 .obtain⟨h1,h2,k,l,t⟩:=I.pin p v;exact⟨h1,by rw[z6 (f _ h2)];exact h2,k,l,t⟩
 .by_cases h:b=a
  .subst h;rw[z4]at q
   cases q
   obtain⟨_,r⟩:=I.hok b _ e;refine r.stay (λ_ _ _ q=>q) (λc q=>?_) λc xs q=>?_
   .rw[z6 (g c _ q (by intro z;cases z))];exact q
   .rw[z6 (g c _ q (by intro z;cases z))];exact q
  .rw[z6 h]at q;refine(I.hok b u q).stay (λ_ _ _ q=>q) (λc q=>?_) λc xs q=>?_
   .rw[z6 (g c _ q (by intro z;cases z))];exact q
   .rw[z6 (g c _ q (by intro z;cases z))];exact q
theorem Inv.nofrz (I:Inv X pins σ H s)(e:H a=some (.dK kvs)):∀o u,X.H₀ a≠some (.frz o u):=λo u q=>by
 have r:=I.base.frzs a o u q
 rw[e]at r
 cases r
end
def ItK (ob:Obj)(d:Addr)(kvs:List (Key×V)):It :=
 ⟨λi H=>H d=some (.frz ob (.dK kvs))/\i<kvs.length,λi H x H'=>H'=H/\∃k v,kvs[i]?=some (k,v)/\x=kV k,λi H=>H d=some (.frz ob (.dK kvs))/\kvs.length<=i⟩
theorem yv1 {h:Heap}{f:Obj}(ok:HOk P w H h)(c:∃es,f.data=.dict es ep)(e:H d=some (.frz f (.dK kvs))) :
  ∃b,KV kvs b/\h.DictAt (g7 P w) d b ep:=by
 obtain⟨k,_,_,b,g,o,es,l,a,n,i,r⟩:=ok d _ e;rw[k]at a
 cases a
 obtain⟨m,j⟩:=c;rw[j]at i
 cases i
 exact⟨b,g,f,_,k,n,j,r⟩
theorem xv6 {κ:Type}:∀{kvs:List (κ×V)} {vs:List (κ×Value)},KV kvs vs->∀{i:Nat} {k:κ} {v:V},kvs[i]?=some (k,v)->∃u,vs[i]?=some (k,u)/\p8 v u
 | _,_,.nil,i,k,v,h=>by cases i <;> cases h
 | _,_,.cons (b:=q) f _,0,k,v,h=>by
  obtain⟨k',u⟩:=q
  cases h
  obtain⟨e,r⟩:=f
  cases e
  exact⟨u,rfl,r⟩
 | _,_,.cons _ r,i+1,k,v,h=>by
  obtain⟨u,hu,f⟩:=xv6 r (i:=i) (by simpa using h)
  exact⟨u,by simpa using hu,f⟩
theorem xe9 {P:gf}{w:gp}{K:W.Frag}{tg:Expr}(L:Obj)(d it:Addr)(kvs:List (Key×V))(ep:Nat)(l:∃es,L.data=.dict es ep):yg6 P w K tg (ItK L d kvs) [it] it (λi h=>h.IsKeyIter it d i kvs.length ep) where
 mem:=by simp
 obj:=λi h st b f=>by
  have e:b=it:=by simpa using f
  subst e
  obtain⟨o,e,c,d⟩:=st
  exact⟨o,e,λv z=>by rw[d]at z;cases z⟩
 keep:=λi h h' st k=>by
  obtain⟨o,e,r⟩:=st
  exact⟨o,k it (by simp) o e,r⟩
 item:=by
  intro X B D A G i pins s σ H E I m st C
  subst B D A
  obtain⟨e,hi⟩:=C
  obtain⟨F,a,n⟩:=yv1 I.hok l e
  have J:kvs[i]?=some (kvs[i].1,kvs[i].2):=aa hi
  obtain⟨u,T,_⟩:=xv6 a J
  obtain⟨p,q,R,t,x,y⟩:=m it (by simp)
  have j:s.heap.IsKeyIter it d i F.length ep:=by rw[←a.length];exact st
  refine wpAny_pyNext_dict_item j n T λkey h' S g U=>?_
  rw[←a.length]at g
  have M:Inv X pins σ H { s with heap:=h' }:=I.turned (t':=s.toks) (λb o f e=>(U.2 b f).trans e) p q t x y
  obtain⟨o,O,c,N⟩:=id g
  exact⟨key,rfl,yi3 (s:={ s with heap:=h' }) O c N (by decide) ⟨kV kvs[i].1,H,M,xv4 S,⟨rfl,_,_,J,rfl⟩,g,λb f=>(m b f).1⟩⟩
 done:=by
  intro X B D A G i pins s σ H E I m st C
  subst B D A
  obtain⟨e,hi⟩:=C
  obtain⟨F,a,n⟩:=yv1 I.hok l e
  obtain⟨p,q,R,t,x,y⟩:=m it (by simp)
  have j:s.heap.IsKeyIter it d i F.length ep:=by rw[←a.length];exact st
  exact wpAny_pyNext_dict_end (I.ok.hd G) j n (aQ (by rw[←a.length];exact hi)) λh' Q=>⟨rfl,I.turned (t':=s.toks) (λb o f e=>Q b o f e) p q t x y⟩
 self:=λ_ _ _ _ _ st h=>wpAny_pyIter_keyiter st h
section
variable {X:Cx}{tg:Expr}
def wd3 (td:TE):TI:=λσ H R=>td σ H λx H1=>∃d kvs,x=.ref d/\H1 d=some (.dK kvs)/\∀ob,R (ItK ob d kvs) (upd H1 d (.frz ob (.dK kvs)))
theorem yx5 (hl:PE X l td):PI X tg l (wd3 td):=by
 intro pins s σ H R I h;refine thn (hl pins s σ H _ I h) λv s1 ⟨x,H1,g,y,w⟩=>?_;obtain⟨d,kvs,e,j,q⟩:=w;subst e
 cases y
 obtain⟨A,u,B,f,m⟩:=yv2 g.hok j;obtain⟨n,i⟩:=m.dictAt;obtain⟨k,es,t,z,a,r⟩:=id i;have c:=g.freeze j t;refine wpAny_pyIter_dict u i ?_;rw[←f.length];refine⟨s1.heap.objs.size,[s1.heap.objs.size],_,_,_,rfl,c.kept (t':=s1.toks) λb o e=>ap _ e,xe9 k d _ kvs n ⟨es,a⟩,⟨_,aC _ rfl,rfl,rfl⟩,λb p=>?_,q k⟩;have e:b=s1.heap.objs.size:=by simpa using p
 subst e;exact c.fpOk (af _) (c.hok.fresh (af _))
def wf9 (t:TE):TE:=λσ H Q=>∃d kvs,H d=some (.dK kvs)/\t σ H λv H'=>(∃ob,H' d=some (.frz ob (.dK kvs)))/\Q v (upd H' d (.dK kvs))
theorem yx4 (h:PE X e t):PE X e (wf9 t):=by
 intro pins s σ H Q I f;obtain⟨d,kvs,b,q⟩:=f;have g:=I.nofrz b;refine thn (h pins s σ H _ I q) λv s1 ⟨x,H1,a,j,⟨k,c⟩,i⟩=>?_;exact⟨x,_,a.thaw c g,j,i⟩
theorem yz7 {kvs:List (Key×V)}{fr:List Nat}{te:CT TE}{Q:Addr->Hp->Prop}(hS:H1 d=some (.frz ob (.dK kvs)))(ys:List V)(hn:ys.length=kvs.length)(hz:kvs.length<=ge)
  (turn:∀(i:Nat) H k v,kvs[i]?=some (k,v)->y4 H1 H->∀C₀ s₀ H₀ fp,te C₀ s₀ H₀ fp (some (kV k)::fr.map λj=>(σ[j]?).getD none) H λy H4=>y4 H H4/\ys[i]?=some y)
  (fin:∀D H,H1 D=none->y4 H1 H->H D=some (.lst ys)->Q D H) :
  ∀D,H1 D=none->∃W:Nat->Nat->St->Hp->Prop,(∃m,W 0 m (X2 1 fr σ) (upd H1 D (.lst [])))/\∀i m σ' H',W i m σ' H' ->
  ((ItK ob d kvs).stop i H'/\Q D H')∨((ItK ob d kvs).go i H'/\∀x H2,(ItK ob d kvs).yld i H' x H2->∀C₀ s₀ H₀ fp,h9 0 x σ' H2 λσ3 H3=>∃N:VK,te C₀ s₀ H₀ fp σ3 H3 N/\∀y H4,N y H4 ->
   ∃ys m',H4 D=some (.lst ys)/\ys.length<ge/\m'<m/\W (i+1) m' σ3 (upd H4 D (.lst (ys++[y])))) :=
 L6 ys hn hz (λH s=>⟨s _ _ hS,af _⟩) (λi H hi s=>⟨s _ _ hS,hi⟩) (λi H x H2 hi s y=>⟨y.1,by obtain⟨k,v,hk,rfl⟩:=y.2;exact turn i H k v hk s⟩) fin
end
def zw0 (P:gf)(w:gp)(K:W.Frag)(mg:Str->Option Value)(base:Heap)(k:Nat)(C:Addr)(x:Str)(ps:List Str)(sp:Sp):Prop :=
 ∃f fd,u7 P w K mg base CX0 k f fd ps sp/\Mk K C f/\mg x=some (.ref C)/\P3 K fd ps []
section
variable {X:Cx}{C:Addr}{k j:Nat}{x:Str}{ps:List Str}{sp:Sp}{e:Expr}{es:List Expr}{t:TA}{p pos:Pos}
theorem J8 (kn:zw0 X.prog X.w X.K X.mg X.base k C x ps sp)(hr:X3 j X.A)(hg:Gl X x)(ha:PA X (e::es) t)(hj:k+1<=j:=by decide)(hdb:(x==("__debug__":Str))=false:=by decide)
  (he:gh (e::es) X.env=(false,eval e X.env)::gh es X.env:=by rfl) (hpl:(backTo pos (gh es X.env)).any (·.1)=false:=by rfl):PE X (.Call (.Name x p) (e::es) [] pos) (xw3 C sp [] E0 t):=by
 obtain⟨f,fd,G,hM,hm,hb⟩:=kn;exact xs9 hM G (hr.mono hj) hg hm hb .nil yx0 ha hdb he hpl
def ipM:TIp:=λx y H Q=>∃i j,x=.int i/\y=.int j/\xq1 i j/\Q (.int (i*j)) H
theorem xx8:PIp X .Mult ipM:=by
 intro pins s σ H x y v u Q I d e h;obtain⟨i,j,a,b,c,q⟩:=h;subst a;subst b;obtain⟨t,rfl⟩:=d;obtain⟨f,rfl⟩:=e;exact imul_int ⟨.int _,H,I.tok _,⟨_,rfl⟩,q⟩ c.ok
end
section
variable {X:Cx}
theorem yw1:∀{ns:List Int} {vs:List Value},vs.length=ns.length->(∀(i:Nat) (v:Value),vs[i]?=some v->∃k,ns[i]?=some k/\∃t,v=Value.int k t)->IntsAre vs ns
 | [],[],_,_=>.nil
 | n::ns,v::vs,hl,h=>by
  obtain⟨k,hk,t,rfl⟩:=h 0 v rfl
  obtain rfl:n=k:=by simpa using hk
  exact .cons n t (yw1 (by simpa using hl) λi u e=>h (i+1) u (by simpa using e))
 | [],_::_,hl,_=>by cases hl
 | _::_,[],hl,_=>by cases hl
end
def xu4 (tk tv:TE):TE:=λσ H Q=>∀p,H p=none->tk σ (upd H p (.dT [])) λx H1=>tv σ H1 λy H2=>H2 p=some (.dT [])/\∃(ks:List Key) (b:Addr),x=.ref b/\H2 b=some (.tup (ks.map kV))/\Q (.ref p) (upd H2 p (.dT [(ks,y)]))
theorem xd1 {X:Cx}(J:X.A.units+1<cLine)(E:PE X k j)(K:PE X v tv):PE X (.Dict [some k] [v] pos) (xu4 j tv):=by
 intro pins s σ H Q I q;have F:=I.hok.fresh (af s.heap.objs.size);have l:=I.laid (a:=s.heap.objs.size) (o:=.dT []) (h':=s.heap.push { cls:=.type "dict",data:=.dict #[] }) (t':=s.toks) (λ_ _ q=>ap _ q) (af _) (xg8 s.heap I.big);have c:(pairTrees [some k] [v] X.env pos).length=1:=pairTrees_length [some k] [v] X.env pos rfl rfl;rw[arm_eval_Dict,zip_pairTrees [some k] [v] X.env pos rfl rfl,dictDisplay_pairs _ (λe=>by rw[e]at c;cases c) (by rw[c];decide)];refine fY (wpAny_standAt (fY ?_));unfold subDict;refine fY (wpAny_alloc (fY (gr ?_)));rw[if_pos (by rw[c];decide)];refine fY (pairTrees_cons_walk (thn (E pins _ σ _ _ l (q _ F)) λu s1 ⟨x,H1,m,N,L⟩=>thn (K pins s1 σ H1 _ m L) λr R ⟨y,H2,d,O,e,P,b,ex,g,M⟩=>pairTrees_nil_walk (gr ?_)));subst ex
 cases (show u=Value.ref b from N)
 obtain⟨z,D,xs,h,n⟩:=xv2 d.hok e
 cases h
 rw[dM];refine fY (fY ?_);show gg (gn X.prog X.w) X.A (dictSet s.heap.objs.size (.ref b) r >>= λ_=>pure (ForInStep.yield PUnit.unit)) _ _ _;refine fY (wpAny_dictSet_heap (hsz:=aG _) (knd:=tupleKind (g7 X.prog X.w)) (Nat.lt_of_succ_lt J) (zr4 d.hok g) n λh' f G=>gc ?_);show gg (gn X.prog X.w) X.A (forIn ([]:List (Value×Value)) PUnit.unit _) _ _ _;rw[List.forIn_nil];refine gc (gc (gc (gc ⟨.ref s.heap.objs.size,_,?_,rfl,M⟩)));obtain⟨o,es,p,i,h2,t,B,_,C⟩:=f;refine zo3 d (by rw[e];exact True.intro) G ⟨o,i⟩ ⟨(by show 1<=ge;decide),D,_,Paired.cons ⟨rfl,?_,O⟩ .nil,o,es,p,i,h2,t,B,C⟩;rw[z6 (l8 g e (λz=>nomatch z))];exact g
section
variable {X:Cx}{C:Addr}{k j:Nat}{x:Str}{ps:List Str}{sp:Sp}{e:Expr}{es:List Expr}{t:TA}{p cpos pos:Pos}
theorem xl8 {st:List Stmt}:PSs X st (λ_ _ _=>False):=λ_ _ _ _ _ _ h=>h.elim
end
end L2
namespace L2
open PySem PyProof PyProof.Rows
theorem ys4 {β:Type}(n:Nat)(b:β)(f:Nat->β->Sem (ForInStep β)):forIn [:n] b f=forIn (List.range' 0 n 1) b f:=by
 rw[Std.Legacy.Range.forIn_eq_forIn_range'];have a:([:n]:Std.Legacy.Range).size=n:=by simp[Std.Legacy.Range.size]
 show forIn (List.range' 0 ([:n]:Std.Legacy.Range).size 1) b f=_;rw[a]
theorem zr0:∀{its:List Value} {ns:List Int},IntsAre its ns->∀{i:Nat},i<ns.length->∃z t,its[i]?=some (.int z t)/\ns[i]?=some z
 | _,_,.nil,i,h=>absurd h (bR _)
 | _,_,.cons n t r,0,_=>⟨n,t,rfl,rfl⟩
 | _,_,.cons n t r,i+1,h=>by
  obtain⟨z,t',h1,h2⟩:=zr0 r (i:=i) (by simpa using h)
  exact⟨z,t',by simpa using h1,by simpa using h2⟩
section
variable {prog:gf}{w:gp}{A:gq}{E:Value->fZ->Prop}{s:fZ}
theorem yp9 {its:List Value}{k:Nat}{P:Fin->fZ->Prop}(o:IsTup s.heap t its.toArray)(hi:IntsAre its ns)(j:ns[k]?=some x)(m:∀i,i<k->ns[i]?≠some x)
  (h:P (.done (.ret (.int k s.toks))) { s with toks:=s.toks+1 }):gg (gn prog w) A (Builtin.«tuple.index» ⟨[.ref t,.int x u],[]⟩) P E s:=by
 show gg _ _ (Builtin.Tuple.tupleItemsOf (.ref t) >>= _) _ _ s;refine fY (tupleItemsOf_ o ?_);refine fY (gc ?_);refine fY (gc ?_);have l:k<ns.length:=(ag.mp j).1;have d:its.length=ns.length:=by clear j m h o l;induction hi with|nil=>rfl|cons n t r ih=>simp[ih]
 dsimp only;rw[show min its.toArray.size its.toArray.size=ns.length by rw[Nat.min_self,ay,d],ys4];refine fY (wpAny_forIn_list _ (λR5 b s'=>b.1=none/\s'=s/\∃i,i<=k/\R5=List.range' i (ns.length-i) 1) _ ?_ ?_ _ _ ⟨rfl,rfl,0,aG _,by rw[cE]⟩)
 .rintro y R5 b s' ⟨p,rfl,i,g,a⟩;rw[show ns.length-i=(ns.length-(i+1))+1 by lia,cq]at a;obtain⟨rfl,rfl⟩:=List.cons.inj a;obtain⟨z,q,h1,h2⟩:=zr0 hi (i:=y) (by lia);have f:its.toArray[y]?=some (.int z q):=by simpa using h1
  rw[f];refine fY (wpAny_eqBool_int ?_);by_cases c:y=k
  .subst c;rw[j]at h2;obtain rfl:=Option.some.inj h2;rw[if_pos (by simp)];unfold retInt;exact fY (fY (wpAny_mkInt (gc (gc (gc h)))))
  .have hne:z≠x:=λe=>m y (by lia) (e ▸ h2);rw[if_neg (by simpa using hne)];exact gc ⟨rfl,rfl,y+1,by lia,rfl⟩
 .rintro⟨v,B⟩ s' ⟨p,rfl,i,g,a⟩;rw[show ns.length-i=(ns.length-(i+1))+1 by lia,cq]at a
  cases a
end
section
variable {X:Cx}
def wa6 (K:W.Frag):V->List V->Hp->VK->Prop:=λx vs H Q=>∃(a:Addr) (ns:List Int) (z:Int) (k:Nat),x=.ref a/\vs=[.int z]/\SqT K H a (ns.map V.int)/\ns[k]?=some z/\(∀i,i<k->ns[i]?≠some z)/\Q (.int k) H
theorem xk4:MtR X "tuple.index" (wa6 X.K):=by
 intro pins s σ H x xs v n Q I m rv h;obtain⟨a,i,z,k,rfl,rfl,d,f,e,q⟩:=h
 cases m
 obtain⟨u,rfl,l⟩:=K6 rv;obtain⟨t,rfl⟩:=l;obtain⟨b,j,c,_⟩:=I.tuple d;have g:IntsAre b i:=by simpa using J2 j
 exact wpAny_call_entry PySem.F.slot_tuple_index c.typeIs PySem.F.entry_tuple_index (yp9 c g f e ⟨_,rfl,⟨.int k,H,I.tok _,⟨_,rfl⟩,q⟩⟩) (PySem.F.args_tuple_index_2 _ _)
def wi4 (r:V->List V->Hp->VK->Prop)(to:TE)(t:TA):TE:=λσ H Q=>to σ H λx H1=>(∃a xs,x=.ref a/\H1 a=some (.tup xs))/\t σ H1 λxs H2=>r x xs H2 Q
theorem xz9 {apos cpos:Pos}{id:String}{r:V->List V->Hp->VK->Prop}(slot:Slot "tuple" name id)(hty:typeOf (.builtin id)=pure (.type "method_descriptor"))(hm:MtR X id r)(ho:PE X o to)(ha:PA X (e::es) t)
  (hbase:attributeBase o name X.env (eval o X.env)=eval o X.env:=by rfl)
  (hfew:((backTo cpos (gh (e::es) X.env)).all (λx=>!x.1)&&(backToKw cpos (gw [] X.env)).all (λx=>x.1.isSome)
   && decide ((e::es).length+([]:List Keyword).length+(if ([]:List Keyword).isEmpty then 0 else 1)<30))=true:=by rfl)
  (hline:(apos.endLine==cpos.line)=true:=by rfl) (hs:gh (e::es) X.env=(false,eval e X.env)::gh es X.env:=by rfl) (hplain:(backTo cpos (gh es X.env)).any (·.1)=false:=by rfl) :
  PE X (.Call (.Attribute o name apos) (e::es) [] cpos) (wi4 r to t):=by
 intro pins s σ H Q I h
 refine wpAny_Call_method_late hbase hfew hline rfl (thn (ho pins s σ H _ I h) λv s1 ⟨x,H1,I1,r1,⟨a,xs,ex,ea⟩,q1⟩=>?_)
 subst ex
 cases (show v=Value.ref a from r1)
 obtain⟨_,its,_,o',h1,h2,n,h3,h4⟩:=(show n6 X.prog X.w H1 s1.heap a (.tup xs) from I1.hok a _ ea)
 refine⟨"tuple",id,PySem.F.plainAttrs_tuple,slot,hty,⟨o',h1,h2⟩,λb hb=>(by cases hb;exact⟨o',h1,h4⟩),?_⟩
 have hA:=ha cpos pins s1 σ H1 _ I1 q1
 rw[hs]at hA ⊢
 refine Calls.callWith_builtin (by show(false || (backTo cpos (gh es X.env)).any (·.1))=false;rw[hplain] <;> rfl) (Calls.evalArgs_plain ?_)
 exact thn hA λus s2 ⟨vs,H2,I2,r2,q2⟩=>hm pins s2 σ H2 (.ref a) vs _ us Q I2 rfl r2 q2
theorem yk6:OpR X (binaryOp .FloorDiv) (rI (λ_ j=>0<j/\j.natAbs.log2<9000) λi j=>.int (i / j)):=opI λi j _ _ _ _ _ hc q=>by
 have h1:(0:Int)<j:=hc.1
 have h2:j.natAbs.log2<9000:=hc.2
 exact floordiv_int (by lia) (by rw[dB i (by lia)];exact q) (.inl (PyProof.noPylong_of_log2 h2))
end
end L2
namespace L2
open PySem PySem.Spec PyProof.Rows
theorem yd3:∀xs:List Int,HT.lexLt xs xs=false
 | []=>rfl
 | x::xs=>by rw[HT.lexLt_cons,if_pos rfl,yd3 xs]
theorem yq8:∀{xs ys:List Int},HT.lexLt xs ys=true->HT.lexLt ys xs=false
 | [],[],h=>by cases h
 | [],y::ys,_=>rfl
 | x::xs,[],h=>by cases h
 | x::xs,y::ys,h=>by
  rw[HT.lexLt_cons]at h ⊢
  by_cases e:x=y
  .rw[if_pos e]at h
   rw[if_pos e.symm]
   exact yq8 h
  .rw[if_neg e]at h
   rw[if_neg (λz=>e z.symm)]
   have:=of_decide_eq_true h
   exact decide_eq_false (by lia)
theorem yq7:∀{xs ys zs:List Int},HT.lexLt ys xs=false->HT.lexLt zs ys=false->HT.lexLt zs xs=false
 | xs,ys,[],h1,h2=>by
  cases ys with
  | nil=>cases xs with
   | nil=>rfl
   | cons x xs=>rw[HT.lexLt_nil_cons]at h1;cases h1
  | cons y ys=>rw[HT.lexLt_nil_cons]at h2;cases h2
 | [],ys,z::zs,h1,h2=>rfl
 | x::xs,[],z::zs,h1,h2=>by rw[HT.lexLt_nil_cons]at h1;cases h1
 | x::xs,y::ys,z::zs,h1,h2=>by
  rw[HT.lexLt_cons]at h1 h2 ⊢
  by_cases e1:y=x
  .rw[if_pos e1]at h1
   by_cases e2:z=y
   .rw[if_pos e2]at h2
    rw[if_pos (e2.trans e1)]
    exact yq7 h1 h2
   .rw[if_neg e2]at h2
    have:=of_decide_eq_false h2
    rw[if_neg (by lia)]
    exact decide_eq_false (by lia)
  .rw[if_neg e1]at h1
   have h1:=of_decide_eq_false h1
   by_cases e2:z=y
   .rw[if_neg (by lia)]
    exact decide_eq_false (by lia)
   .rw[if_neg e2]at h2
    have:=of_decide_eq_false h2
    rw[if_neg (by lia)]
    exact decide_eq_false (by lia)
theorem yi9:∀{xs ys:List Int},HT.lexLt xs ys=false->HT.lexLt ys xs=false->xs=ys
 | [],[],_,_=>rfl
 | [],y::ys,h,_=>by rw[HT.lexLt_nil_cons]at h;cases h
 | x::xs,[],_,h=>by rw[HT.lexLt_nil_cons]at h;cases h
 | x::xs,y::ys,h1,h2=>by
  rw[HT.lexLt_cons]at h1 h2
  by_cases e:x=y
  .rw[if_pos e]at h1
   rw[if_pos e.symm]at h2
   rw[e,yi9 h1 h2]
  .rw[if_neg e]at h1
   rw[if_neg (λz=>e z.symm)]at h2
   have:=of_decide_eq_false h1
   have:=of_decide_eq_false h2
   lia
section
variable {X:Cx}
theorem zb6:V1 X (.builtin "isinstance") (λxs H Q=>∃(a C D:Addr) (b:Bool),xs=[.ref a,.ref D]/\H a=some (zv9 a C)/\yb4 X.K C/\W.kitOne X.K (.ref C) (.ref D)=some b/\Q (.bl b) H):=by
 intro pins s σ H xs l Q I r h;obtain⟨a,C,D,b,rfl,d,c,e,q⟩:=h;obtain⟨u,m,rfl,j,i⟩:=yo3 r
 cases i
 cases j
 obtain⟨⟨o,g,f⟩,_⟩:=I.hok a _ d;exact W.kia_one (xj0 c) I.kIn ⟨o,g,f⟩ e (λz=>nomatch z) λk=>⟨.bl b,H,I.tok k,rfl,q⟩
end
end L2
namespace Tb.SO
end Tb.SO
namespace L2
open PySem PySem.Spec PyProof.Rows
section
variable {X:Cx}
theorem ya1 {α β:Type}{F:α->β->Prop}:∀{as:List α} {bs:List β},as.length=bs.length->(∀(i:Nat) a b,as[i]?=some a->bs[i]?=some b->F a b)->Paired F as bs
 | [],[],_,_=>.nil
 | a::as,b::bs,hl,h=>.cons (h 0 a b rfl rfl) (ya1 (by simpa using hl) λi x y hx hy=>h (i+1) x y (by simpa using hx) (by simpa using hy))
 | [],_::_,hl,_=>by cases hl
 | _::_,[],hl,_=>by cases hl
end
end L2
namespace SortG
open PySem PyProof.Rows
def zf0:Bool->Keyed->Array Keyed->Nat->Nat->Nat->StateT SortSt Sem (Option Nat):=sortPriv% PySem.Builtin.gallop
def xk1:Array Keyed->Array Keyed->StateT SortSt Sem (Array Keyed):=sortPriv% PySem.Builtin.mergeLo
def xk0:Array Keyed->Array Keyed->StateT SortSt Sem (Array Keyed):=sortPriv% PySem.Builtin.mergeHi
section
variable {M:Model}{A:gq}{E:Value->fZ->Prop}{s:fZ}{κ:SortKind}{G:Keyed->Prop}{R:Keyed->Int}
structure Cmp (M:Model) (A:gq) (E:Value->fZ->Prop) (s:fZ) (κ:SortKind) (G:Keyed->Prop) (R:Keyed->Int):Prop where
 lt:∀{x y:Keyed} {st:SortSt} {Q:Option Bool->SortSt->Prop},G x->G y->kindOf st=κ->Q (some (decide (R x<R y))) st->wpS M A E s (lt' x y) Q st
abbrev dk:Keyed:=(Value.none,Value.none)
theorem l7 {a:Array Keyed}{Q:Keyed->SortSt->Prop}{st:SortSt}(hi:i<a.size)(h:Q (a.getD i dk) st):wpS M A E s (elem' a i) Q st:=by
 rw[elem'_eq,show a[i]?=some (a.getD i dk) by simp[Array.getD,hi]];exact gB h
def Pre (B:Nat->Bool)(n k:Nat):Prop:=k<=n/\∀i,i<n->(B i=true↔i<k)
theorem Pre.no {f:Nat->Int}{g:Nat->Bool}(h:Pre (λi=>if (false:Bool)=true then g i else !decide (x<f i)) n k):k<=n/\∀i,i<n->(f i<=x↔i<k) :=
 ⟨h.1,λi hi=>by have:=h.2 i hi;simpa using this⟩
theorem Pre.yes {f:Nat->Int}{g:Nat->Bool}(h:Pre (λi=>if (true:Bool)=true then decide (f i<x) else g i) n k):k<=n/\∀i,i<n->(f i<x↔i<k) :=
 ⟨h.1,λi hi=>by have:=h.2 i hi;simpa using this⟩
theorem P2 (c:Cmp M A E s κ G R){m:Array Keyed}{st:SortSt}{Q:Option Nat->SortSt->Prop}(X:kindOf st=κ)(hG:∀i,i<n->G (m.getD (base+i) dk))(H:G key)(hsz:base+n<=m.size)(hh:a<n)
  (up:∀i j,i<=j->j<n->R (m.getD (base+i) dk)<=R (m.getD (base+j) dk))
  (h:∀k,Pre (λi=>if left then decide (R (m.getD (base+i) dk)<R key) else !decide (R key<R (m.getD (base+i) dk))) n k->Q (some k) st):wpS M A E s (zf0 left key m base n a) Q st:=by
 obtain⟨B,P⟩:∃B:Nat->Bool,B=λi=>if left then decide (R (m.getD (base+i) dk)<R key) else !decide (R key<R (m.getD (base+i) dk)):=⟨_,rfl⟩
 rw[←P]at h;have mono:∀i j,i<=j->j<n->B j=true->B i=true:=λi j U O D=>by
  rw[P]at D ⊢;have:=up i j U O
  cases left with
  | true =>
   simp only[if_true,decide_eq_true_eq]at D ⊢;lia
  | false =>
   simp only[bY,if_false,Bool.not_eq_true',decide_eq_false_iff_not]at D ⊢;lia
 have d:∀(i:Nat) (F:Option Bool->SortSt->Prop),i<n->F (some (B i)) st->wpS M A E s (elem' m (base+i) >>= λx=>if left=true then lt' x key else(lt' key x >>= λr=>pure (r.map (λx=>!x)))) F st:=λi F hi u=>by
  refine gA (l7 (by lia) ?_);have V:=hG i hi;rw[P]at u
  cases left with
  | true=>exact c.lt V H X u
  | false=>exact gA (c.lt H V X (gB u))
 have J:∀(lo hi:Nat),lo<=hi->hi<=n->(∀i,i<lo->B i=true)->(∀i,hi<=i->i<n->B i=false)->∀(f:Option (Option Nat)×Nat×Nat->StateT SortSt Sem (Option Nat)) (g:Nat->Option (Option Nat)×Nat×Nat->StateT SortSt Sem (ForInStep (Option (Option Nat)×Nat×Nat))),
   (∀l k,f (none,l,k)=pure (some k))->(∀x l k,l ≥ k->g x (none,l,k)=pure (.done (none,l,k)))->(∀x l k,l<k->k<=n->∀F,F (.yield (if B (l+(k-l) / 2)=true then(none,l+(k-l) / 2+1,k) else(none,l,l+(k-l) / 2))) st->wpS M A E s (g x (none,l,k)) F st) ->
   wpS M A E s (forIn [:n] (none,lo,hi) g >>= f) Q st:=λlo hi h1 h2 Y Z f g W S T=>by
  refine gA (gC (I:=λj q b=>∃l k,q=(none,l,k)/\b=st/\l<=k/\k<=n/\k-l<=n-j/\(∀i,i<l->B i=true)/\(∀i,k<=i->i<n->B i=false)) ?_ ?_ ⟨lo,hi,rfl,rfl,h1,h2,by lia,Y,Z⟩)
  .rintro j q b _ O ⟨l,k,rfl,rfl,N,t,y,p,v⟩;by_cases w:l ≥ k
   .rw[S _ _ _ w];refine gB ?_;dsimp only;rw[W];exact gB (h k ⟨t,λi hi=>⟨λD=>Nat.lt_of_not_le λz=>(by rw[v i z hi]at D;cases D),λK=>p i (by lia)⟩⟩)
   .refine T _ _ _ (by lia) t _ ?_
    cases e:B (l+(k-l) / 2) with
    | true=>exact⟨_,_,rfl,rfl,by lia,t,by lia,λi hi=>mono i (l+(k-l) / 2) (by lia) (by lia) e,v⟩
    | false =>
     refine⟨_,_,rfl,rfl,by lia,by lia,by lia,p,λi hi C=>?_⟩
     cases e':B i with
     | false=>rfl
     | true=>rw[mono (l+(k-l) / 2) i hi C e']at e;cases e
  .rintro q b ⟨l,k,rfl,rfl,N,t,y,p,v⟩;rw[W];exact gB (h k ⟨t,λi hi=>⟨λD=>Nat.lt_of_not_le λz=>(by rw[v i z hi]at D;cases D),λK=>p i (by lia)⟩⟩)
 refine gA (d a _ hh ?_);dsimp only
 cases eh:B a with
 | true =>
  rw[if_pos rfl];refine gA (wpS_mono (Q:=λq b=>∃l o,q=(none,l,o)/\b=st/\l<o/\B (a+l)=true/\a+l<n/\(o ≥ n-a∨B (a+o)=false)) (gC (I:=λj q b=>∃l o,q=(none,l,o)/\b=st/\j+1<=o/\l<o/\B (a+l)=true/\a+l<n) ?_ ?_ ⟨0,1,rfl,rfl,by lia,by lia,by simpa using eh,by lia⟩) ?_)
  .rintro j q b _ O ⟨l,o,rfl,rfl,N,t,y,p⟩;dsimp only;by_cases L:o ≥ n-a
   .rw[if_pos L];exact gB ⟨_,_,rfl,rfl,t,y,p,.inl L⟩
   .rw[if_neg L];refine gA (d _ _ (by lia) ?_);dsimp only
    cases eo:B (a+o) with
    | true =>
     rw[if_neg (by simp)];exact gB ⟨_,_,rfl,rfl,by lia,by lia,eo,by lia⟩
    | false =>
     rw[if_pos (by rfl)];exact gB ⟨_,_,rfl,rfl,t,y,p,.inr eo⟩
  .rintro q b ⟨l,o,rfl,rfl,N,t,y,p⟩;exact⟨_,_,rfl,rfl,t,y,p,.inl (by lia)⟩
  .rintro q b ⟨l,o,rfl,rfl,t,y,p,v⟩;dsimp only;refine J _ _ (by lia) (by lia) (λi hi=>mono i (a+l) (by lia) p y) (λi hi C=>?_) _ _ (λl k=>rfl) (λx l k w=>if_pos w) (λx l k w K F u=>?_)
   .rcases v with v|v
    .lia
    .cases e:B i with
     | false=>rfl
     | true=>rw[mono (a+o) i (by lia) C e]at v;cases v
   .dsimp only;rw[if_neg (by lia)];refine gA (d _ _ (by lia) ?_);dsimp only
    cases e:B (l+(k-l) / 2) with
    | true=>rw[e]at u;rw[if_pos rfl]at u ⊢;exact gB u
    | false=>rw[e]at u;rw[if_neg aA]at u ⊢;exact gB u
 | false =>
  rw[if_neg aA];refine gA (wpS_mono (Q:=λq b=>∃l o,q=(none,l,o)/\b=st/\l<o/\l<=a/\B (a-l)=false/\(o ≥ a+1∨B (a-o)=true)) (gC (I:=λj q b=>∃l o,q=(none,l,o)/\b=st/\j+1<=o/\l<o/\l<=a/\B (a-l)=false) ?_ ?_ ⟨0,1,rfl,rfl,by lia,by lia,by lia,by simpa using eh⟩) ?_)
  .rintro j q b _ O ⟨l,o,rfl,rfl,N,t,y,p⟩;dsimp only;by_cases L:o ≥ a+1
   .rw[if_pos L];exact gB ⟨_,_,rfl,rfl,t,y,p,.inl L⟩
   .rw[if_neg L];refine gA (d _ _ (by lia) ?_);dsimp only
    cases eo:B (a-o) with
    | true =>
     rw[if_pos rfl];exact gB ⟨_,_,rfl,rfl,t,y,p,.inr eo⟩
    | false =>
     rw[if_neg aA];exact gB ⟨_,_,rfl,rfl,by lia,by lia,by lia,eo⟩
  .rintro q b ⟨l,o,rfl,rfl,N,t,y,p⟩;exact⟨_,_,rfl,rfl,t,y,p,.inl (by lia)⟩
  .rintro q b ⟨l,o,rfl,rfl,t,y,p,v⟩;dsimp only;refine J _ _ (by lia) (by lia) (λi hi=>?_) (λi hi C=>?_) _ _ (λl k=>rfl) (λx l k w=>if_pos w) (λx l k w K F u=>?_)
   .rcases v with v|v
    .lia
    .exact mono i (a-o) (by lia) (by lia) v
   .cases e:B i with
    | false=>rfl
    | true=>rw[mono (a-l) i (by lia) C e]at p;cases p
   .dsimp only;rw[if_neg (by lia)];refine gA (d _ _ (by lia) ?_);dsimp only
    cases e:B (l+(k-l) / 2) with
    | true=>rw[e]at u;rw[if_pos rfl]at u ⊢;exact gB u
    | false=>rw[e]at u;rw[if_neg aA]at u ⊢;exact gB u
def SL (R:Keyed->Int)(l:List Keyed):Prop:=l.Pairwise λx y=>R x<=R y
structure Jn (R:Keyed->Int) (tot out ra rb:List Keyed):Prop where
 perm:(out++ra++rb).Perm tot
 so:SL R out
 sa:SL R ra
 sb:SL R rb
 la:∀x∈out,∀y∈ra,R x<=R y
 lb:∀x∈out,∀y∈rb,R x<=R y
theorem Jn.moveA (j:Jn R tot out (ch++e) c)(h:∀x∈ch,∀y∈c,R x<=R y):Jn R tot (out++ch) e c:=by
 have d:=List.pairwise_append.mp j.sa;refine⟨by have:=j.perm;simpa[ba] using this,List.pairwise_append.mpr ⟨j.so,d.1,λx b y a=>j.la x b y (aR _ a)⟩,d.2.1,j.sb,λx b y a=>?_,λx b y a=>?_⟩
 .rcases aH.mp b with z|z
  .exact j.la x z y (aF _ a)
  .exact d.2.2 x z y a
 .rcases aH.mp b with z|z
  .exact j.lb x z y a
  .exact h x z y a
theorem Jn.swap (j:Jn R tot out ra rb):Jn R tot out rb ra:=⟨by
 refine List.Perm.trans ?_ j.perm
 rw[ba,ba]
 exact List.Perm.append_left _ List.perm_append_comm,j.so,j.sb,j.sa,j.lb,j.la⟩
theorem Jn.fin (j:Jn R tot out ra rb)(h:∀x∈ra,∀y∈rb,R x<=R y):(out++ra++rb).Perm tot/\SL R (out++ra++rb) :=
 ⟨j.perm,List.pairwise_append.mpr ⟨List.pairwise_append.mpr ⟨j.so,j.sa,j.la⟩,j.sb,λx hx y hy=>by
  rcases aH.mp hx with z|z
  .exact j.lb x z y hy
  .exact h x z y hy⟩⟩
structure Sg (st st':SortSt):Prop where
 k:kindOf st'=kindOf st
 a:arrOf st'=arrOf st
 p:pendingOf st'=pendingOf st
 f:failedOf st'=failedOf st
theorem yq4 {α:Type}{p:Prop}[Decidable p]{x y:StateT SortSt Sem α}{Q:α->SortSt->Prop}{st:SortSt}(h1:wpS M A E s x Q st)(h2:wpS M A E s y Q st):wpS M A E s (if p then x else y) Q st:=by
 split
 .exact h1
 .exact h2
theorem za0 {Q:Unit->SortSt->Prop}{st:SortSt}(h:Q () st):wpS M A E s (liftM (rule x):StateT SortSt Sem Unit) Q st:=wpS_lift (wpAny_rule ⟨rfl,h⟩)
section
variable {a:Array Keyed}{i k:Nat}
theorem zq3 (h:i<a.size):a.toList.drop i=a.getD i dk::a.toList.drop (i+1):=by
 rw[bV (by simpa using h)];simp[Array.getD,h]
theorem ze9:(a.extract i).toList=a.toList.drop i:=by
 rw[Array.toList_extract];simp[List.extract];rw[aV (by simp)]
theorem zq5:(a.extract i (i+k)).toList=(a.toList.drop i).take k:=by
 rw[Array.toList_extract];simp[List.extract]
theorem zh7 (c:x∈(a.toList.drop i).take k):∃j,j<k/\i+j<a.size/\x=a.getD (i+j) dk:=by
 obtain⟨j,b,e⟩:=bh.mp c;rw[aK,bH,aP]at b;refine⟨j,by lia,by lia,?_⟩;rw[List.getElem_take,List.getElem_drop]at e;rw[←e];simp[Array.getD,show i+j<a.size by lia]
theorem zc6 (i k:Nat):a.toList.drop i=(a.toList.drop i).take k++a.toList.drop (i+k):=by
 rw[←fQ,bM]
theorem xh2 (h:i+k<=a.size):(a.extract i (i+k)).size=k:=by
 rw[Array.size_extract];lia
theorem o9 (h:i<a.size):a.getD i dk∈a.toList:=by
 simp[Array.getD,h]
theorem SL.get {R:Keyed->Int}(u:SL R a.toList)(c:i<=j)(b:j<a.size):R (a.getD i dk)<=R (a.getD j dk):=by
 rcases cF i j with h|h
 .have:=bg.mp u i j (by simp;lia) (by simpa using b) h;simpa[Array.getD,b,show i<a.size by lia] using this
 .rw[show i=j by lia];exact dq _
theorem xg7 (c:x∈a.toList.drop i):∃j,i<=j/\j<a.size/\x=a.getD j dk:=by
 obtain⟨j,b,e⟩:=bh.mp c;rw[bH,aP]at b;refine⟨i+j,by lia,by lia,?_⟩;rw[List.getElem_drop]at e;rw[←e];simp[Array.getD,show i+j<a.size by lia]
end
section
variable {α:Type}{x y:StateT SortSt Sem α}{Q:α->SortSt->Prop}{st:SortSt}
theorem L9 {p:Prop}[Decidable p](h1:p->wpS M A E s x Q st)(h2:¬p->wpS M A E s y Q st):wpS M A E s (if p then x else y) Q st:=by
 by_cases h:p
 .rw[if_pos h];exact h1 h
 .rw[if_neg h];exact h2 h
theorem V7 {m n:Nat}(h1:m=n->wpS M A E s x Q st)(h2:m≠n->wpS M A E s y Q st):wpS M A E s (if (m==n)=true then x else y) Q st:=L9 (λh=>h1 (beq_iff_eq.mp h)) (λh=>h2 λz=>h (beq_iff_eq.mpr z))
theorem yi6 {p:Prop}[Decidable p](h1:p->wpS M A E s x Q st)(h2:¬p->wpS M A E s y Q st):wpS M A E s (if decide p=true then x else y) Q st:=L9 (λh=>h1 (of_decide_eq_true h)) (λh=>h2 λz=>h (decide_eq_true z))
theorem xi5 {β:Type}{f:β->StateT SortSt Sem α}{p:Prop}[Decidable p]{x y:β}(h:∀z,wpS M A E s (f z) Q st):wpS M A E s (if p then f x else f y) Q st:=yq4 (h _) (h _)
theorem yd1 {β γ:Type}{f:β->γ->StateT SortSt Sem α}(P:β->γ->Prop)(h:∀b c,P b c->wpS M A E s (f b c) Q st)(k:(∀b c,P b c->wpS M A E s (f b c) Q st)->wpS M A E s x Q st):wpS M A E s x Q st:=k h
end
section
variable {a:Array Keyed}{ia:Nat}{key:Keyed}{st:SortSt}{Q:Option Nat->SortSt->Prop}
theorem wh3 (c:Cmp M A E s κ G R)(g:kindOf st=κ)(d:∀x∈a.toList,G x)(b:G key)(m:SL R a.toList)(e:ia<a.size)(h:∀k,ia+k<=a.size->(∀i,i<k->R (a.getD (ia+i) dk)<=R key)->(ia+k<a.size->R key<R (a.getD (ia+k) dk))->Q (some k) st):wpS M A E s (zf0 false key a ia (a.size-ia) 0) Q st:=by
 refine P2 c g (λi hi=>d _ (o9 (by lia))) b (by lia) (by lia) (λi j f o=>m.get (by lia) (by lia)) λk l=>?_;obtain⟨h1,h2⟩:=l.no;exact h k (by lia) (λi hi=>(h2 i (by lia)).mpr hi) λz=>Int.not_le.mp λn=>aO _ ((h2 k (by lia)).mp n)
theorem wh2 (c:Cmp M A E s κ G R)(g:kindOf st=κ)(d:∀x∈a.toList,G x)(b:G key)(m:SL R a.toList)(e:ia<a.size)(h:∀k,ia+k<=a.size->(∀i,i<k->R (a.getD (ia+i) dk)<R key)->(ia+k<a.size->R key<=R (a.getD (ia+k) dk))->Q (some k) st):wpS M A E s (zf0 true key a ia (a.size-ia) 0) Q st:=by
 refine P2 c g (λi hi=>d _ (o9 (by lia))) b (by lia) (by lia) (λi j f o=>m.get (by lia) (by lia)) λk l=>?_;obtain⟨h1,h2⟩:=l.yes;exact h k (by lia) (λi hi=>(h2 i (by lia)).mpr hi) λz=>cf.mp λn=>aO _ ((h2 k (by lia)).mp n)
end
structure LoI (R:Keyed->Int) (tot:List Keyed) (a b:Array Keyed) (n:Nat) (out:Array Keyed) (ia ib:Nat):Prop where
 jn:Jn R tot out.toList (a.toList.drop ia) (b.toList.drop ib)
 ua:SL R a.toList
 ub:SL R b.toList
 sz:out.size=ia+ib
 hn:n<=out.size
section
variable {a b out:Array Keyed}{n n' ia ib k:Nat}{tot:List Keyed}
theorem LoI.weak (h:LoI R tot a b n out ia ib)(w:n'<=n):LoI R tot a b n' out ia ib:=⟨h.jn,h.ua,h.ub,h.sz,aD w h.hn⟩
theorem LoI.swap (h:LoI R tot a b n out ia ib):LoI R tot b a n out ib ia:=⟨h.jn.swap,h.ub,h.ua,h.sz.trans (eP _ _),h.hn⟩
theorem low (u:SL R a.toList)(hz:z<=R (a.getD ia dk)):∀x∈a.toList.drop ia,z<=R x:=λx hx=>by
 obtain⟨j,h1,h2,rfl⟩:=xg7 hx
 exact cm hz (u.get h1 h2)
theorem LoI.pushA (h:LoI R tot a b n out ia ib)(c:ia<a.size)(hr:R (a.getD ia dk)<=R (b.getD ib dk)):LoI R tot a b (n+1) (out.push (a.getD ia dk)) (ia+1) ib:=by
 have j:=h.jn;rw[zq3 c]at j;refine⟨?_,h.ua,h.ub,by rw[Array.size_push,h.sz,Nat.add_right_comm],by rw[Array.size_push];exact Nat.succ_le_succ h.hn⟩;rw[Array.toList_push];exact Jn.moveA (ch:=[a.getD ia dk]) j λx d y e=>by rw[aq.mp d];exact low h.ub hr y e
theorem LoI.extA (h:LoI R tot a b n out ia ib)(c:ia+k<=a.size)(hr:∀i,i<k->R (a.getD (ia+i) dk)<=R (b.getD ib dk)):LoI R tot a b n (out++a.extract ia (ia+k)) (ia+k) ib:=by
 have j:=h.jn;rw[zc6 ia k]at j;refine⟨?_,h.ua,h.ub,by rw[Array.size_append,xh2 c,h.sz,Nat.add_right_comm],by rw[Array.size_append];exact aD h.hn (cw _ _)⟩;rw[Array.toList_append,zq5];refine j.moveA λz d=>?_;obtain⟨i,h1,h2,rfl⟩:=zh7 d;exact low h.ub (hr i h1)
theorem LoI.fin1 (h:LoI R tot a b n out ia ib)(e:ib=b.size):(out++a.extract ia++b.extract ib).toList.Perm tot/\SL R (out++a.extract ia++b.extract ib).toList:=by
 rw[Array.toList_append,Array.toList_append,ze9,ze9];exact h.jn.fin (λx d y c=>by rw[e,List.drop_eq_nil_of_le (by simp)]at c;cases c)
theorem LoI.fin2 (h:LoI R tot a b n out ia ib)(e:ia+1=a.size)(hl:∀x∈b.toList,R x<R (a.getD (a.size-1) dk)):(out++b.extract ib++a.extract ia).toList.Perm tot/\SL R (out++b.extract ib++a.extract ia).toList:=by
 rw[Array.toList_append,Array.toList_append,ze9,ze9];refine h.jn.swap.fin (λx d y c=>?_);rw[zq3 (by lia),List.drop_eq_nil_of_le (by simp;lia)]at c;rw[aq.mp c,show ia=a.size-1 by lia];exact bJ (hl x (fv d))
end
theorem yr5 (c:Cmp M A E s κ G R){a b:Array Keyed}{st:SortSt}{Q:Array Keyed->SortSt->Prop}(hk:kindOf st=κ)(ga:∀x∈a.toList,G x)(gb:∀x∈b.toList,G x)(ua:SL R a.toList)(ub:SL R b.toList)(na:0<a.size)(nb:0<b.size)
  (hf:∀x∈a.toList,R (b.getD 0 dk)<=R x) (hl:∀x∈b.toList,R x<R (a.getD (a.size-1) dk))
  (h:∀(out:Array Keyed) o,Sg st o->out.toList.Perm (a.toList++b.toList)->SL R out.toList->Q out o):wpS M A E s (xk1 a b) Q st:=by
 refine gA (za0 (gA (l7 nb ?_)));obtain⟨tot,T⟩:∃tot,tot=a.toList++b.toList:=⟨_,rfl⟩;rw[←T]at h;have j0:LoI R tot a b 1 #[b.getD 0 dk] 0 1:=by
  refine LoI.swap (LoI.pushA (out:=#[]) (n:=0) (ia:=0) (ib:=0) ⟨⟨?_,.nil,ub,ua,λ_ h=>(by cases h),λ_ h=>(by cases h)⟩,ub,ua,rfl,aG _⟩ nb (hf _ (o9 na)));rw[T];exact List.perm_append_comm
 have fin1:∀{o:SortSt} {out:Array Keyed} {n ia ib:Nat},Sg st o->LoI R tot a b n out ia ib->ib=b.size->Q (out++a.extract ia++b.extract ib) o:=λS j e=>h _ _ S (j.fin1 e).1 (j.fin1 e).2;have fin2:∀{o:SortSt} {out:Array Keyed} {n ia ib:Nat},Sg st o->LoI R tot a b n out ia ib->ia+1=a.size->Q (out++b.extract ib++a.extract ia) o:=λS j e=>h _ _ S (j.fin2 e hl).1 (j.fin2 e hl).2;have Y:Sg st st:=⟨rfl,rfl,rfl,rfl⟩;refine V7 (λh1=>gB (fin1 Y j0 h1)) λh1=>V7 (λh2=>gB (fin2 Y j0 h2)) λh2=>gA (wpS_get ?_);have C:∀{i n:Nat},i+1<n->i<n:=Nat.lt_of_succ_lt;have u:∀{i n:Nat},i<n->i+1≠n->i+1<n:=cT;refine gA (wpS_mono (Q:=λq o=>∃r,q.1=some r/\Q r o) (gC (I:=λj q o=>∃out ia ib mg,q=(none,out,ia,ib,mg)/\Sg st o/\LoI R tot a b (j+1) out ia ib/\ia+1<a.size/\ib<b.size) ?_ ?_ ⟨_,0,1,_,rfl,Y,j0,u na h2,u nb h1⟩) ?_)
 .rintro j q o _ hj ⟨out,ia,ib,mg,rfl,S,B,l,d⟩;dsimp -zeta only;have aq:kindOf o=κ:=S.k.trans hk;refine gA (wpS_mono (Q:=λq t=>t=o/\((∃r,q.1=some r/\Q r o)∨∃out ia ib x y,q=(none,out,ia,ib,x,y)/\LoI R tot a b (j+2) out ia ib/\ia+1<a.size/\ib<b.size))
   (gC (I:=λi q t=>t=o/\∃out ia ib x y,q=(none,out,ia,ib,x,y)/\LoI R tot a b (j+1+(if i=0 then 0 else 1)) out ia ib/\ia+1<a.size/\ib<b.size) ?_ ?_ ⟨rfl,out,ia,ib,0,0,rfl,B,l,d⟩) ?_)
  .rintro i q t _ hi ⟨rfl,out,ia,ib,x,y,rfl,B,l,d⟩;dsimp only;have w1:j+2<=j+1+(if i=0 then 0 else 1)+1:=Nat.succ_le_succ (cw _ _);have w2:j+1+(if i+1=0 then 0 else 1)<=j+1+(if i=0 then 0 else 1)+1:=by rw[if_neg (Nat.succ_ne_zero i)];exact w1
   refine gA (l7 d (gA (l7 (C l) (gA (c.lt (gb _ (o9 d)) (ga _ (o9 (C l))) aq ?_)))));refine yi6 (λK=>gA (l7 d ?_)) λK=>gA (l7 (C l) ?_)
   .have D:=(B.swap.pushA d (bJ K)).swap;exact V7 (λF=>gB ⟨rfl,.inl ⟨_,rfl,fin1 S D F⟩⟩) λF=>L9 (λL=>gB ⟨rfl,.inr ⟨_,_,_,_,_,rfl,D.weak w1,l,u d F⟩⟩) λL=>gB ⟨rfl,_,_,_,_,_,rfl,D.weak w2,l,u d F⟩
   .have D:=B.pushA (C l) (cf.mp K);exact V7 (λF=>gB ⟨rfl,.inl ⟨_,rfl,fin2 S D F⟩⟩) λF=>L9 (λL=>gB ⟨rfl,.inr ⟨_,_,_,_,_,rfl,D.weak w1,u l F,d⟩⟩) λL=>gB ⟨rfl,_,_,_,_,_,rfl,D.weak w2,u l F,d⟩
  .rintro q t ⟨rfl,out,ia,ib,x,y,rfl,B,l,d⟩;rw[if_neg (by lia)]at B;exact⟨rfl,.inr ⟨_,_,_,_,_,rfl,B,l,d⟩⟩
  rintro q t ⟨rfl,(⟨r,e,hq⟩|⟨out,ia,ib,x,y,rfl,B,l,d⟩)⟩
  .obtain⟨q1,q2⟩:=q
   cases e
   exact gB ⟨_,rfl,hq⟩
  refine gA (za0 ?_);refine gA (wpS_mono (Q:=λq t=>Sg st t/\((∃r,q.1=some r/\Q r t)∨∃out ia ib m x y,q=(none,out,ia,ib,m,x,y)/\LoI R tot a b (j+2) out ia ib/\ia+1<a.size/\ib<b.size))
   (gC (I:=λi q t=>Sg st t/\∃out ia ib m x y,q=(none,out,ia,ib,m,x,y)/\LoI R tot a b (j+2) out ia ib/\ia+1<a.size/\ib<b.size) ?_ ?_ ⟨S,out,ia,ib,_,_,_,rfl,B,l,d⟩) ?_)
  .rintro i q t _ hi ⟨v,out,ia,ib,m,x,y,rfl,B,l,d⟩;dsimp -zeta only;extract_lets -underBinder +onlyGivenNames s1 o1 s2 Z s3 b1 s4 m1 s5 ac bc jp;refine xi5 (f:=jp ()) (x:=m-1) (y:=m) λm2=>?_;dsimp -zeta only[jp,s1,o1,s2,Z,s3,b1,s4,m1,s5,ac,bc];clear jp ac bc s5 m1 s4 b1 s3 Z s2 o1 s1;have w:∀g:Nat,Sg st (SortSt.mk' (kindOf t) (arrOf t) (pendingOf t) g (failedOf t)):=λg=>⟨v.k,v.a,v.p,v.f⟩;have aa:=v.k.trans hk;refine gA (wpS_modify (gA (l7 d (gA (wh3 c aa ga (gb _ (o9 d)) ua (C l) λk ar ab K=>?_)))));dsimp -zeta only;extract_lets -underBinder +onlyGivenNames ac jp;refine yd1 (f:=jp ()) (λo1 Z=>LoI R tot a b (j+2) o1 Z ib/\Z+1<a.size/\R (b.getD ib dk)<R (a.getD Z dk)) ?_ λJ=>?_
   .rintro az ag ⟨O,H,ae⟩;dsimp -zeta only[jp];clear jp;have ah:=(O.swap.pushA d (bJ ae)).swap;refine gA (l7 d ?_);refine V7 (λL=>gB ⟨w _,.inl ⟨_,rfl,fin1 (w _) ah L⟩⟩) λL=>?_;refine gA (l7 (C H) (gA (wh2 c aa gb (ga _ (o9 (C H))) ub (u d L) λk1 X ad V=>?_)));dsimp -zeta only;extract_lets -underBinder +onlyGivenNames bc jp;refine yd1 (f:=jp ()) (λo3 i3=>LoI R tot a b (j+2) o3 ag i3/\i3<b.size/\R (a.getD ag dk)<=R (b.getD i3 dk)) ?_ λJ=>?_
    .rintro a' bf ⟨P,U,ap⟩;dsimp -zeta only[jp];clear jp;have ai:=P.pushA (C H) ap;refine gA (l7 (C H) ?_);refine V7 (λe5=>gB ⟨w _,.inl ⟨_,rfl,fin2 (w _) ai e5⟩⟩) λe5=>?_;have aj:=ai.weak (bU _);exact yq4 (gB ⟨w _,.inr ⟨_,_,_,_,_,_,rfl,aj,u H e5,U⟩⟩) (gB ⟨w _,_,_,_,_,_,_,rfl,aj,u H e5,U⟩)
    .clear_value jp;have W:=ah.weak (bU _);refine L9 (λe=>?_) λe=>?_
     .have P:=(W.swap.extA X λi hi=>bJ (ad i hi)).swap;exact V7 (λe4=>gB ⟨w _,.inl ⟨_,rfl,fin1 (w _) P e4⟩⟩) λe4=>J _ _ ⟨P,cT X e4,V (cT X e4)⟩
     .obtain rfl:k1=0:=Nat.eq_zero_of_not_pos e;exact J _ _ ⟨W,u d L,V (u d L)⟩
   .clear_value jp;have N:ia+k<a.size:=Nat.lt_of_not_le λz=>by
     have h1:=ab (a.size-1-ia) (by lia);rw[show ia+(a.size-1-ia)=a.size-1 by lia]at h1;exact absurd (hl _ (o9 d)) (cf.mpr h1)
    refine L9 (λe=>?_) λe=>?_
    .have O:=B.extA ar ab;exact V7 (λF=>gB ⟨w _,.inl ⟨_,rfl,fin2 (w _) O F⟩⟩) λF=>V7 (λL=>absurd L (aX N)) λ_=>J _ _ ⟨O,u N F,K N⟩
    .obtain rfl:k=0:=Nat.eq_zero_of_not_pos e;exact J _ _ ⟨B,l,K N⟩
  .rintro q t ⟨v,out,ia,ib,m,x,y,rfl,B,l,d⟩;exact⟨v,.inr ⟨_,_,_,_,_,_,rfl,B,l,d⟩⟩
  .rintro q t ⟨v,(⟨r,e,hq⟩|⟨out,ia,ib,m,x,y,rfl,B,l,d⟩)⟩
   .obtain⟨q1,q2⟩:=q
    cases e
    exact gB ⟨_,rfl,hq⟩
   .exact gA (wpS_modify (gB ⟨_,_,_,_,rfl,⟨v.k,v.a,v.p,v.f⟩,B,l,d⟩))
 .rintro q o ⟨out,ia,ib,mg,rfl,S,B,l,d⟩;have:=B.hn;have:=B.sz;lia
 .rintro q o ⟨r,e,hq⟩;obtain⟨q1,q2⟩:=q
  cases e
  exact gB hq
section
variable {a:Array Keyed}{i k:Nat}
def Rv (a:Array Keyed)(i:Nat):List Keyed:=(a.toList.take i).reverse
theorem xt7 (h:i<a.size):Rv a (i+1)=a.getD i dk::Rv a i:=by
 unfold Rv;rw[aT,List.reverse_append,aa (by simpa using h)];simp[Array.getD,h]
theorem xn2 (b:0<i)(h:i<=a.size):Rv a i=a.getD (i-1) dk::Rv a (i-1):=by
 have:=xt7 (a:=a) (i:=i-1) (by lia);rwa [show i-1+1=i by lia]at this
theorem xn1 (b:x∈(a.extract k i).reverse.toList)(hi:i<=a.size):∃j,k<=j/\j<i/\x=a.getD j dk:=by
 rw[Array.toList_reverse,eR,Array.toList_extract]at b;simp only[List.extract]at b;obtain⟨j,h1,h2,rfl⟩:=zh7 b;exact⟨k+j,by lia,by lia,rfl⟩
theorem xt8 (h:i<=a.size):(a.extract k i).reverse.size=i-k:=by
 rw[Array.size_reverse,Array.size_extract];lia
theorem ys7 (b:x∈Rv a i):∃j,j<i/\j<a.size/\x=a.getD j dk:=by
 unfold Rv at b;rw[eR]at b;have:=zh7 (a:=a) (i:=0) (k:=i) (by rwa [dA]);simpa using this
theorem xn3 (h:k<=i)(hi:i<=a.size):Rv a i=(a.extract k i).reverse.toList++Rv a k:=by
 unfold Rv;rw[Array.toList_reverse,Array.toList_extract,←List.reverse_append];simp only[List.extract];rw[show i=k+(i-k) by lia,List.take_add,show k+(i-k)-k=i-k by lia]
theorem SL.rv {R:Keyed->Int}(u:SL R a.toList):SL (λx=>-R x) (Rv a i):=by
 unfold Rv SL;rw[List.pairwise_reverse];refine(List.Pairwise.sublist (eG _ _) u).imp λh=>?_;show -R _<=-R _;lia
theorem xh1:(a.extract 0 i).toList=(Rv a i).reverse:=by
 unfold Rv;rw[List.reverse_reverse,Array.toList_extract];simp[List.extract]
end
section
variable {a:Array Keyed}{na:Nat}{key:Keyed}{st:SortSt}{Q:Option Nat->SortSt->Prop}
theorem wd1 (c:Cmp M A E s κ G R)(g:kindOf st=κ)(e:∀x∈a.toList,G x)(b:G key)(n:SL R a.toList)(p:0<na)(l:na<=a.size)(h:∀k,k<=na->(∀i,i<k->R (a.getD i dk)<=R key)->(∀i,k<=i->i<na->R key<R (a.getD i dk))->Q (some k) st):wpS M A E s (zf0 false key a 0 na (na-1)) Q st:=by
 refine P2 c g (λi hi=>e _ (o9 (by lia))) b (by lia) (by lia) (λi j f q=>n.get (by lia) (by lia)) λk m=>?_;obtain⟨h1,h2⟩:=m.no;simp only[bP]at h2;exact h k h1 (λi hi=>(h2 i (by lia)).mpr hi) λi hi d=>Int.not_le.mp λo=>Nat.not_lt_of_le hi ((h2 i d).mp o)
theorem wd0 (c:Cmp M A E s κ G R)(g:kindOf st=κ)(e:∀x∈a.toList,G x)(b:G key)(n:SL R a.toList)(p:0<na)(l:na<=a.size)(h:∀k,k<=na->(∀i,i<k->R (a.getD i dk)<R key)->(∀i,k<=i->i<na->R key<=R (a.getD i dk))->Q (some k) st):wpS M A E s (zf0 true key a 0 na (na-1)) Q st:=by
 refine P2 c g (λi hi=>e _ (o9 (by lia))) b (by lia) (by lia) (λi j f q=>n.get (by lia) (by lia)) λk m=>?_;obtain⟨h1,h2⟩:=m.yes;simp only[bP]at h2;exact h k h1 (λi hi=>(h2 i (by lia)).mpr hi) λi hi d=>cf.mp λo=>Nat.not_lt_of_le hi ((h2 i d).mp o)
end
structure HiI (R:Keyed->Int) (tot:List Keyed) (a b:Array Keyed) (n:Nat) (out:Array Keyed) (na nb:Nat):Prop where
 jn:Jn (λx=>-R x) tot out.toList (Rv a na) (Rv b nb)
 ua:SL R a.toList
 ub:SL R b.toList
 sz:out.size+na+nb=a.size+b.size
 hn:n<=out.size
 ha:na<=a.size
 hb:nb<=b.size
section
variable {a b out:Array Keyed}{n n' na nb k:Nat}{tot:List Keyed}
theorem HiI.weak (h:HiI R tot a b n out na nb)(w:n'<=n):HiI R tot a b n' out na nb:=⟨h.jn,h.ua,h.ub,h.sz,aD w h.hn,h.ha,h.hb⟩
theorem HiI.swap (h:HiI R tot a b n out na nb):HiI R tot b a n out nb na:=⟨h.jn.swap,h.ub,h.ua,by have:=h.sz;lia,h.hn,h.hb,h.ha⟩
theorem wd2 (u:SL R a.toList)(hi:na<=a.size)(hz:R (a.getD (na-1) dk)<=z):∀x∈Rv a na,R x<=z:=λx hx=>by
 obtain⟨j,h1,h2,rfl⟩:=ys7 hx
 exact cm (u.get (by lia) (by lia)) hz
theorem HiI.pushA (h:HiI R tot a b n out na nb)(c:0<na)(hr:R (b.getD (nb-1) dk)<=R (a.getD (na-1) dk)):HiI R tot a b (n+1) (out.push (a.getD (na-1) dk)) (na-1) nb:=by
 have j:=h.jn;have f:=h.sz;rw[xn2 c h.ha]at j;refine⟨?_,h.ua,h.ub,by rw[Array.size_push];lia,by rw[Array.size_push];exact Nat.succ_le_succ h.hn,aD (Nat.sub_le _ _) h.ha,h.hb⟩;rw[Array.toList_push];exact Jn.moveA (ch:=[a.getD (na-1) dk]) j λx d y e=>by rw[aq.mp d];exact Int.neg_le_neg (wd2 h.ub h.hb hr y e)
theorem HiI.extA (h:HiI R tot a b n out na nb)(c:k<=na)(hr:∀i,k<=i->i<na->R (b.getD (nb-1) dk)<=R (a.getD i dk)):HiI R tot a b n (out++(a.extract k na).reverse) k nb:=by
 have j:=h.jn;have f:=h.sz;rw[xn3 c h.ha]at j;refine⟨?_,h.ua,h.ub,by rw[Array.size_append,xt8 h.ha];lia,by rw[Array.size_append];exact aD h.hn (cw _ _),aD c h.ha,h.hb⟩;rw[Array.toList_append];refine j.moveA λz e y d=>?_;obtain⟨i,h1,h2,rfl⟩:=xn1 e h.ha;exact Int.neg_le_neg (wd2 h.ub h.hb (hr i h1 h2) y d)
theorem HiI.fin (h:HiI R tot a b n out na nb)(c:∀x∈Rv b nb,∀y∈Rv a na,R y<=R x):(a.extract 0 na++b.extract 0 nb++out.reverse).toList.Perm tot/\SL R (a.extract 0 na++b.extract 0 nb++out.reverse).toList:=by
 have:=h.jn.swap.fin (λx d y e=>Int.neg_le_neg (c x d y e));rw[show(a.extract 0 na++b.extract 0 nb++out.reverse).toList=(out.toList++Rv b nb++Rv a na).reverse by rw[Array.toList_append,Array.toList_append,xh1,xh1,Array.toList_reverse,List.reverse_append,List.reverse_append,ba]];refine⟨(List.reverse_perm _).trans this.1,?_⟩;unfold SL;rw[List.pairwise_reverse];exact this.2.imp λh=>Int.le_of_neg_le_neg h
theorem HiI.fin1 (h:HiI R tot a b n out na nb)(e:na=0):(a.extract 0 na++b.extract 0 nb++out.reverse).toList.Perm tot/\SL R (a.extract 0 na++b.extract 0 nb++out.reverse).toList:=h.fin λx _ y hy=>by rw[e]at hy;cases hy
theorem HiI.fin2 (h:HiI R tot a b n out na nb)(e:nb=1)(hf:∀x∈a.toList,R (b.getD 0 dk)<R x):(b.extract 0 nb++a.extract 0 na++out.reverse).toList.Perm tot/\SL R (b.extract 0 nb++a.extract 0 na++out.reverse).toList:=h.swap.fin λx hx y hy=>by
 obtain⟨i,h1,h2,rfl⟩:=ys7 hx
 obtain⟨i',h1',h2',rfl⟩:=ys7 hy
 rw[show i'=0 by lia]
 exact bJ (hf _ (o9 h2))
end
theorem yr4 (c:Cmp M A E s κ G R){a b:Array Keyed}{st:SortSt}{Q:Array Keyed->SortSt->Prop}(hk:kindOf st=κ)(ga:∀x∈a.toList,G x)(gb:∀x∈b.toList,G x)(ua:SL R a.toList)(ub:SL R b.toList)(ar:0<a.size)(as:0<b.size)
  (hf:∀x∈a.toList,R (b.getD 0 dk)<R x) (hl:∀x∈b.toList,R x<R (a.getD (a.size-1) dk))
  (h:∀(out:Array Keyed) o,Sg st o->out.toList.Perm (a.toList++b.toList)->SL R out.toList->Q out o):wpS M A E s (xk0 a b) Q st:=by
 have z:∀{i n:Nat},0<i->i<=n->i-1<n:=λh1 h2=>aM (Nat.sub_lt h1 Nat.zero_lt_one) h2;refine gA (za0 (gA (l7 (z ar (af _)) ?_)));obtain⟨tot,S⟩:∃tot,tot=a.toList++b.toList:=⟨_,rfl⟩;rw[←S]at h;have j0:HiI R tot a b 1 #[a.getD (a.size-1) dk] (a.size-1) b.size:=by
  have T:∀x:Array Keyed,Rv x x.size=x.toList.reverse:=λx=>by unfold Rv;rw[aV (by simp)]
  refine HiI.pushA (out:=#[]) (n:=0) ⟨⟨?_,.nil,ua.rv,ub.rv,λ_ h=>(by cases h),λ_ h=>(by cases h)⟩,ua,ub,by rw[Array.size_empty,bP],aG _,af _,af _⟩ ar (bJ (hl _ (o9 (z as (af _)))));rw[S,T,T];exact List.Perm.append (List.reverse_perm _) (List.reverse_perm _)
 have fin1:∀{o:SortSt} {out:Array Keyed} {n na nb:Nat},Sg st o->HiI R tot a b n out na nb->na=0->Q (a.extract 0 na++b.extract 0 nb++out.reverse) o:=λP j e=>h _ _ P (j.fin1 e).1 (j.fin1 e).2;have fin2:∀{o:SortSt} {out:Array Keyed} {n na nb:Nat},Sg st o->HiI R tot a b n out na nb->nb=1->Q (b.extract 0 nb++a.extract 0 na++out.reverse) o:=λP j e=>h _ _ P (j.fin2 e hf).1 (j.fin2 e hf).2;have ad:Sg st st:=⟨rfl,rfl,rfl,rfl⟩;have H:∀{i:Nat},0<i->i≠1->1<i:=λh e=>cT h (Ne.symm e);have N:∀{i:Nat},1<i->0<i:=λh=>Nat.lt_of_succ_lt h;have F:∀{i:Nat},1<i->0<i-1:=λh=>Nat.sub_pos_of_lt h;refine V7 (λh1=>gB (fin1 ad j0 h1)) λh1=>V7 (λh2=>gB (fin2 ad j0 h2)) λh2=>gA (wpS_get ?_);refine gA (wpS_mono (Q:=λq o=>∃r,q.1=some r/\Q r o) (gC (I:=λj q o=>∃na nb out mg,q=(none,na,nb,out,mg)/\Sg st o/\HiI R tot a b (j+1) out na nb/\0<na/\1<nb) ?_ ?_ ⟨_,_,#[a.getD (a.size-1) dk],_,rfl,ad,j0,Nat.pos_of_ne_zero h1,H as h2⟩) ?_)
 .rintro j q o _ hj ⟨na,nb,out,mg,rfl,P,v,l,d⟩;dsimp -zeta only;have a':kindOf o=κ:=P.k.trans hk;refine gA (wpS_mono (Q:=λq t=>t=o/\((∃r,q.1=some r/\Q r o)∨∃na nb out x y,q=(none,na,nb,out,x,y)/\HiI R tot a b (j+2) out na nb/\0<na/\1<nb))
   (gC (I:=λi q t=>t=o/\∃na nb out x y,q=(none,na,nb,out,x,y)/\HiI R tot a b (j+1+(if i=0 then 0 else 1)) out na nb/\0<na/\1<nb) ?_ ?_ ⟨rfl,na,nb,out,0,0,rfl,v,l,d⟩) ?_)
  .rintro i q t _ hi ⟨rfl,na,nb,out,x,y,rfl,v,l,d⟩;dsimp only;have w1:j+2<=j+1+(if i=0 then 0 else 1)+1:=Nat.succ_le_succ (cw _ _);have w2:j+1+(if i+1=0 then 0 else 1)<=j+1+(if i=0 then 0 else 1)+1:=by rw[if_neg (Nat.succ_ne_zero i)];exact w1
   have X:=z l v.ha;have lb:=z (N d) v.hb;refine gA (l7 lb (gA (l7 X (gA (c.lt (gb _ (o9 lb)) (ga _ (o9 X)) a' ?_)))));refine yi6 (λK=>gA (l7 X ?_)) λK=>gA (l7 lb ?_)
   .have B:=v.pushA l (bJ K);exact V7 (λC=>gB ⟨rfl,.inl ⟨_,rfl,fin1 P B C⟩⟩) λC=>L9 (λY=>gB ⟨rfl,.inr ⟨_,_,_,_,_,rfl,B.weak w1,Nat.pos_of_ne_zero C,d⟩⟩) λY=>gB ⟨rfl,_,_,_,_,_,rfl,B.weak w2,Nat.pos_of_ne_zero C,d⟩
   .have B:=(v.swap.pushA (N d) (cf.mp K)).swap;exact V7 (λC=>gB ⟨rfl,.inl ⟨_,rfl,fin2 P B C⟩⟩) λC=>L9 (λY=>gB ⟨rfl,.inr ⟨_,_,_,_,_,rfl,B.weak w1,l,H (F d) C⟩⟩) λY=>gB ⟨rfl,_,_,_,_,_,rfl,B.weak w2,l,H (F d) C⟩
  .rintro q t ⟨rfl,na,nb,out,x,y,rfl,v,l,d⟩;rw[if_neg (by lia)]at v;exact⟨rfl,.inr ⟨_,_,_,_,_,rfl,v,l,d⟩⟩
  rintro q t ⟨rfl,(⟨r,e,hq⟩|⟨na,nb,out,x,y,rfl,v,l,d⟩)⟩
  .obtain⟨q1,q2⟩:=q
   cases e
   exact gB ⟨_,rfl,hq⟩
  refine gA (za0 ?_);refine gA (wpS_mono (Q:=λq t=>Sg st t/\((∃r,q.1=some r/\Q r t)∨∃na nb out m x y,q=(none,na,nb,out,m,x,y)/\HiI R tot a b (j+2) out na nb/\0<na/\1<nb))
   (gC (I:=λi q t=>Sg st t/\∃na nb out m x y,q=(none,na,nb,out,m,x,y)/\HiI R tot a b (j+2) out na nb/\0<na/\1<nb) ?_ ?_ ⟨P,na,nb,out,_,_,_,rfl,v,l,d⟩) ?_)
  .rintro i q t _ hi ⟨u,na,nb,out,m,x,y,rfl,v,l,d⟩;dsimp -zeta only;extract_lets -underBinder +onlyGivenNames s1 o1 s2 i1 s3 b1 s4 m1 s5 ac bc jp;refine xi5 (f:=jp ()) (x:=m-1) (y:=m) λm2=>?_;dsimp -zeta only[jp,s1,o1,s2,i1,s3,b1,s4,m1,s5,ac,bc];clear jp ac bc s5 m1 s4 b1 s3 i1 s2 o1 s1;have w:∀g:Nat,Sg st (SortSt.mk' (kindOf t) (arrOf t) (pendingOf t) g (failedOf t)):=λg=>⟨u.k,u.a,u.p,u.f⟩;have aj:=u.k.trans hk;have lb:=z (N d) v.hb;refine gA (wpS_modify (gA (l7 lb (gA (wd1 c aj ga (gb _ (o9 lb)) ua l v.ha λk ai al K=>?_)))));dsimp -zeta only;extract_lets -underBinder +onlyGivenNames k0 ac jp;refine yd1 (f:=jp ()) (λi1 o1=>HiI R tot a b (j+2) o1 i1 nb/\0<i1/\R (a.getD (i1-1) dk)<=R (b.getD (nb-1) dk)) ?_ λJ=>?_
   .rintro ab bi ⟨L,ah,am⟩;dsimp -zeta only[jp];clear jp;have X:=z ah L.ha;have Z:=(L.swap.pushA (N d) am).swap;refine gA (l7 lb ?_);refine V7 (λY=>gB ⟨w _,.inl ⟨_,rfl,fin2 (w _) Z Y⟩⟩) λY=>?_;refine gA (l7 X (gA (wd0 c aj gb (ga _ (o9 X)) ub (F d) Z.hb λk1 ak an U=>?_)));dsimp -zeta only;extract_lets -underBinder +onlyGivenNames k0 bc jp;refine yd1 (f:=jp ()) (λi3 o3=>HiI R tot a b (j+2) o3 ab i3/\1<i3/\R (b.getD (i3-1) dk)<=R (a.getD (ab-1) dk)) ?_ λJ=>?_
    .rintro bn bj ⟨O,V,az⟩;dsimp -zeta only[jp];clear jp;have ap:=O.pushA ah az;refine gA (l7 X ?_);refine V7 (λe5=>gB ⟨w _,.inl ⟨_,rfl,fin1 (w _) ap e5⟩⟩) λe5=>?_;have aq:=ap.weak (bU _);exact yq4 (gB ⟨w _,.inr ⟨_,_,_,_,_,_,rfl,aq,Nat.pos_of_ne_zero e5,V⟩⟩) (gB ⟨w _,_,_,_,_,_,_,rfl,aq,Nat.pos_of_ne_zero e5,V⟩)
    .clear_value jp;have W:=Z.weak (bU _);have D:0<k1:=Nat.pos_of_ne_zero λe=>absurd (hf _ (o9 X)) (cf.mpr (U 0 (eO e) (F d)));have hr:R (b.getD (k1-1) dk)<=R (a.getD (ab-1) dk):=bJ (an _ (Nat.sub_lt D Nat.zero_lt_one));refine L9 (λe=>?_) λe=>?_
     .have O:=(W.swap.extA ak U).swap;exact V7 (λe4=>gB ⟨w _,.inl ⟨_,rfl,fin2 (w _) O e4⟩⟩) λe4=>V7 (λe5=>absurd e5 (dv D)) λ_=>J _ _ ⟨O,H D e4,hr⟩
     .obtain rfl:nb-1=k1:=dQ (Nat.sub_eq_zero_iff_le.mp (Nat.eq_zero_of_not_pos e)) ak;exact J _ _ ⟨W,H D Y,hr⟩
   .clear_value jp;refine L9 (λe=>?_) λe=>?_
    .have L:=v.extA ai λi h1 h2=>bJ (K i h1 h2);exact V7 (λC=>gB ⟨w _,.inl ⟨_,rfl,fin1 (w _) L C⟩⟩) λC=>J _ _ ⟨L,Nat.pos_of_ne_zero C,al _ (Nat.sub_lt (Nat.pos_of_ne_zero C) Nat.zero_lt_one)⟩
    .obtain rfl:na=k:=dQ (Nat.sub_eq_zero_iff_le.mp (Nat.eq_zero_of_not_pos e)) ai;exact J _ _ ⟨v,l,al _ (Nat.sub_lt l Nat.zero_lt_one)⟩
  .rintro q t ⟨u,na,nb,out,m,x,y,rfl,v,l,d⟩;exact⟨u,.inr ⟨_,_,_,_,_,_,rfl,v,l,d⟩⟩
  .rintro q t ⟨u,(⟨r,e,hq⟩|⟨na,nb,out,m,x,y,rfl,v,l,d⟩)⟩
   .obtain⟨q1,q2⟩:=q
    cases e
    exact gB ⟨_,rfl,hq⟩
   .exact gA (wpS_modify (gB ⟨_,_,_,_,rfl,⟨u.k,u.a,u.p,u.f⟩,v,l,d⟩))
 .rintro q o ⟨na,nb,out,mg,rfl,P,v,l,d⟩;have:=v.hn;have:=v.sz;lia
 .rintro q o ⟨r,e,hq⟩;obtain⟨q1,q2⟩:=q
  cases e
  exact gB hq
end
end SortG
namespace SortG
open PySem PyProof.Rows
section
variable {M:Model}{A:gq}{E:Value->fZ->Prop}{s:fZ}{κ:SortKind}{G:Keyed->Prop}{R:Keyed->Int}
structure Seg (xs ys:Array Keyed) (lo hi:Nat):Prop where
 size:ys.size=xs.size
 perm:ys.toList.Perm xs.toList
 out:∀p,p<lo∨hi<=p->ys[p]?=xs[p]?
theorem Seg.refl (xs:Array Keyed)(lo hi:Nat):Seg xs xs lo hi:=⟨rfl,.refl _,λ_ _=>rfl⟩
theorem Seg.trans {lo hi:Nat}(h:Seg xs ys lo hi)(h':Seg ys zs lo hi):Seg xs zs lo hi:=⟨h'.size.trans h.size,h'.perm.trans h.perm,λp hp=>(h'.out p hp).trans (h.out p hp)⟩
theorem Seg.mono {lo hi lo' hi':Nat}(h:Seg xs ys lo hi)(h1:lo'<=lo)(h2:hi<=hi'):Seg xs ys lo' hi':=⟨h.size,h.perm,λp hp=>h.out p (by lia)⟩
abbrev Ky (R:Keyed->Int) (xs:Array Keyed) (i:Nat):Int:=R (xs.getD i dk)
theorem zf4 (h:ys[i]?=xs[j]?):Ky R ys i=Ky R xs j:=by
 have e:∀(zs:Array Keyed) (k:Nat),zs.getD k dk=zs[k]?.getD dk:=λzs k=>by simp
 unfold Ky;rw[e,e,h]
theorem Seg.ky {lo hi p:Nat}(h:Seg xs ys lo hi)(hp:p<lo∨hi<=p):Ky R ys p=Ky R xs p:=zf4 (h.out p hp)
theorem ys9 {xs:Array Keyed}(b:j<=xs.size)(a:i<=j):Seg xs (mirror xs i j ((j-i) / 2)) i j:=by
 refine⟨mirror_size _ _ _ _,(mirror_perm _ _ _ _).toList,λp c=>?_⟩;rw[getElem?_mirror b _ (by lia),if_neg (by lia)]
theorem zi7 {xs:Array Keyed}(a:j<=xs.size)(h1:i<=p)(h2:p<j):Ky R (mirror xs i j ((j-i) / 2)) p=Ky R xs (i+j-1-p):=by
 refine zf4 ?_;rw[getElem?_mirror a _ (by lia)];split
 .rfl
 .congr 1;lia
def UpS (R:Keyed->Int)(xs:Array Keyed)(lo n:Nat):Prop:=∀i j,lo<=i->i<=j->j<lo+n->Ky R xs i<=Ky R xs j
def DnS (R:Keyed->Int)(xs:Array Keyed)(lo n:Nat):Prop:=∀i j,lo<=i->i<=j->j<lo+n->Ky R xs j<=Ky R xs i
theorem UpS.succ {lo n:Nat}(h:UpS R xs lo n)(h1:n=0∨Ky R xs (lo+n-1)<=Ky R xs (lo+n)):UpS R xs lo (n+1):=λi j hi hij hj=>by
 by_cases e:j=lo+n
 .by_cases e2:i=j
  .rw[e2];exact dq _
  .rw[e]
   rcases h1 with h1|h1
   .lia
   .exact cm (h i (lo+n-1) hi (by lia) (by lia)) h1
 .exact h i j hi hij (by lia)
theorem DnS.succ {lo n:Nat}(h:DnS R xs lo n)(h1:n=0∨Ky R xs (lo+n)<=Ky R xs (lo+n-1)):DnS R xs lo (n+1):=λi j hi hij hj=>by
 by_cases e:j=lo+n
 .by_cases e2:i=j
  .rw[e2];exact dq _
  .rw[e]
   rcases h1 with h1|h1
   .lia
   .exact cm h1 (h i (lo+n-1) hi (by lia) (by lia))
 .exact h i j hi hij (by lia)
abbrev Sx (κ:SortKind) (xs:Array Keyed) (pd:Array (Nat×Nat×Nat)) (g:Nat):SortSt:=SortSt.mk' κ xs pd g none
variable {xs:Array Keyed}{pd:Array (Nat×Nat×Nat)}{g:Nat}
theorem zf6 (c:Cmp M A E s κ G R){Q:Option Bool->SortSt->Prop}(hG:∀x∈xs.toList,G x)(hi:i<xs.size)(a:j<xs.size)(h:Q (some (decide (Ky R xs i<Ky R xs j))) (Sx κ xs pd g)):wpS M A E s (ltAt' i j) Q (Sx κ xs pd g):=by
 rw[ltAt'_eq];refine gA (wpS_get (gA (l7 hi (gA (l7 a ?_)))));exact c.lt (hG _ (o9 hi)) (hG _ (o9 a)) rfl h
theorem yf3 {Q:Unit->SortSt->Prop}(h:Q () (Sx κ (mirror xs i j ((j-i) / 2)) pd g)):wpS M A E s (reverseSlice' i j) Q (Sx κ xs pd g):=by
 rw[reverseSlice'_eq];exact wpS_modify h
theorem xs2 {Q:Unit->SortSt->Prop}(h:Q () (Sx κ (bubble xs k (k-l)) pd g)):wpS M A E s (moveDown' k l) Q (Sx κ xs pd g):=by
 rw[moveDown'_eq];exact wpS_modify h
theorem xv5 {α β:Type}{f:β->StateT SortSt Sem α}{x:StateT SortSt Sem α}{Q:α->SortSt->Prop}{st0:SortSt}(P:SortSt->Prop)(h:∀b st,P st->wpS M A E s (f b) Q st)(k:(∀b st,P st->wpS M A E s (f b) Q st)->wpS M A E s x Q st0):wpS M A E s x Q st0:=k h
theorem Seg.mir {lo hi i j:Nat}(hs:Seg xs zs lo hi)(hz:hi<=xs.size)(h1:lo<=i)(h2:i<=j)(h3:j<=hi):Seg xs (mirror zs i j ((j-i) / 2)) lo hi:=hs.trans ((ys9 (by rw[hs.size];exact aD h3 hz) h2).mono h1 h3)
theorem yd2 {ys:Array Keyed}(c:j<=ys.size)(b:∀p,i<=p->p<j->Ky R ys p=Ky R ys (j-1))(p:Nat):Ky R (mirror ys i j ((j-i) / 2)) p=Ky R ys p:=by
 by_cases a:i<=p/\p<j
 .rw[zi7 c a.1 a.2,b _ (by lia) (by lia),b p a.1 a.2]
 .refine zf4 ?_;rw[getElem?_mirror_all c,if_neg a]
theorem xf8 (c:Cmp M A E s κ G R){lo a h:Nat}{ys:Array Keyed}(t:∀x∈ys.toList,G x)(hz:lo+a<=ys.size)(v:1<=h)(j:h<=a)(d:UpS R ys lo h){Q:Option (Option Nat)×Nat->SortSt->Prop}{f:Nat->Option (Option Nat)×Nat->StateT SortSt Sem (ForInStep (Option (Option Nat)×Nat))}
  (u:∀x n,∃k,f x (none,n)=ltAt' (lo+n) (lo+n-1) >>= k/\k (some true)=pure (.done (none,n))/\k (some false)=pure (.yield (none,n+1)))
  (o:∀n,h<=n->n<=a->UpS R ys lo n->(n<a->Ky R ys (lo+n)<Ky R ys (lo+n-1))->Q (none,n) (Sx κ ys pd g)):wpS M A E s (forIn [h:a] (none,h) f) Q (Sx κ ys pd g):=by
 refine gC (I:=λi q st=>q=(none,i)/\st=Sx κ ys pd g/\UpS R ys lo i) ?_ ?_ ⟨rfl,rfl,d⟩
 .rintro i q st l m ⟨rfl,rfl,d⟩;obtain⟨k,e,p,r⟩:=u i i;rw[e];refine gA (zf6 c t (by lia) (by lia) ?_);by_cases b:Ky R ys (lo+i)<Ky R ys (lo+i-1)
  .rw[decide_eq_true b,p];exact gB (o i l (bp m) d λ_=>b)
  .rw[decide_eq_false b,r];exact gB ⟨rfl,rfl,d.succ (.inr (cf.mp b))⟩
 .rintro q st ⟨rfl,rfl,d⟩;rw[fK j]at d ⊢;exact o a j (af _) d λz=>absurd z (aO _)
theorem xg2 (c:Cmp M A E s κ G R){lo a:Nat}{Q:Option Nat->SortSt->Prop}(hG:∀x∈xs.toList,G x)(h1:1<=a)(hz:lo+a<=xs.size)
  (h:∀m ys,1<=m->m<=a->Seg xs ys lo (lo+a)->UpS R ys lo m->Q (some m) (Sx κ ys pd g)):wpS M A E s (countRun' lo a) Q (Sx κ xs pd g):=by
 have T:∀{ys:Array Keyed},Seg xs ys lo (lo+a)->∀x∈ys.toList,G x:=λb x hx=>hG x (b.perm.mem_iff.mp hx);have H:∀{ys:Array Keyed},Seg xs ys lo (lo+a)->lo+a<=ys.size:=λb=>by rw[b.size];exact hz
 have L:∀{n:Nat} {ys:Array Keyed},Seg xs ys lo (lo+a)->n<a->lo+n<ys.size:=λb C=>aM (Nat.add_lt_add_left C _) (H b);have S:∀{n:Nat} {ys:Array Keyed},Seg xs ys lo (lo+a)->n<a->lo+n-1<ys.size:=λb C=>bC (Nat.sub_le _ _) (L b C);have N:∀{n:Nat} {ys:Array Keyed},Seg xs ys lo (lo+a)->n<=a->lo+n<=ys.size:=λb C=>aD (Nat.add_le_add_left C _) (H b);have w:∀{n:Nat},n<=a->lo+n<=lo+a:=λC=>Nat.add_le_add_left C _;refine gA (xf8 c hG hz (af _) h1 (λi j hi r B=>by rw[show i=j by lia];exact dq _) (λx n=>⟨_,rfl,rfl,rfl⟩) λn v k O l=>?_);refine V7 (λe1=>gB (h n xs v k (Seg.refl _ _ _) O)) λe1=>?_;have D:=cT k e1;have l:=l D;have s0:=Seg.refl xs lo (lo+a);extract_lets -underBinder +onlyGivenNames jp;refine xv5 (f:=jp) (λst=>∃ys,st=Sx κ ys pd g/\Seg xs ys lo (lo+a)/\DnS R ys lo (n+1)) ?_ λJ=>?_
 .rintro _ _ ⟨ys,rfl,b,t⟩;dsimp -zeta only[jp];clear jp;refine gA (za0 ?_);refine gA (wpS_mono (Q:=λq st=>∃n d zs,q=(none,n,d)/\st=Sx κ zs pd g/\Seg xs zs lo (lo+a)/\1<=n/\n<=a/\d<n/\DnS R zs lo n/\∀p,lo+n-(d+1)<=p->p<lo+n->Ky R zs p=Ky R zs (lo+n-1)) (gC (I:=λi q st=>∃d zs,q=(none,i,d)/\st=Sx κ zs pd g/\Seg xs zs lo (lo+a)/\d<i/\DnS R zs lo i/\∀p,lo+i-(d+1)<=p->p<lo+i->Ky R zs p=Ky R zs (lo+i-1)) ?_ ?_ ⟨0,ys,rfl,rfl,b,eM _,t,λp h1 h2=>by rw[dQ (Nat.le_sub_one_of_lt h2) h1]⟩) ?_)
  .rintro i q st V o ⟨d,zs,rfl,rfl,b,hne,t,y⟩;dsimp only;have z1:∀{zs:Array Keyed} (p:Nat),lo+(i+1)-(0+1)<=p->p<lo+(i+1)->Ky R zs p=Ky R zs (lo+(i+1)-1):=λp h1 h2=>by rw[dQ (Nat.le_sub_one_of_lt h2) h1]
   refine gA (zf6 c (T b) (L b o) (S b o) (yi6 (λl=>L9 (λe=>?_) λe=>gB ⟨0,zs,rfl,rfl,b,eM _,t.succ (.inr (bJ l)),z1⟩) λl=>gA (zf6 c (T b) (S b o) (L b o) (yi6 (λz=>gB ⟨i,d,zs,rfl,rfl,b,aD (eM n) V,bp o,hne,t,y⟩) λz=>?_))))
   .have u:=yd2 (N b (bp o)) y;exact gA (yf3 (gB ⟨0,_,rfl,rfl,b.mir hz (by lia) (Nat.sub_le _ _) (w (bp o)),eM _,DnS.succ (λi' j' h1 h2 U=>by rw[u,u];exact t i' j' h1 h2 U) (.inr (by rw[u,u];exact bJ l)),z1⟩))
   .refine gB ⟨d+1,zs,rfl,rfl,b,Nat.succ_lt_succ hne,t.succ (.inr (cf.mp z)),λp h1 h2=>?_⟩;have ee:Ky R zs (lo+i-1)=Ky R zs (lo+i):=eY (cf.mp l) (cf.mp z);show _=Ky R zs (lo+i);by_cases e:p=lo+i
    .rw[e]
    .rw[y p (by lia) (by lia),ee]
  .rintro q st ⟨d,zs,rfl,rfl,b,hne,t,y⟩;rw[fK D]at hne t y ⊢;exact⟨a,d,zs,rfl,rfl,b,h1,af _,hne,t,y⟩
  .rintro q st ⟨n,d,zs,rfl,rfl,b,v,k,hne,t,y⟩;extract_lets -underBinder +onlyGivenNames r1 s1 n1 q1;dsimp -zeta only[r1,s1,n1,q1];extract_lets -underBinder +onlyGivenNames jp;refine xv5 (f:=jp) (λst=>∃P,st=Sx κ P pd g/\Seg xs P lo (lo+a)/\DnS R P lo n) ?_ λJ=>?_
   .rintro _ _ ⟨P,rfl,b,t⟩;dsimp -zeta only[jp];clear jp;have hv:=N b k;have F:=b.mir hz (af _) (cw _ _) (w k);exact gA (yf3 (gA (xf8 c (T F) (H F) v k (λi j hi r B=>by rw[zi7 hv hi (bC r B),zi7 hv (aD hi r) B];exact t _ _ (by lia) (by lia) (by lia)) (λx n=>⟨_,rfl,rfl,rfl⟩) λm W X Z _=>gB (h m _ (aD v W) X F Z))))
   .clear_value jp;refine L9 (λe=>?_) λe=>J _ _ ⟨zs,rfl,b,t⟩;have u:=yd2 (N b k) y;exact gA (yf3 (J _ _ ⟨_,rfl,b.mir hz (by lia) (Nat.sub_le _ _) (w k),λi' j' h1 h2 U=>by rw[u,u];exact t i' j' h1 h2 U⟩))
 .clear_value jp;refine L9 (λe2=>?_) λe2=>J _ _ ⟨xs,rfl,s0,DnS.succ (λi j hi r B=>by rw[show i=j by lia];exact dq _) (.inr (bJ l))⟩;refine gA (zf6 c hG (L s0 h1) (S s0 D) (yi6 (λe3=>gB (h n xs v k s0 O)) λe3=>gA (yf3 ?_)));have all:∀p,lo<=p->p<lo+n->Ky R xs p=Ky R xs (lo+n-1):=λp K Y=>eY (O p (lo+n-1) K (by lia) (by lia)) (cm (cf.mp e3) (O lo p (af _) K Y));have u:=yd2 (N s0 k) all;exact J _ _ ⟨_,rfl,s0.mir hz (af _) (cw _ _) (w k),DnS.succ (λi j hi r B=>by rw[u,u,all i hi (bC r B),all j (aD hi r) B];exact dq _) (.inr (by rw[u,u];exact bJ l))⟩
theorem xw8 (c:Cmp M A E s κ G R){lo n ok:Nat}{Q:Bool->SortSt->Prop}(hG:∀x∈xs.toList,G x)(h1:1<=ok)(h2:ok<=n)(hz:lo+n<=xs.size)(b:UpS R xs lo ok)
  (h:∀ys,Seg xs ys lo (lo+n)->UpS R ys lo n->Q true (Sx κ ys pd g)):wpS M A E s (binarySort' lo n ok) Q (Sx κ xs pd g):=by
 refine gA (wpS_mono (Q:=λq st=>q=(none,())/\∃ys,st=Sx κ ys pd g/\Seg xs ys lo (lo+n)/\UpS R ys lo n) (gC (I:=λk q st=>q=(none,())/\∃ys,st=Sx κ ys pd g/\Seg xs ys lo (lo+n)/\UpS R ys lo k) ?_ ?_ ⟨rfl,xs,rfl,Seg.refl _ _ _,by rw[show max ok 1=ok by lia];exact b⟩) ?_)
 .rintro k q st N O ⟨rfl,ys,rfl,d,b⟩;have S:lo+n<=ys.size:=by rw[d.size];exact hz
  have J:∀x∈ys.toList,G x:=λx P=>hG x (d.perm.mem_iff.mp P);dsimp only;refine gA (wpS_mono (Q:=λq st=>∃l r,q=(none,l,r)/\st=Sx κ ys pd g/\l<=k/\(∀i,i<l->Ky R ys (lo+i)<=Ky R ys (lo+k))/\∀i,l<=i->i<k->Ky R ys (lo+k)<Ky R ys (lo+i)) (gC (I:=λj q st=>∃l r,q=(none,l,r)/\st=Sx κ ys pd g/\l<=r/\r<=k/\r-l<=k-j/\(∀i,i<l->Ky R ys (lo+i)<=Ky R ys (lo+k))/\∀i,r<=i->i<k->Ky R ys (lo+k)<Ky R ys (lo+i)) ?_ ?_ ⟨0,k,rfl,rfl,by lia,by lia,by lia,λi hi=>absurd hi (bR _),λi hi a=>absurd a (by lia)⟩) ?_)
  .rintro j q st _ L ⟨l,r,rfl,rfl,y,v,w,o,t⟩;dsimp only;by_cases e:l ≥ r
   .rw[if_pos e];exact gB ⟨l,r,rfl,rfl,by lia,o,λi hi a=>t i (by lia) a⟩
   .rw[if_neg e];refine gA (zf6 c J (by lia) (by lia) ?_);dsimp only;by_cases f:Ky R ys (lo+k)<Ky R ys (lo+(l+r) / 2)
    .rw[decide_eq_true f,if_pos rfl];exact gB ⟨l,_,rfl,rfl,by lia,by lia,by lia,o,λi hi a=>by
      have:=b (lo+(l+r) / 2) (lo+i) (by lia) (by lia) (by lia)
      lia⟩
    .rw[decide_eq_false f,if_neg aA];exact gB ⟨_,r,rfl,rfl,by lia,by lia,by lia,λi hi=>by
      have:=b (lo+i) (lo+(l+r) / 2) (by lia) (by lia) (by lia)
      lia,t⟩
  .rintro q st ⟨l,r,rfl,rfl,y,v,w,o,t⟩;exact⟨l,r,rfl,rfl,by lia,o,λi hi a=>t i (by lia) a⟩
  .rintro q st ⟨l,r,rfl,rfl,y,v,w⟩;dsimp only;refine gA (xs2 (gB ⟨rfl,_,rfl,d.trans ⟨bubble_size _ _ _,(bubble_perm _ _ _).toList,λp u=>?_⟩,?_⟩))
   .rw[getElem?_bubble (by lia) _ (by lia),if_neg (by lia),if_neg (by lia)]
   .have D:∀p,Ky R (bubble ys (lo+k) (lo+k-(lo+l))) p=if p=lo+l then Ky R ys (lo+k) else if lo+l<p/\p<=lo+k then Ky R ys (p-1) else Ky R ys p:=λp=>by
     have e:=getElem?_bubble (xs:=ys) (src:=lo+k) (by lia) (lo+k-(lo+l)) (by lia) p;rw[show lo+k-(lo+k-(lo+l))=lo+l by lia]at e;split
     .rename_i u;rw[if_pos u]at e;exact zf4 e
     .rename_i u;rw[if_neg u]at e;split
      .rename_i hp';rw[if_pos hp']at e;exact zf4 e
      .rename_i hp';rw[if_neg hp']at e;exact zf4 e
    intro i j hi K L;rw[D,D];have F:∀q,lo<=q->q<lo+l->Ky R ys q<=Ky R ys (lo+k):=λq h1 h2=>by
     have:=v (q-lo) (by lia);rwa [show lo+(q-lo)=q by lia]at this
    have H:∀q,lo+l<=q->q<lo+k->Ky R ys (lo+k)<Ky R ys q:=λq h1 h2=>by
     have:=w (q-lo) (by lia) (by lia);rwa [show lo+(q-lo)=q by lia]at this
    by_cases z:i=lo+l
    .rw[if_pos z];by_cases m:j=lo+l
     .rw[if_pos m];exact dq _
     .rw[if_neg m,if_pos (by lia)];exact bJ (H _ (by lia) (by lia))
    .rw[if_neg z];by_cases B:lo+l<i/\i<=lo+k
     .rw[if_pos B,if_neg (by lia),if_pos (by lia)];exact b _ _ (by lia) (by lia) (by lia)
     .rw[if_neg B];by_cases m:j=lo+l
      .rw[if_pos m];exact F _ hi (by lia)
      .rw[if_neg m];by_cases C:lo+l<j/\j<=lo+k
       .rw[if_pos C];exact b _ _ (by lia) (by lia) (by lia)
       .rw[if_neg C];exact b _ _ (by lia) (by lia) (by lia)
 .rintro q st ⟨rfl,ys,rfl,d,b⟩;rw[show max (max ok 1) n=n by lia]at b;exact⟨rfl,ys,rfl,d,b⟩
 .rintro q st ⟨rfl,ys,rfl,d,b⟩;exact gB (h ys d b)
end
end SortG
namespace SortG
open PySem PyProof.Rows
section
variable {M:Model}{A:gq}{E:Value->fZ->Prop}{s:fZ}{κ:SortKind}{G:Keyed->Prop}{R:Keyed->Int}{xs:Array Keyed}{pd:Array (Nat×Nat×Nat)}{g:Nat}
theorem wb1 {st a:SortSt}{Q:PUnit->SortSt->Prop}(h:Q ⟨⟩ a):wpS M A E s (set a:StateT SortSt Sem PUnit) Q st:=by
 unfold wpS;rw[StateT.run_set];exact gc ⟨rfl,h⟩
theorem yl4 :∀(m:List Keyed) (n:Nat) (xs:Array Keyed),o+n+m.length<=xs.size->((m.zipIdx n).foldl (λa (q:Keyed×Nat)=>a.setIfInBounds (o+q.2) q.1) xs).toList=xs.toList.take (o+n)++m++xs.toList.drop (o+n+m.length)
 | [],n,xs,h=>by simp
 | p::m,n,xs,h=>by
  rw[List.zipIdx_cons,dO,yl4 m (n+1) _ (by simp at h ⊢;lia)]
  rw[av]at h
  have e:(xs.setIfInBounds (o+n) p).toList=xs.toList.take (o+n)++p::xs.toList.drop (o+n+1):=by
   rw[Array.toList_setIfInBounds,List.set_eq_take_append_cons_drop,if_pos (by simp;lia)]
  have c:(xs.toList.take (o+n)).length=o+n:=by simp;lia
  have b:xs.toList.drop (o+n+(m.length+1))=(xs.toList.drop (o+n+1)).drop m.length:=by rw[fQ];congr 1;lia
  rw[av,b]
  dsimp only
  rw[e]
  generalize xs.toList.take (o+n)=T at c ⊢
  generalize xs.toList.drop (o+n+1)=D
  rw[show o+(n+1)+m.length=T.length+(m.length+1) by lia,show o+(n+1)=T.length+1 by lia,List.take_length_add_append,List.drop_length_add_append,List.drop_succ_cons]
  simp
theorem xp6 {lo hi:Nat}(hz:hi<=xs.size)(u:∀i j,lo<=i->i<=j->j<hi->Ky R xs i<=Ky R xs j):SL R (xs.extract lo hi).toList:=by
 unfold SL;rw[bg];intro i j b a c;have d:j<hi-lo:=by rw[aP,Array.size_extract]at a;lia
 have:=u (lo+i) (lo+j) (by lia) (by lia) (by lia);unfold Ky at this;have e:∀k (h:k<(xs.extract lo hi).toList.length),(xs.extract lo hi).toList[k]=xs.getD (lo+k) dk:=λk h=>by
  have f:k<hi-lo:=by rw[aP,Array.size_extract]at h;lia
  rw[Array.getElem_toList,Array.getElem_extract];simp[Array.getD,show lo+k<xs.size by lia]
 rw[e,e];exact this
theorem A5 {lo hi:Nat}(hz:hi<=xs.size)(h:x∈(xs.extract lo hi).toList):∃j,lo<=j/\j<hi/\x=xs.getD j dk:=by
 rw[Array.toList_extract]at h;simp only[List.extract]at h;obtain⟨j,h1,h2,rfl⟩:=zh7 h;exact⟨lo+j,by lia,by lia,rfl⟩
theorem yv6 {lo hi k:Nat}(hz:hi<=xs.size)(a:lo+k<hi):(xs.extract lo hi).getD k dk=xs.getD (lo+k) dk:=by
 have h:k<(xs.extract lo hi).size:=by rw[Array.size_extract];lia
 rw[Array.getD,dif_pos h,Array.getD,dif_pos (by lia)];exact Array.getElem_extract ..
theorem yr3 (c:Cmp M A E s κ G R){Q:Bool->SortSt->Prop}(hG:∀x∈xs.toList,G x)(hi:pd[i]?=some (b,na,pw))(ae:pd[i+1]?=some (X,nb,W))(e:X=b+na)(n0:0<na)(m0:0<nb)(hz:X+nb<=xs.size)(N:UpS R xs b na)(D:UpS R xs X nb)
  (h:∀ys O,Seg xs ys b (X+nb)->UpS R ys b (na+nb)->Q true (Sx κ ys ((pd.setIfInBounds i (b,na+nb,pw)).eraseIdxIfInBounds (i+1)) O)):wpS M A E s (mergeAt' i) Q (Sx κ xs pd g):=by
 subst e;refine gA (wpS_get ?_);dsimp only;rw[show(pendingOf (Sx κ xs pd g))[i]?=some (b,na,pw) from hi,show(pendingOf (Sx κ xs pd g))[i+1]?=some (b+na,nb,W) from ae];dsimp only;refine gA (wb1 (gA (l7 (by lia) (gA (P2 c rfl (λi hi=>hG _ (o9 (by lia))) (hG _ (o9 (by lia))) (by lia) (by lia) (λi j f Z=>N _ _ (by lia) (by lia) (by lia)) λk U=>?_)))));obtain⟨bb,F⟩:=U.no;dsimp only;generalize (pd.setIfInBounds i (b,na+nb,pw)).eraseIdxIfInBounds (i+1)=K at h ⊢;by_cases e1:na-k=0
 .rw[if_pos (by simpa using e1)];refine gB (h xs g (Seg.refl _ _ _) λi j hi f Z=>?_);by_cases h1:j<b+na
  .exact N i j hi f h1
  .by_cases h2:b+na<=i
   .exact D i j h2 f (by lia)
   .have n:=(F (i-b) (by lia)).mpr (by lia);rw[show b+(i-b)=i by lia]at n;exact cm n (D _ j (af _) (by lia) (by lia))
 rw[if_neg (by simpa using e1)];refine gA (l7 (by lia) (gA (P2 c rfl (λi hi=>hG _ (o9 (by lia))) (hG _ (o9 (by lia))) (by lia) (by lia) (λi j f Z=>D _ _ (by lia) (by lia) (by lia)) λd J=>?_)));obtain⟨bc,B⟩:=J.yes;rw[show b+k+(na-k)-1=b+na-1 by lia]at B;dsimp only;by_cases e2:d=0
 .rw[if_pos (by simpa using e2)];refine gB (h xs g (Seg.refl _ _ _) λi j hi f Z=>?_);by_cases h1:j<b+na
  .exact N i j hi f h1
  .by_cases h2:b+na<=i
   .exact D i j h2 f (by lia)
   .have n:¬_:=λz=>absurd ((B 0 m0).mp z) (by lia);have a2:=N i (b+na-1) hi (by lia) (by lia);exact cm a2 (cm (cf.mp n) (D _ j (by lia) (by lia) (by lia)))
 rw[if_neg (by simpa using e2)];have u:b+na<=xs.size:=by lia
 have v:b+na+d<=xs.size:=by lia
 have gx:∀x∈(xs.extract (b+k) (b+na)).toList,G x:=λx C=>by
  obtain⟨j,h1,h2,rfl⟩:=A5 u C;exact hG _ (o9 (by lia))
 have gy:∀x∈(xs.extract (b+na) (b+na+d)).toList,G x:=λx C=>by
  obtain⟨j,h1,h2,rfl⟩:=A5 v C;exact hG _ (o9 (by lia))
 have ux:SL R (xs.extract (b+k) (b+na)).toList:=xp6 u λi j h1 h2 P=>N i j (by lia) h2 P;have uy:SL R (xs.extract (b+na) (b+na+d)).toList:=xp6 v λi j h1 h2 P=>D i j h1 h2 (by lia);have sx:(xs.extract (b+k) (b+na)).size=na-k:=by rw[Array.size_extract];lia
 have sy:(xs.extract (b+na) (b+na+d)).size=d:=by rw[Array.size_extract];lia
 have hf:∀x∈(xs.extract (b+k) (b+na)).toList,R ((xs.extract (b+na) (b+na+d)).getD 0 dk)<R x:=λx C=>by
  obtain⟨j,h1,h2,rfl⟩:=A5 u C;rw[yv6 v (by lia)];have n:¬_:=λz=>absurd ((F (j-b) (by lia)).mp z) (by lia);rw[show b+(j-b)=j by lia]at n;exact Int.not_le.mp n
 have hl:∀x∈(xs.extract (b+na) (b+na+d)).toList,R x<R ((xs.extract (b+k) (b+na)).getD ((xs.extract (b+k) (b+na)).size-1) dk):=λx C=>by
  obtain⟨j,h1,h2,rfl⟩:=A5 v C;rw[sx,yv6 u (by lia),show b+k+(na-k-1)=b+na-1 by lia];have:=(B (j-(b+na)) (by lia)).mpr (by lia);rwa [show b+na+(j-(b+na))=j by lia]at this
 have fin:∀(out:Array Keyed) (m:SortSt),Sg (Sx κ xs K g) m->out.toList.Perm ((xs.extract (b+k) (b+na)).toList++(xs.extract (b+na) (b+na+d)).toList)->SL R out.toList->∃O,m=Sx κ xs K O/\Q true (Sx κ (out.toList.zipIdx.foldl (λa (q:Keyed×Nat)=>a.setIfInBounds (b+k+q.2) q.1) xs) K O):=λout m Y H V=>by
  have l:out.toList.length=na-k+d:=by rw[H.length_eq,ao,aP,aP,sx,sy]
  have T:out.size=na-k+d:=by rw[←aP];exact l
  refine⟨gallopOf m,?_,?_⟩
  .obtain⟨n,a2,a3,a4⟩:=Y
   cases m
   cases n;cases a2;cases a3;cases a4
   rfl
  have r:=yl4 (o:=b+k) out.toList 0 xs (by rw[l];lia);rw[Nat.add_zero,l,show b+k+(na-k+d)=b+na+d by lia]at r;generalize out.toList.zipIdx.foldl (λa (q:Keyed×Nat)=>a.setIfInBounds (b+k+q.2) q.1) xs=ys at r ⊢;have ah:ys.size=xs.size:=by
   have:=congrArg List.length r;simp only[ao,aK,bH,aP,T]at this;lia
  have at_:∀p,ys[p]?=if p<b+k then xs[p]? else if p<b+na+d then out[p-(b+k)]? else xs[p]?:=λp=>by
   rw[←bE,r];have y:(xs.toList.take (b+k)).length=b+k:=by simp;lia
   by_cases p1:p<b+k
   .rw[if_pos p1,ba,aE (by lia),bN p1,bE]
   .rw[if_neg p1];by_cases p2:p<b+na+d
    .rw[if_pos p2,aE (by rw[ao,y,l];lia),aI (by lia),y,bE]
    .rw[if_neg p2,aI (by rw[ao,y,l];lia),eE,ao,y,l,bE];congr 1;lia
  have mem:∀z∈out.toList,∃j,b+k<=j/\j<b+na+d/\z=xs.getD j dk:=λz hz=>by
   rcases aH.mp (H.mem_iff.mp hz) with q|q
   .obtain⟨j,h1,h2,rfl⟩:=A5 u q;exact⟨j,h1,by lia,rfl⟩
   .obtain⟨j,h1,h2,rfl⟩:=A5 v q;exact⟨j,by lia,h2,rfl⟩
  refine h ys _ ⟨ah,?_,λp I=>?_⟩ ?_
  .rw[r];have ex:xs.toList=xs.toList.take (b+k)++((xs.extract (b+k) (b+na)).toList++(xs.extract (b+na) (b+na+d)).toList)++xs.toList.drop (b+na+d):=by
    have L:=zc6 (a:=xs) (b+k) (na-k);have S:=zc6 (a:=xs) (b+na) d;rw[←zq5,show b+k+(na-k)=b+na by lia]at L;rw[←zq5]at S;rw[ba,ba,←S,←L,bM]
   conv=>rhs;rw[ex]
   exact List.Perm.append_right _ (List.Perm.append_left _ H)
  .rw[at_];split
   .rfl
   .rw[if_neg (by lia)]
  .have w:∀i,b<=i->i<b+k->∀j,i<=j->j<b+na+nb->Ky R xs i<=Ky R xs j:=λi h1 h2 j P h4=>by
    by_cases q:j<b+na
    .exact N i j h1 P q
    .have n:=(F (i-b) (by lia)).mpr (by lia);rw[show b+(i-b)=i by lia]at n;exact cm n (D _ j (af _) (by lia) (by lia))
   have t:∀j,b+na+d<=j->j<b+na+nb->∀i,b<=i->i<=j->Ky R xs i<=Ky R xs j:=λj h1 h2 i P h4=>by
    by_cases q:b+na<=i
    .exact D i j q h4 (by lia)
    .have n:¬_:=λz=>absurd ((B (j-(b+na)) (by lia)).mp z) (by lia);rw[show b+na+(j-(b+na))=j by lia]at n;exact cm (N i (b+na-1) P (by lia) (by lia)) (cf.mp n)
   have kl:∀p,p<b+k->Ky R ys p=Ky R xs p:=λp I=>zf4 (by rw[at_,if_pos I]);have kh:∀p,b+na+d<=p->Ky R ys p=Ky R xs p:=λp I=>zf4 (by rw[at_,if_neg (by lia),if_neg (by lia)]);have km:∀p,b+k<=p->p<b+na+d->Ky R ys p=R (out.getD (p-(b+k)) dk)/\out.getD (p-(b+k)) dk∈out.toList:=λp h1 h2=>⟨zf4 (R:=R) (xs:=out) (j:=p-(b+k)) (by rw[at_,if_neg (by lia),if_pos h2]),o9 (by lia)⟩;intro i j hi f Z;by_cases i1:i<b+k
   .rw[kl i i1];by_cases j1:j<b+k
    .rw[kl j j1];exact w i hi i1 j f (by lia)
    .by_cases j2:j<b+na+d
     .obtain⟨L,S⟩:=km j (by lia) j2;obtain⟨z,z1,z2,z3⟩:=mem _ S;rw[L,z3];exact w i hi i1 z (by lia) (by lia)
     .rw[kh j (by lia)];exact w i hi i1 j f (by lia)
   .by_cases i2:i<b+na+d
    .obtain⟨L,S⟩:=km i (by lia) i2;by_cases j2:j<b+na+d
     .obtain⟨q3,q4⟩:=km j (by lia) j2;rw[L,q3];exact V.get (by lia) (by lia)
     .obtain⟨z,z1,z2,z3⟩:=mem _ S;rw[L,z3,kh j (by lia)];exact t j (by lia) (by lia) z (by lia) (by lia)
    .rw[kh i (by lia),kh j (by lia)];exact t j (by lia) (by lia) i hi f
 by_cases e3:na-k<=d
 .rw[if_pos e3];refine gA (yr5 c rfl gx gy ux uy (by lia) (by lia) (λx C=>bJ (hf x C)) hl λout m Y H V=>?_);obtain⟨O,rfl,hq⟩:=fin out m Y H V;exact gA (wpS_modify (gA (wpS_get (gB hq))))
 .rw[if_neg e3];refine gA (yr4 c rfl gx gy ux uy (by lia) (by lia) hf hl λout m Y H V=>?_);obtain⟨O,rfl,hq⟩:=fin out m Y H V;exact gA (wpS_modify (gA (wpS_get (gB hq))))
end
end SortG
namespace SortG
open PySem PyProof.Rows
section
variable {M:Model}{A:gq}{E:Value->fZ->Prop}{s:fZ}{κ:SortKind}{G:Keyed->Prop}{R:Keyed->Int}{xs ys:Array Keyed}{pd:Array (Nat×Nat×Nat)}{g:Nat}
def U7 (R:Keyed->Int)(xs:Array Keyed):List (Nat×Nat×Nat)->Nat->Nat->Prop
 | [],a,b=>a=b
 | (st,n,_)::r,a,b=>st=a/\0<n/\UpS R xs a n/\U7 R xs r (a+n) b
theorem U7.le:∀{l:List (Nat×Nat×Nat)} {a b:Nat},U7 R xs l a b->a+l.length<=b
 | [],a,b,h=>by cases h;exact af _
 | (st,n,_)::r,a,b,h=>by
  have:=U7.le h.2.2.2
  have:=h.2.1
  rw[av]
  lia
theorem B4:∀{l l':List (Nat×Nat×Nat)} {a b:Nat},U7 R xs (l++l') a b↔∃m,U7 R xs l a m/\U7 R xs l' m b
 | [],l',a,b=>⟨λh=>⟨a,rfl,h⟩,λ⟨m,h1,h2⟩=>by cases h1;exact h2⟩
 | (st,n,p)::r,l',a,b=>by
  constructor
  .rintro⟨h1,h2,h3,h4⟩
   obtain⟨m,h5,h6⟩:=B4.mp h4
   exact⟨m,⟨h1,h2,h3,h5⟩,h6⟩
  .rintro⟨m,⟨h1,h2,h3,h5⟩,h6⟩
   exact⟨h1,h2,h3,B4.mpr ⟨m,h5,h6⟩⟩
theorem UpS.seg {lo n l h:Nat}(u:UpS R xs lo n)(hs:Seg xs ys l h)(ho:lo+n<=l∨h<=lo):UpS R ys lo n:=λi j h1 h2 h3=>by
 rw[hs.ky (by lia),hs.ky (by lia)]
 exact u i j h1 h2 h3
theorem U7.seg (hs:Seg xs ys l0 h0):∀{l:List (Nat×Nat×Nat)} {a b:Nat},U7 R xs l a b->(b<=l0∨h0<=a)->U7 R ys l a b
 | [],a,b,h,_=>h
 | (st,n,_)::r,a,b,⟨h1,h2,h3,h4⟩,ho=>by
  have:=h4.le
  exact⟨h1,h2,h3.seg hs (by lia),U7.seg hs h4 (by lia)⟩
theorem zf8 (c:Cmp M A E s κ G R){i lo:Nat}{Q:Bool->SortSt->Prop}(hG:∀x∈xs.toList,G x)(hr:U7 R xs pd.toList 0 lo)(D:lo<=xs.size)(hi:i+1<pd.size)
  (h:∀ys pd' f,Seg xs ys 0 lo->U7 R ys pd'.toList 0 lo->pd'.size+1=pd.size->Q true (Sx κ ys pd' f)):wpS M A E s (mergeAt' i) Q (Sx κ xs pd g):=by
 obtain⟨b,X,Y,k,e,d⟩:∃b X Y k,pd.toList=b++X::Y::k/\b.length=i:=by
  refine⟨pd.toList.take i,pd[i],pd[i+1],pd.toList.drop (i+1+1),?_,by simp;lia⟩;rw[←Array.getElem_toList,←Array.getElem_toList,←bV (by simp;lia),←bV (by simp;lia),bM]
 obtain⟨a,na,l⟩:=X;obtain⟨I,nb,n⟩:=Y;rw[e]at hr;obtain⟨m,p,r,t,u,v,w,y,q⟩:=B4.mp hr;subst r v;have C:=q.le;have B:=p.le;have H:pd[i]?=some (a,na,l):=by rw[←bE,e,←d];simp
 have p2:pd[i+1]?=some (a+na,nb,n):=by rw[←bE,e,←d];simp
 refine yr3 c hG H p2 rfl t w (by lia) u y λys f j F=>?_;have o:((pd.setIfInBounds i (a,na+nb,l)).eraseIdxIfInBounds (i+1)).toList=b++(a,na+nb,l)::k:=by
  rw[Array.toList_eraseIdxIfInBounds,Array.toList_setIfInBounds,e,←d,List.set_append_right _ _ (af _),bQ,List.set_cons_zero,List.eraseIdx_append_of_length_le (by lia),show b.length+1-b.length=1 by lia];rfl
 refine h ys _ f (j.mono (by lia) (by lia)) ?_ ?_
 .rw[o];exact B4.mpr ⟨a,p.seg j (by lia),rfl,by lia,F,by rw[show a+(na+nb)=a+na+nb by lia];exact q.seg j (by lia)⟩
 .have:=congrArg List.length o;have z:=congrArg List.length e;simp only[ao,av,aP]at this z;lia
theorem xn0 (hr:U7 R xs pd.toList 0 n)(h:pd.size<=1):UpS R xs 0 n:=by
 cases e:pd.toList with
 | nil =>
  rw[e]at hr
  cases hr
  exact λi j h1 h2 a=>absurd a (by lia)
 | cons x l =>
  have c:l=[]:=df (by have:=congrArg List.length e;rw[av,aP]at this;lia);rw[e,c]at hr;obtain⟨st,m,p⟩:=x;obtain⟨h1,h2,a,b⟩:=hr
  cases b
  rwa [bP]
theorem yl6 {f:Nat×Nat×Nat->Nat×Nat×Nat}(hf:∀x,(f x).1=x.1/\(f x).2.1=x.2.1):∀{l:List (Nat×Nat×Nat)} {j a b:Nat},U7 R xs l a b->U7 R xs (l.modify j f) a b
 | [],j,a,b,h=>by simpa using h
 | x::l,0,a,b,h=>by
  obtain⟨st,m,p⟩:=x
  rw[List.modify_zero_cons]
  obtain⟨e1,e2⟩:=hf (st,m,p)
  generalize f (st,m,p)=y at e1 e2
  obtain⟨st',m',p'⟩:=y
  cases e1
  cases e2
  exact h
 | x::l,j+1,a,b,h=>by
  obtain⟨st,m,p⟩:=x
  rw[List.modify_succ_cons]
  exact⟨h.1,h.2.1,h.2.2.1,yl6 hf h.2.2.2⟩
theorem sortRuns_ok (c:Cmp M A E s κ G R){Q:Unit->SortSt->Prop}(hG:∀x∈xs.toList,G x)
  (h:∀ys e t,ys.toList.Perm xs.toList->ys.size=xs.size->UpS R ys 0 xs.size->Q () (Sx κ ys e t)):wpS M A E s sortRuns' Q (Sx κ xs #[] g):=by
 rw[sortRuns'_eq];refine gA (wpS_get ?_);dsimp only;rw[show(arrOf (Sx κ xs #[] g)).size=xs.size from rfl];generalize minRun' xs.size xs.size 0=Y;refine gA (wpS_mono (Q:=λq st=>∃ys e t,q=(none,xs.size)/\st=Sx κ ys e t/\Seg xs ys 0 xs.size/\U7 R ys e.toList 0 xs.size) (gC (I:=λj q st=>∃lo ys e t,q=(none,lo)/\st=Sx κ ys e t/\Seg xs ys 0 xs.size/\U7 R ys e.toList 0 lo/\lo<=xs.size/\j<=lo) ?_ ?_ ⟨0,xs,#[],g,rfl,rfl,Seg.refl _ _ _,rfl,aG _,af _⟩) ?_)
 .rintro j q st _ hj ⟨lo,ys,e,t,rfl,rfl,u,hr,ae,ad⟩;dsimp only;by_cases U:lo ≥ xs.size
  .rw[if_pos U];obtain rfl:lo=xs.size:=by lia
   exact gB ⟨ys,e,t,rfl,rfl,u,hr⟩
  rw[if_neg U];have W:∀{zs:Array Keyed},Seg xs zs 0 xs.size->∀x∈zs.toList,G x:=λu x hx=>hG x (u.perm.mem_iff.mp hx);refine gA (xg2 c (W u) (by lia) (by rw[u.size];lia) λm zs ag ar O P=>?_);have v:Seg xs zs 0 xs.size:=u.trans (O.mono (by lia) (by lia));have H:U7 R zs e.toList 0 lo:=hr.seg O (by lia);dsimp only;rcases cF m Y with Z|Z
  all_goals first|rw[if_pos Z]|rw[if_neg (by lia)]
  all_goals first
   | (
     have e3:m<Y:=Z
     refine gA (za0 (gA (xw8 c (W v) ag (by lia) (by rw[v.size];lia) P λT hv B=>?_)))
     rw[if_neg (by simp)]
     have L:Seg xs T 0 xs.size:=v.trans (hv.mono (by lia) (by lia))
     have J:U7 R T e.toList 0 lo:=H.seg hv (by lia)
     have V:0<min (xs.size-lo) Y/\lo+min (xs.size-lo) Y<=xs.size:=by lia
     generalize min (xs.size-lo) Y=N at B V ⊢)
   | (
     obtain⟨T,ab⟩:∃T,T=zs:=⟨_,rfl⟩
     rw[←ab]at v H P ⊢
     have L:=v
     have J:=H
     have V:0<m/\lo+m<=xs.size:=by lia
     have B:=P
     generalize m=N at B V ⊢)
  all_goals
   refine gA (wpS_get ?_)
   have D:∀{l:Array Keyed} {d:Array (Nat×Nat×Nat)},U7 R l d.toList 0 lo->UpS R l lo N->U7 R l (d.push (lo,N,0)).toList 0 (lo+N):=λhr hu=>by
    rw[Array.toList_push];exact B4.mpr ⟨lo,hr,rfl,V.1,hu,rfl⟩
   have eb:(pendingOf (Sx κ T e t)).back?=e.back?:=rfl
   rw[eb]
   cases e.back? with
   | none=>exact gA (wpS_modify (gB ⟨_,_,_,_,rfl,rfl,L,D J B,V.2,by lia⟩))
   | some x =>
    obtain⟨s1,n1,x⟩:=x;dsimp only;generalize power' xs.size (2*s1+n1) (2*s1+n1+n1+N) xs.size=pw;refine gA (wpS_mono (Q:=λq st=>q=(none,())/\∃l d r,st=Sx κ l d r/\Seg xs l 0 xs.size/\U7 R l d.toList 0 lo/\UpS R l lo N) (gC (I:=λ_ q st=>q=(none,())/\∃l d r,st=Sx κ l d r/\Seg xs l 0 xs.size/\U7 R l d.toList 0 lo/\UpS R l lo N) ?_ ?_ ⟨rfl,T,e,t,rfl,L,J,B⟩) ?_)
    .rintro j2 q st _ _ ⟨rfl,l,d,r,rfl,k,o,w⟩;refine gA (wpS_get ?_);have ep:pendingOf (Sx κ l d r)=d:=rfl;rw[ep]
     cases eo:(if d.size > 1 then d[d.size-2]? else none) with
     | none=>exact gB ⟨rfl,l,d,r,rfl,k,o,w⟩
     | some y =>
      obtain⟨y1,y2,y3⟩:=y;have as:d.size > 1:=Classical.byContradiction λz=>by rw[if_neg z]at eo;cases eo
      dsimp only;by_cases e5:y3<=pw
      .rw[if_pos e5];exact gB ⟨rfl,l,d,r,rfl,k,o,w⟩
      .rw[if_neg e5];refine gA (zf8 c (W k) o (by rw[k.size];lia) (by lia) λws S g3 C K _=>?_);rw[if_neg (by simp)];exact gB ⟨rfl,ws,S,g3,rfl,k.trans (C.mono (by lia) (by lia)),K,w.seg C (by lia)⟩
    .rintro q st hq;exact hq
    .rintro q st ⟨rfl,l,d,r,rfl,k,o,w⟩;refine gA (wpS_modify (gA (wpS_modify (gB ⟨_,l,_,r,rfl,rfl,k,D ?_ w,V.2,by lia⟩))));show U7 R l (d.modify (d.size-1) _).toList 0 lo;rw[Array.toList_modify];exact yl6 (f:=λx=>(x.1,x.2.1,pw)) (λx=>⟨rfl,rfl⟩) o
 .rintro q st ⟨lo,ys,e,t,rfl,rfl,u,hr,ae,ad⟩;obtain rfl:lo=xs.size:=by lia
  exact⟨ys,e,t,rfl,rfl,u,hr⟩
 .rintro q st ⟨ys,e,t,rfl,rfl,u,hr⟩;dsimp only;have W:∀{zs:Array Keyed},Seg xs zs 0 xs.size->∀x∈zs.toList,G x:=λu x hx=>hG x (u.perm.mem_iff.mp hx);have X:=hr.le;rw[aP,bP]at X;refine gA (wpS_mono (Q:=λq st=>q=(none,())/\∃l d r,st=Sx κ l d r/\Seg xs l 0 xs.size/\U7 R l d.toList 0 xs.size/\d.size<=1) (gC (I:=λj q st=>q=(none,())/\∃l d r,st=Sx κ l d r/\Seg xs l 0 xs.size/\U7 R l d.toList 0 xs.size/\d.size+j<=xs.size) ?_ ?_ ⟨rfl,ys,e,t,rfl,u,hr,by lia⟩) ?_)
  .rintro j q st _ hj ⟨rfl,l,d,r,rfl,k,o,F⟩;refine gA (wpS_get ?_);have ep:pendingOf (Sx κ l d r)=d:=rfl;rw[ep];by_cases U:d.size<=1
   .rw[if_pos U];exact gB ⟨rfl,l,d,r,rfl,k,o,U⟩
   rw[if_neg U];obtain⟨i,ei,hi⟩:∃i,(if Option.any (λx=>decide (x<(d[d.size-2+1]?.elim 0 λx=>x.snd.fst))) (if d.size-2 > 0 then Option.map (λx=>x.snd.fst) d[d.size-2-1]? else none)=true then d.size-2-1 else d.size-2)=i/\i+1<d.size:=by
    have ai:∀{p:Prop} [Decidable p] {a b n:Nat},a<n->b<n->(if p then a else b)<n:=λh1 h2=>by
     split
     .exact h1
     .exact h2
    exact⟨_,rfl,Nat.add_lt_of_lt_sub (ai (by lia) (by lia))⟩
   rw[ei];refine gA (zf8 c (W k) o (by rw[k.size];exact af _) hi λws S g3 C K O=>?_);rw[if_neg (by simp)];exact gB ⟨rfl,ws,S,g3,rfl,k.trans C,K,by lia⟩
  .rintro q st ⟨rfl,l,d,r,rfl,k,o,F⟩;exact⟨rfl,l,d,r,rfl,k,o,by lia⟩
  .rintro q st ⟨rfl,l,d,r,rfl,k,o,F⟩;exact gB (h l d r k.perm k.size (xn0 o F))
end
end SortG
namespace L2
open PySem PySem.Spec PyProof.Rows
section
variable {prog:gf}{w:gp}{A:gq}{E:Value->fZ->Prop}{s:fZ}
theorem xj4:∀{vs ws:List Value} {xs ys:List Int} {i:Nat} {Q:Bool->fZ->Prop} {fin:Bool},IntsAre vs xs->IntsAre ws ys->fin=decide (xs.length<ys.length)->Q (HT.lexLt xs ys) s->W.KatLex prog w A true fin Q (vs.zip ws) i s
 | _,_,_,_,i,Q,fin,.nil,.nil,hf,h=>by
  rw[hf]
  exact W.kat_nil h
 | _,_,_,_,i,Q,fin,.nil,.cons _ _ _,hf,h=>by
  rw[hf]
  exact W.kat_nil h
 | _,_,_,_,i,Q,fin,.cons _ _ _,.nil,hf,h=>by
  rw[hf]
  exact W.kat_nil h
 | _,_,_,_,i,Q,fin,.cons (ns:=xs) a t r,.cons (ns:=ys) b u r',hf,h=>by
  rw[HT.lexLt_cons]at h
  refine W.kat_cons (wpAny_eqBool_int (W.kat_go (λe1=>W.kat_yes ?_) (λe1=>W.kat_no ?_)))
  .rw[beq_iff_eq]at e1
   rw[if_pos e1]at h
   exact xj4 r r' (by rw[hf];simp) h
  .have e1':¬a=b:=by simpa using e1
   rw[if_neg e1']at h
   cases i with
   | zero =>
    show gg (gn prog w) A (oneLt' true _ _) Q _ s
    exact oneLt_int h
   | succ i =>
    show gg (gn prog w) A (oneLt' false _ _) Q _ s
    exact W.kat_one _ _ (PyProof.Rows.lt_int h)
def M1 (h:Heap)(b:Addr)(x:List Int):Prop:=∃us:List Value,IsTup h b us.toArray/\IntsAre us x
theorem M1.at {h h':Heap}(p:M1 h b x)(k:∀o,h.get? b=some o->h'.get? b=some o):M1 h' b x:=by
 obtain⟨c,⟨o,a,r⟩,i⟩:=p;exact⟨c,⟨o,k o a,r⟩,i⟩
theorem we1 (f:M1 s.heap b x)(hc:M1 s.heap c y){Q:Bool->fZ->Prop}(h:Q (HT.lexLt x y) s):gg (gn prog w) A (keyLt' (tuples' true) (.ref b) (.ref c)) Q E s:=by
 obtain⟨l,⟨o,j,_,n,g⟩,i⟩:=f;obtain⟨k,⟨o',d,_,n',a⟩,e⟩:=hc;refine W.kat_lt j g d a ?_;rw[cN,cN];refine xj4 i e ?_ h;rw[ay,ay,i.length,e.length]
def rkL (rs:List (List Int))(x:List Int):Int:=((rs.filter λy=>HT.lexLt y x).length:Nat)
theorem xc0 (h1:HT.lexLt x y=true)(h2:HT.lexLt y z=true):HT.lexLt x z=true:=by
 cases h:HT.lexLt x z with
 | true=>rfl
 | false=>rw[yq7 (yq8 h2) h]at h1;cases h1
theorem wa8 (a:List (List Int))(h:HT.lexLt y x=false):rkL a x<=rkL a y:=by
 unfold rkL;refine Int.ofNat_le.mpr ?_
 induction a with
 | nil=>exact af _
 | cons z a ih =>
  rw[bj,bj]
  cases e:HT.lexLt z x with
  | false =>
   rw[if_neg aA];split
   .exact Nat.le_succ_of_le ih
   .exact ih
  | true =>
   have:HT.lexLt z y=true:=by
    cases e':HT.lexLt z y with
    | true=>rfl
    | false=>rw[yq7 h e']at e;cases e
   rw[if_pos rfl,if_pos this,av,av];lia
theorem xm5 (b:List (List Int))(d:x∈b)(h:HT.lexLt x y=true):rkL b x<rkL b y:=by
 have key:∀l:List (List Int),(l.filter λz=>HT.lexLt z x).length<=(l.filter λz=>HT.lexLt z y).length/\(x∈l->(l.filter λz=>HT.lexLt z x).length<(l.filter λz=>HT.lexLt z y).length):=λl=>by
  induction l with
  | nil=>exact⟨af _,λz=>by cases z⟩
  | cons z l ih =>
   rw[bj,bj]
   cases e:HT.lexLt z x with
   | true =>
    rw[if_pos rfl,if_pos (xc0 e h),av,av];refine⟨by lia,λc=>?_⟩;rcases ax.mp c with q|q
    .rw[q,yd3]at e
     cases e
    .have:=ih.2 q;lia
   | false =>
    rw[if_neg aA];by_cases a:HT.lexLt z y=true
    .rw[if_pos a,av];exact⟨by lia,λ_=>by lia⟩
    .rw[if_neg a];refine⟨ih.1,λc=>?_⟩;rcases ax.mp c with q|q
     .rw[←q]at a;exact absurd h a
     .exact ih.2 q
 unfold rkL;exact Int.ofNat_lt.mpr ((key b).2 d)
theorem xt5 (a:List (List Int))(b:x∈a):decide (rkL a x<rkL a y)=HT.lexLt x y:=by
 cases h:HT.lexLt x y with
 | true=>exact decide_eq_true (xm5 a b h)
 | false=>exact decide_eq_false (cf.mpr (wa8 a h))
theorem xd9 {b:List Addr}(j:Paired (M1 h) b c)(hne:∀r∈c,r≠[]):∃fs,W.KatTups h (b.map Value.ref) fs/\fs.length=b.length/\∀v∈fs,∃i t,v=Value.int i t:=by
 induction j with
 | nil=>exact⟨[],trivial,rfl,λv h=>(by cases h)⟩
 | cons a _ ih =>
  obtain⟨fs,h1,h2,d⟩:=ih λr hr=>hne r (ar _ hr);obtain⟨l,⟨o,g,e,n,f⟩,i⟩:=a
  cases i with
  | nil=>exact absurd rfl (hne _ aw)
  | cons x t r =>
   refine⟨Value.int x t::fs,W.KatTups.cons g e f rfl h1,by rw[av,av,h2],λv k=>?_⟩;rcases ax.mp k with z|z
   .exact⟨_,_,z⟩
   .exact d v z
theorem yf5 {h h':Heap}(g:Paired (M1 h) a d)(k:∀b∈a,∀o,h.get? b=some o->h'.get? b=some o):Paired (M1 h') a d:=by
 induction g with
 | nil=>exact .nil
 | cons f _ ih=>exact .cons (f.at λo e=>k _ aw o e) (ih λb c=>k b (ar _ c))
theorem zf1:∀{us:List Value} {x y:List Int},IntsAre us x->IntsAre us y->x=y
 | _,_,_,.nil,.nil=>rfl
 | _,_,_,.cons a t r,.cons _ _ r'=>by rw[zf1 r r']
theorem zz5 (f:M1 h b x)(g:M1 h b y):x=y:=by
 obtain⟨l,⟨o,e,_,n,d⟩,i⟩:=f;obtain⟨k,⟨o',c,_,n',a⟩,j⟩:=g;rw[e]at c
 cases c
 rw[d]at a
 cases a
 exact zf1 i j
def adr:Value->Addr
 | .ref a=>a
 | _=>0
theorem zw4 {as:List Addr}{P:PySem.Fin->fZ->Prop}(X:s.heap.get? a=some (gD "list" (as.map Value.ref).toArray n))(M:Paired (M1 s.heap) as g)(hne:∀b∈as,b≠a)(hb:∀x∈g,x≠[])(am:as.length<=400000)
  (q:∀(bs:List Addr) (B:List (List Int)),bs.length=as.length->(∀b∈bs,b∈as)->Paired (M1 s.heap) bs B->B.Perm g->B.Pairwise (λx y=>HT.lexLt y x=false)->P (.done (.ret .none)) { s with heap:=sortedHeap s.heap a (as.map Value.ref) (bs.map Value.ref).toArray }) :
  gg (gn prog w) A (Builtin.«list.sort» ⟨[.ref a],[]⟩) P E s:=by
 have F:as.length=g.length:=Paired.length M;have bl:=sizeLine_eq;have O:(as.map Value.ref).length=as.length:=ae _;rw[list_sort_plain];have ha:a<s.heap.objs.size:=aB X;refine fY (listItems_at X rfl (fY (listUpdate_at X rfl ?_ (by rw[ay];lia) (aG _))));obtain⟨e1,L⟩:∃e1,(s.heap.update a (Obj.mapSeq λ_=>#[])).get? a=some (gD "list" #[] e1):=⟨_,get?_update_seq X (λ_=>#[])⟩;refine fY (seqEpoch_at L rfl (fY (wpAny_newTuple (fY (wpAny_newList (gr ?_) (aG _))) (by show(as.map Value.ref).length<=_;lia))));have keep:∀b o,b≠a->s.heap.get? b=some o->(((s.heap.update a (Obj.mapSeq λ_=>#[])).push (gD "tuple" (as.map Value.ref).toArray 0)).push (gD "list" #[] 0)).get? b=some o:=λb o nb eb =>
  ap _ (ap _ ((Heap.get?_update_other _ _ (Ne.symm nb)).trans eb))
 have p:(((s.heap.update a (Obj.mapSeq λ_=>#[])).push (gD "tuple" (as.map Value.ref).toArray 0)).push (gD "list" #[] 0)).get? a=some (gD "list" #[] e1):=ap _ (ap _ L);have N:Paired (M1 (((s.heap.update a (Obj.mapSeq λ_=>#[])).push (gD "tuple" (as.map Value.ref).toArray 0)).push (gD "list" #[] 0))) as g:=yf5 M λb f o eo=>keep b o (hne b f) eo;show gg (gn prog w) A _ P E { s with heap:=((s.heap.update a (Obj.mapSeq λ_=>(#[]:Array Value))).push (gD "tuple" (as.map Value.ref).toArray 0)).push (gD "list" #[] 0) };dsimp only;by_cases h2:(as.map Value.ref).toArray.size<2
 .rw[if_pos h2,if_pos h2];refine fY (gc ?_);rw[StateT.run_pure];refine fY (gc ?_);dsimp only;have hz:((as.map Value.ref).toArray.zip (as.map Value.ref).toArray).map (·.2)=(as.map Value.ref).toArray:=by
   apply fG.mp;rw[fF,Array.toList_zip,cN];exact List.map_snd_zip (af _)
  refine fY (seqEpoch_at p rfl (fY (listUpdate_at p rfl ?_ (aG _) ?_)))
  .simp only[bne_self_eq_false,bY,if_false];have Y:g.Pairwise (λx y=>HT.lexLt y x=false):=by
    match g,F with
    | [],_=>exact List.Pairwise.nil
    | [x],_=>exact List.pairwise_singleton _ _
    | _::_::r,hl =>
     rw[ay,O,hl,av,av]at h2;lia
   have key:=q as g rfl (λb hb=>hb) M (List.Perm.refl _) Y;have z:∀o,o=(as.map Value.ref).toArray->P (.done (.ret .none)) { s with heap:=sortedHeap s.heap a (as.map Value.ref) o }:=λo e=>by rw[e];exact key
   exact gc (z _ hz)
  .show(((as.map Value.ref).toArray.zip (as.map Value.ref).toArray).map (·.2)).size<=_;rw[hz,ay];lia
 .rw[if_neg h2,if_neg h2];rw[ay,O]at h2;obtain⟨fs,t1,t2,t3⟩:=xd9 N hb;refine fY (W.kat_kind (T:=.type "int") t1 (by lia) (λv hv=>?_) rfl ?_)
  .obtain⟨i,t,rfl⟩:=t3 v hv;exact W.Looks.of_pure rfl
  show gg _ _ ((sortRuns').run (SortSt.mk' (tuples' true) _ _ _ _) >>= _) _ _ _;obtain⟨d,u⟩:∃d:Addr->List Int,∀i b,as[i]?=some b->g[i]?=some (d b):=by
   refine⟨λb=>g.getD (as.idxOf b) [],λi b hi=>?_⟩;have bo:=(ag.mp hi).1;have J:=au hi;have h0:as.idxOf b<as.length:=List.idxOf_lt_length_iff.mpr J;have e0:as[as.idxOf b]?=some b:=by rw[aa h0];simp
   have q1:=p4 M i b _ hi (aa (show i<g.length by lia));have q2:=p4 M _ b _ e0 (aa (show as.idxOf b<g.length by lia));rw[aa (show i<g.length by lia),zz5 q1 q2];simp[aa (show as.idxOf b<g.length by lia)]
  have m:∀b∈as,d b∈g/\M1 s.heap b (d b)/\M1 (((s.heap.update a (Obj.mapSeq λ_=>#[])).push (gD "tuple" (as.map Value.ref).toArray 0)).push (gD "list" #[] 0)) b (d b):=λb f=>by
   obtain⟨i,hi⟩:=ck f;have hr:=u i b hi;exact⟨au hr,p4 M i _ _ hi hr,p4 N i _ _ hi hr⟩
  have G:as.map d=g:=cI λi=>by
   rw[al]
   cases e:as[i]? with
   | none=>rw[aQ (by have:=List.getElem?_eq_none_iff.mp e;lia)];rfl
   | some b=>rw[u i b e];rfl
  have Z:((as.map Value.ref).toArray.zip (as.map Value.ref).toArray).toList=as.map λb=>((Value.ref b,Value.ref b):Keyed):=by
   rw[Array.toList_zip,cN];clear M F X hne hb q N t1 t2 u m G keep L p O am h2
   induction as with
   | nil=>rfl
   | cons b as ih=>rw[aN,aN,List.zip_cons_cons,ih]
  have ai:SortG.Cmp (gn prog w) A E ({ s with heap:=((s.heap.update a (Obj.mapSeq λ_=>(#[]:Array Value))).push (gD "tuple" (as.map Value.ref).toArray 0)).push (gD "list" #[] 0) }:fZ) (tuples' true) (λx=>∃b∈as,x=(Value.ref b,Value.ref b)) (λx=>rkL g (d (adr x.1))):=by
   refine⟨?_⟩;rintro x y st Q ⟨b,f,rfl⟩ ⟨b',U,rfl⟩ V hq;rw[lt'_eq];refine gA (wpS_get ?_);rw[V];refine gA (wpS_lift (wpAny_attempt (we1 (m b f).2.2 (m b' U).2.2 ⟨rfl,gB ?_⟩)));have e:=xt5 g (m b f).1 (y:=d b');have hq:Q (some (decide (rkL g (d b)<rkL g (d b')))) st:=hq;rw[e]at hq;exact hq
  refine fY (gu (SortG.sortRuns_ok ai (λx S=>?_) (Q:=λ_ C=>∃(bs:List Addr) (B:List (List Int)),(arrOf C).map (·.2)=(bs.map Value.ref).toArray/\failedOf C=none/\bs.length=as.length/\(∀b∈bs,b∈as)/\Paired (M1 s.heap) bs B/\B.Perm g/\B.Pairwise (λx y=>HT.lexLt y x=false)) λys bt g' h bb bc=>?_) ?_ λ_ _ e=>e)
  .rw[Z]at S;obtain⟨b,f,rfl⟩:=az.mp S;exact⟨b,f,rfl⟩
  .rw[Z]at h;have D:∀x∈ys.toList,∃b∈as,x=(Value.ref b,Value.ref b):=λx S=>by
    obtain⟨b,f,e⟩:=az.mp (h.mem_iff.mp S);exact⟨b,f,e.symm⟩
   have K:(ys.toList.map λx=>adr x.1).Perm as:=by
    have:=h.map λx=>adr x.1;rw[bF,show(List.map ((λx:Keyed=>adr x.1) ∘ λb=>(Value.ref b,Value.ref b)) as)=as from(bT λb _=>rfl).trans (dU as)]at this;exact this
   have H:∀b∈ys.toList.map λx=>adr x.1,b∈as:=λb f=>K.mem_iff.mp f;refine⟨ys.toList.map λx=>adr x.1,(ys.toList.map λx=>adr x.1).map d,?_,rfl,K.length_eq,H,?_,?_,?_⟩
   .apply fG.mp;rw[fF,cN,bF];refine bT λx S=>?_;obtain⟨b,_,rfl⟩:=D x S;rfl
   .have:∀l:List Addr,(∀b∈l,b∈as)->Paired (M1 s.heap) l (l.map d):=λl=>by
     induction l with
     | nil=>exact λ_=>.nil
     | cons b l ih=>exact λhl=>.cons (m b (hl b aw)).2.1 (ih λc hc=>hl c (ar _ hc))
    exact this _ H
   .have:=K.map d;rwa [G]at this
   .rw[bF];refine bx.mpr (bg.mpr λi j hi R ao=>?_);rw[aP]at hi R;have h4:=bc i j (aG _) (bp ao) (by rw[bP,←bb];exact R);have e:∀k (V:k<ys.size),ys.getD k SortG.dk=ys.toList[k]'(by simpa using V):=λk V=>by simp[Array.getD,V]
    unfold SortG.Ky at h4;rw[e i hi,e j R]at h4;have hm:(d (adr (ys.toList[j]'(by simpa using R)).1))∈g:=by
     obtain⟨b,f,e'⟩:=D _ (bw (by simpa using R));rw[e'];exact(m b f).1
    cases e2:HT.lexLt (d (adr (ys.toList[j]'(by simpa using R)).1)) (d (adr (ys.toList[i]'(by simpa using hi)).1)) with
    | false=>exact e2
    | true =>
     exact absurd (xm5 g hm e2) (cf.mpr h4)
  .rintro⟨⟨⟩,C⟩ s' ⟨rfl,bs,B,I,hf,an,J,ax,a',ba⟩;dsimp only;have aq:((arrOf C).map (·.2)).size<=ge:=by
    rw[I,ay,ae];lia
   refine fY (seqEpoch_at p rfl (fY (listUpdate_at p rfl ?_ (aG _) (Nat.le_succ_of_le aq))));rw[hf];simp only[bne_self_eq_false,bY,if_false];have key:=q bs B an J ax a' ba;have z:∀o,o=(bs.map Value.ref).toArray->P (.done (.ret .none)) { s with heap:=sortedHeap s.heap a (as.map Value.ref) o }:=λo e=>by rw[e];exact key
   exact gc (z _ I)
theorem yt1 {as:List Addr}{R:Value->fZ->Prop}(hl:s.heap.IsList l (as.map Value.ref).toArray)(h:Paired (M1 s.heap) as j)(G:∀x∈j,x≠[])(f:as.length<=400000)
  (q:∀(bs:List Addr) (d:List (List Int)),bs.length=as.length->(∀b∈bs,b∈as)->Paired (M1 s.heap) bs d->d.Perm j->d.Pairwise (λx y=>HT.lexLt y x=false)->R (.ref (gat s.heap (as.map Value.ref)).objs.size) { s with heap:=sortedHeap ((gat s.heap (as.map Value.ref)).push (gD "list" (as.map Value.ref).toArray 0)) (gat s.heap (as.map Value.ref)).objs.size (as.map Value.ref) (bs.map Value.ref).toArray }) :
  gg (gn prog w) A (call (.builtin "sorted") [.ref l]) R E s:=by
 have C:=sizeLine_eq;have H:(as.map Value.ref).length=as.length:=ae _;have p:((gat s.heap (as.map Value.ref)).push (gD "list" (as.map Value.ref).toArray 0)).get? (gat s.heap (as.map Value.ref)).objs.size=some (gD "list" (as.map Value.ref).toArray 0):=aC _ rfl;have lt:∀b∈as,b<s.heap.objs.size/\∃o,s.heap.get? b=some o:=λb a=>by
  obtain⟨i,hi⟩:=ck a;have g:=(ag.mp hi).1;obtain⟨I,⟨o,r,_⟩,_⟩:=p4 h i b _ hi (aa (by rw[←Paired.length h];exact g));exact⟨aB r,o,r⟩
 refine Calls.call_function_entry kind_sorted plain_sorted entry_sorted (args_sorted1 (.ref l)) ?_;unfold Builtin.«sorted»;refine fY (m:=checkCount "sorted" 1 1 _) (gc (fY (collect_list hl (fY (wpAny_newList ?_ (by lia))) (by lia))));show gg _ _ _ _ _ { s with heap:=(gat s.heap (as.map Value.ref)).push (gD "list" (as.map Value.ref).toArray 0) };refine fY (gr (wpAny_call_entry slot_list_sort ⟨_,p,rfl⟩ entry_list_sort (zw4 (s:={ s with heap:=(gat s.heap (as.map Value.ref)).push (gD "list" (as.map Value.ref).toArray 0) }) p (yf5 h λb a o e=>ap _ (zo5 e)) (λb a z=>?_) G f λbs d t k u v B=>⟨_,rfl,gc ⟨_,rfl,q bs d t k (yf5 u λb a o e=>?_) v B⟩⟩) (args_list_sort _)))
 .have n:=(lt b a).1;have D:=zq6 s.heap (as.map Value.ref);have F:b=(gat s.heap (as.map Value.ref)).objs.size:=z;rw[F,D]at n;exact aO _ (Nat.lt_of_succ_lt n)
 .obtain⟨_,o',c⟩:=lt b (k b a);have:=ap (gD "list" (as.map Value.ref).toArray 0) (zo5 (vs:=as.map Value.ref) c);rw[show((gat s.heap (as.map Value.ref)).push (gD "list" (as.map Value.ref).toArray 0)).get? b=some o from e]at this;rw[c,this]
end
section
variable {X:Cx}
theorem yc0:V1 X (.builtin "sorted") (λxs H Q=>∃(p:Addr) (d:List Addr) (j:List (List Int)),xs=[.ref p]/\SqL X.K H p (d.map V.ref)/\Paired (λa x=>H a=some (.tup (x.map V.int))) d j/\(∀x∈j,x≠[])/\j.length<=400000 /\
  ∀(l:Addr) (bs:List Addr) (m:List (List Int)),H l=none->m.Perm j->m.Pairwise (λx y=>HT.lexLt y x=false)->Paired (λa x=>H a=some (.tup (x.map V.int))) bs m->Q (.ref l) (upd H l (.lst (bs.map V.ref)))):=by
 intro pins s σ H xs N Q I r h;obtain⟨p,d,j,rfl,T,C,P,O,q⟩:=h;obtain⟨u,rfl,rx⟩:=K6 r
 cases rx
 obtain⟨W,Z,Y,hz⟩:=I.list T;have t:=yb1 Z;subst t;have M:d.length=j.length:=Paired.length C;have row:∀b x,H b=some (.tup (x.map V.int))->M1 s.heap b x:=λb x k=>by
  obtain⟨N,r2,p2,_⟩:=I.tuple (SqT.of k);exact⟨N,p2,J2 r2⟩
 have D:Paired (M1 s.heap) d j:=Paired.imp' (λb x k=>row b x k) C;refine yt1 Y.isList D P (by lia) λbs m F v G J L=>?_;have E:=zq6 s.heap (d.map Value.ref);obtain⟨e,A⟩:=sortedHeap_at (vs:=d.map Value.ref) (out:=(bs.map Value.ref).toArray) (n:=0) (show((gat s.heap (d.map Value.ref)).push (gD "list" (d.map Value.ref).toArray 0)).get? (gat s.heap (d.map Value.ref)).objs.size=some (gD "list" (d.map Value.ref).toArray 0) from aC _ rfl);have g:∀b o,s.heap.get? b=some o->(sortedHeap ((gat s.heap (d.map Value.ref)).push (gD "list" (d.map Value.ref).toArray 0)) (gat s.heap (d.map Value.ref)).objs.size (d.map Value.ref) (bs.map Value.ref).toArray).get? b=some o:=λb o z=>by
  have B:=aB z;have h1:b<(gat s.heap (d.map Value.ref)).objs.size:=E.symm ▸ cK B;rw[sortedHeap_old (aX h1) (by rw[size_push'];exact cK h1),Heap.get?_push_ne _ _ _ (aX h1)];exact zo5 z
 have U:=E8;refine⟨.ref (gat s.heap (d.map Value.ref)).objs.size,_,I.laid (t':=s.toks) g (by lia) (show n6 X.prog X.w _ _ _ (.lst (bs.map V.ref)) from⟨by rw[ae];lia,bs.map Value.ref,e,?_,A⟩),rfl,q _ bs m (I.hok.fresh (by lia)) J L ?_⟩
 .clear F v G A g
  induction bs with
  | nil=>exact .nil
  | cons b r ih=>exact .cons rfl ih
 .clear J L A g F
  induction G with
  | nil=>exact .nil
  | @cons b x bs m f _ ih =>
   refine .cons ?_ (ih λc R=>v c (ar _ R));obtain⟨i,hi⟩:=ck (v b aw);have S:=(ag.mp hi).1;have k:=p4 C i b _ hi (aa (show i<j.length by lia));rw[zz5 f (row b _ k)];exact k
end
section
variable {X:Cx}
theorem yp2 (hc:X.calm=true):V1 X (.type "list") (λxs H Q=>∃(p:Addr) (kvs:List (Key×V)) (c:List Int),xs=[.ref p]/\H p=some (.dK kvs)/\kvs.map (·.1)=c.map Sum.inl/\∀l,H l=none->Q (.ref l) (upd H l (.lst (c.map V.int)))):=by
 intro pins s σ H xs M Q I r h;obtain⟨p,kvs,c,rfl,A,d,q⟩:=h;obtain⟨u,rfl,K⟩:=K6 r
 cases K
 obtain⟨t,G,m,j,z⟩:=yv2 I.hok A;obtain⟨ep,y⟩:=z.dictAt;have B:kvs.length=c.length:=by rw[←ae (f:=(·.1)),d,ae]
 have C:kvs.length=m.length:=j.length;have o:m.map (·.1)=c.map Sum.inl:=by
  rw[←d];clear q y z t A d B C
  induction j with
  | nil=>rfl
  | cons h _ ih=>rw[aN,aN,ih,h.1]
 refine W.kdl_call (W.kdl_dict (knd:=g7 X.prog X.w) (kvs:=m) (ep:=ep) G) (I.ok.hd hc) y (by rw[←C];exact t) λh' L a D J hS b=>?_;have ia:IntsAre a.toList c:=yw1 (by rw[aP,b.1];lia) λi v e=>by
  obtain⟨k,x,E,F⟩:=b.2 i v (by rw[←bE];exact e);have g:(m.map (·.1))[i]?=some k:=by rw[al,E];rfl
  rw[o,al]at g
  cases en:c[i]? with
  | none=>rw[en]at g;cases g
  | some n =>
   rw[en]at g;obtain rfl:Sum.inl n=k:=by simpa using g
   exact⟨n,rfl,xv4 (k:=Sum.inl n) (u:=v) F⟩
 exact⟨.ref s.heap.objs.size,_,I.laid (t':=L) J (af _) (show n6 X.prog X.w _ h' _ (.lst (c.map V.int)) from⟨by rw[ae,←B];exact t,a.toList,D,K7 ia,by simpa using hS⟩),rfl,q _ (I.hok.fresh (af _))⟩
end
end L2
namespace TM
def IsT (n:Nat)(t:List Nat):Prop:=t.Perm (List.range n)
theorem IsT.length {t:List Nat}(h:IsT n t):t.length=n:=by rw[List.Perm.length_eq h,aU]
theorem IsT.lt (h:IsT n t)(hx:x∈t):x<n:=cr.mp ((List.Perm.mem_iff h).mp hx)
theorem IsT.mem (h:IsT n t)(hx:x<n):x∈t:=(List.Perm.mem_iff h).mpr (cr.mpr hx)
theorem IsT.nodup {t:List Nat}(h:IsT n t):t.Nodup:=(List.Perm.nodup_iff h).mpr eQ
theorem IsT.range (n:Nat):IsT n (List.range n):=List.Perm.refl _
theorem IsT.get_lt (h:IsT n t){i x:Nat}(hx:t[i]?=some x):x<n:=h.lt (au hx)
theorem IsT.at (h:IsT n t)(hi:i<n):∃x,t[i]?=some x/\x<n:=by
 have a:i<t.length:=by rw[h.length];exact hi
 exact⟨t[i],aa a,h.lt (bw a)⟩
theorem N7:∀{t l:List Nat},t.Nodup->(∀x∈t,x∈l)->l.length<=t.length->t.Perm l
 | [],l,_,_,h=>by
  have e:l=[]:=cv.mp (Nat.le_zero.mp h)
  subst e
  exact List.Perm.refl _
 | a::r,l,hn,hs,h=>by
  obtain⟨h1,h2⟩:=aS.mp hn
  have ha:a∈l:=hs a aw
  have p:=List.perm_cons_erase ha
  have ih:r.Perm (l.erase a):=N7 h2 (λx hx=>by
   have hx':=hs x (ar _ hx)
   have ne:x≠a:=λe=>h1 (e ▸ hx)
   rcases ax.mp ((List.Perm.mem_iff p).mp hx') with e|e
   .exact absurd e ne
   .exact e) (by rw[cO ha];simp only[av]at h;lia)
  exact(List.Perm.cons a ih).trans p.symm
theorem yq1 {t:List Nat}(hl:t.length=n)(hn:t.Nodup)(hlt:∀x∈t,x<n):IsT n t :=
 N7 hn (λx hx=>cr.mpr (hlt x hx)) (by rw[hl,aU];exact af _)
theorem zq4 {α:Type}:∀(l:List α) (i:Nat) (x:α),l[i]?=some x->(x::l.eraseIdx i).Perm l
 | [],_,_,h=>by cases h
 | a::r,0,x,h=>by
  cases h
  exact List.Perm.refl _
 | a::r,i+1,x,h=>by
  have ih:=zq4 r i x (by simpa using h)
  rw[List.eraseIdx_cons_succ]
  exact(List.Perm.swap a x _).trans (List.Perm.cons a ih)
theorem draw_perm {row left:List Nat}(h:IsT n (row++left))(a:left[i]?=some x):IsT n ((row++[x])++left.eraseIdx i):=by
 refine List.Perm.trans ?_ h;rw[ba];exact List.Perm.append_left row (zq4 left i x a)
end TM
namespace TM
theorem IsT.map {s t:List Nat}(c:IsT n s)(b:IsT n t):IsT n (s.map λx=>t.getD x 0):=by
 have e:((List.range n).map λx=>t.getD x 0)=t:=by
  apply cI;intro i;rw[al];by_cases hi:i<n
  .rw[aZ hi];have a:i<t.length:=by rw[b.length];exact hi
   simp[aa a]
  .rw[aQ (by rw[aU];lia),aQ (by rw[b.length];lia)];rfl
 have h1:=List.Perm.map (λx=>t.getD x 0) c;rw[e]at h1;exact h1.trans b
theorem getD_of {t:List Nat}(h:t[i]?=some x):t.getD i 0=x:=by rw[ah,h];rfl
theorem yw5 {s t:List Nat}{i x y:Nat}(a:s[i]?=some x)(b:t[x]?=some y):(s.map λx=>t.getD x 0)[i]?=some y:=by
 rw[al,a];simp only[cz];rw[getD_of b]
theorem IsT.hit (h:IsT n t)(b:y<n):∃x,t[x]?=some y/\x<n:=by
 obtain⟨x,a⟩:=ck (h.mem b);exact⟨x,a,by have:=(ag.mp a).1;rwa [h.length]at this⟩
theorem IsT.inj (h:IsT n t){i j x:Nat}(hi:t[i]?=some x)(c:t[j]?=some x):i=j:=by
 obtain⟨h1,a⟩:=ag.mp hi;obtain⟨h2,b⟩:=ag.mp c;exact(fI h.nodup).mp (a.trans b.symm)
structure Back (n:Nat) (t:List Nat) (k:Nat) (b:List Nat):Prop where
 len:b.length=n
 ret:∀x y,x<k->t[x]?=some y->b[y]?=some x
theorem Back.start {t b:List Nat}(h:b.length=n):Back n t 0 b:=⟨h,λ_ _ h=>absurd h (bR _)⟩
theorem Back.step {t b:List Nat}(hT:IsT n t)(h:Back n t k b)(c:t[k]?=some y):Back n t (k+1) (b.set y k):=by
 have d:y<b.length:=by rw[h.len];exact hT.get_lt c
 refine⟨by rw[bt];exact h.len,λx z g a=>?_⟩;by_cases e:x=k
 .subst e;rw[c]at a
  cases a
  rw[bB d]
 .have f:y≠z:=λq=>e (hT.inj a (q ▸ c));rw[br f];exact h.ret x z (by lia) a
theorem Back.lt (hT:IsT n t)(h:Back n t n b)(d:b[y]?=some x):x<n/\t[x]?=some y:=by
 have c:y<n:=by have:=(ag.mp d).1;rwa [h.len]at this
 obtain⟨z,e,a⟩:=hT.hit c;have:=h.ret z y a e;rw[d]at this
 cases this
 exact⟨a,e⟩
theorem Back.get (hT:IsT n t)(h:Back n t n b)(d:y<n):∃x,b[y]?=some x/\x<n/\t[x]?=some y:=by
 obtain⟨x,c,a⟩:=hT.hit d;exact⟨x,h.ret x y a c,a,c⟩
theorem Back.mem_lt (hT:IsT n t)(h:Back n t n b)(a:x∈b):x<n:=by
 obtain⟨y,c⟩:=ck a;exact(h.lt hT c).1
theorem Back.uniq (hT:IsT n t)(h:Back n t n b)(h':Back n t n c):b=c:=by
 apply cI;intro y;by_cases e:y<n
 .obtain⟨x,h1,a,d⟩:=h.get hT e;rw[h1,h'.ret x y a d]
 .rw[aQ (by rw[h.len];lia),aQ (by rw[h'.len];lia)]
theorem Back.isT (hT:IsT n t)(h:Back n t n b):IsT n b:=by
 refine yq1 h.len ?_ λx d=>h.mem_lt hT d;refine bg.mpr λi j hi c a e=>?_;have h1:=(h.lt hT (aa hi)).2;have h2:=(h.lt hT (aa c)).2;rw[e,h2]at h1
 cases h1
 exact aO _ a
theorem Back.comp {s t b c:List Nat}(i:IsT n s)(j:IsT n t)(h:Back n s n b)(h':Back n t n c):Back n (s.map λx=>t.getD x 0) n (c.map λx=>b.getD x 0):=by
 refine⟨by rw[ae];exact h'.len,λx z e g=>?_⟩;obtain⟨y,f,a⟩:=i.at e;obtain⟨k,d,_⟩:=j.at a;rw[yw5 f d]at g
 cases g
 exact yw5 (h'.ret y z a d) (h.ret x y e f)
theorem Back.range (n:Nat):Back n (List.range n) n (List.range n):=⟨aU,λx y hx hy=>by
 rw[aZ hx]at hy
 cases hy
 exact aZ hx⟩
end TM
namespace TM
def it (t:List Nat):Nat->Nat->Nat
 | 0,x=>x
 | k+1,x=>t.getD (it t k x) 0
section
variable {n:Nat}{t:List Nat}(h:IsT n t)
include h
theorem IsT.step_lt (b:x<n):t.getD x 0<n:=by
 obtain⟨y,c,a⟩:=h.at b;rw[getD_of c];exact a
theorem IsT.get_step (b:x<n):t[x]?=some (t.getD x 0):=by
 obtain⟨y,a,_⟩:=h.at b;rw[getD_of a,a]
theorem IsT.step_inj (hx:x<n)(hy:y<n)(e:t.getD x 0=t.getD y 0):x=y:=h.inj (h.get_step hx) (e ▸ h.get_step hy)
end
structure wj7 (t:List Nat) (x k:Nat) (c:List Nat):Prop where
 eq:c=(List.range k).map λj=>it t j x
 pos:1<=k
 no:∀j,1<=j->j<k->it t j x≠x
end TM
namespace TM
def iN (l:List Nat):List Int:=l.map λ(x:Nat)=>(x:Int)
end TM
namespace TM
structure Conj (n:Nat) (t b c:List Nat):Prop where
 len:c.length=n
 go:∀x,x<n->c[b.getD x 0]?=some (b.getD (t.getD x 0) 0)
section
variable {n:Nat}{t b c:List Nat}(hT:IsT n t)(hB:IsT n b)
include hT hB
theorem Conj.isT (h:Conj n t b c):IsT n c:=by
 have k:∀y z,c[y]?=some z->y<n->∃x,x<n/\b.getD x 0=y/\z=b.getD (t.getD x 0) 0:=λy z m a=>by
  obtain⟨x,d,g⟩:=hB.hit a;have e:=getD_of d;have:=h.go x g;rw[e,m]at this;exact⟨x,g,e,Option.some.inj this⟩
 refine yq1 h.len ?_ λz m=>?_
 .refine bg.mpr λi j hi o f e=>?_;obtain⟨x,d,ex,p⟩:=k i _ (aa hi) (by rw[←h.len];exact hi);obtain⟨y,a,s,r⟩:=k j _ (aa o) (by rw[←h.len];exact o);rw[p,r]at e;have q:=hB.step_inj (hT.step_lt d) (hT.step_lt a) e;have u:=hT.step_inj d a q;rw[←ex,←s,u]at f;exact aO _ f
 .obtain⟨y,a⟩:=ck m;have l:y<n:=by have:=(ag.mp a).1;rwa [h.len]at this
  obtain⟨x,d,_,e⟩:=k y z a l;rw[e];exact hB.step_lt (hT.step_lt d)
theorem Conj.step (h:Conj n t b c)(hx:x<n):c.getD (b.getD x 0) 0=b.getD (t.getD x 0) 0:=getD_of (h.go x hx)
end
structure Led (n:Nat) (t b:List Nat) (k:Nat) (g:List Nat):Prop where
 len:g.length=n
 go:∀x,x<k->g[b.getD x 0]?=some (b.getD (t.getD x 0) 0)
theorem Led.start {t b g:List Nat}(h:g.length=n):Led n t b 0 g:=⟨h,λ_ h=>absurd h (bR _)⟩
theorem Led.step {t b g:List Nat}(hB:IsT n b)(c:k<n)(h:Led n t b k g):Led n t b (k+1) (g.set (b.getD k 0) (b.getD (t.getD k 0) 0)):=by
 have a:b.getD k 0<g.length:=by rw[h.len];exact hB.step_lt c
 refine⟨by rw[bt];exact h.len,λx f=>?_⟩;by_cases e:x=k
 .subst e;rw[bB a]
 .have d:b.getD k 0≠b.getD x 0:=λq=>e (hB.step_inj (by lia) c q.symm);rw[br d];exact h.go x (by lia)
theorem Led.done (h:Led n t b n g):Conj n t b g:=⟨h.len,h.go⟩
end TM
namespace TM
inductive Ln where
 | still|told (k:Nat)|behind (i j:Nat)|back (i:Nat)
 deriving DecidableEq
def Ln.refs:Ln->List Nat
 | .still=>[]
 | .told _=>[]
 | .behind i j=>[i,j]
 | .back i=>[i]
def Ln.Ok (c p:Nat):Ln->Prop
 | .still=>True
 | .told k=>k<c
 | .behind i j=>i<p/\j<p
 | .back i=>i<p
theorem Ln.Ok.lt {l:Ln}(h:l.Ok c p)(hr:r∈l.refs):r<p:=by
 cases l with
 | still=>cases hr
 | told k=>cases hr
 | behind i j =>
  rcases ax.mp hr with e|e
  .rw[e];exact h.1
  .rw[aq.mp e];exact h.2
 | back i=>rw[aq.mp hr];exact h
def Rec (c:Nat)(ls:List Ln):Prop:=∀(p:Nat) (l:Ln),ls[p]?=some l->l.Ok c p
theorem Rec.snoc {ls:List Ln}{l:Ln}(h:Rec c ls)(hl:l.Ok c ls.length):Rec c (ls++[l]):=λp m hm=>by
 by_cases hp:p<ls.length
 .rw[aE hp]at hm
  exact h p m hm
 .have e:p=ls.length:=by
   have:=(ag.mp hm).1
   rw[ao,av,bO]at this
   lia
  subst e
  rw[aI (af _),bQ]at hm
  cases hm
  exact hl
theorem Rec.take {ls:List Ln}(h:Rec c ls)(k:Nat):Rec c (ls.take k):=λp l hl=>by
 by_cases hp:p<k
 .rw[bN hp]at hl
  exact h p l hl
 .rw[aQ (by rw[aK];lia)]at hl
  cases hl
inductive N2 (ls:List Ln):Nat->Nat->Prop
 | self (p:Nat):N2 ls p p
 | by {p r q:Nat} {l:Ln}:ls[p]?=some l->r∈l.refs->N2 ls r q->N2 ls p q
theorem N2.trans (h:N2 ls p r)(h':N2 ls r q):N2 ls p q:=by
 induction h with
 | self p=>exact h'
 | «by» hl hr _ ih=>exact .by hl hr (ih h')
theorem N2.from_above (h:N2 ls p q):q=p∨∃r l,N2 ls p r/\ls[r]?=some l/\q∈l.refs:=by
 induction h with
 | self p=>exact .inl rfl
 | @«by» p r q l hl hr h ih =>
  rcases ih with e|⟨c,b,h1,h2,a⟩
  .subst e;exact .inr ⟨p,l,.self p,hl,hr⟩
  .exact .inr ⟨c,b,.by hl hr h1,h2,a⟩
open Classical in
noncomputable def nb (ls:List Ln) (q:Nat):Bool:=decide (N2 ls (ls.length-1) q)
theorem nb_iff {ls:List Ln}:nb ls q=true↔N2 ls (ls.length-1) q:=by
 unfold nb;exact @decide_eq_true_iff _ (Classical.propDecidable _)
theorem nb_last {ls:List Ln}:nb ls (ls.length-1)=true:=nb_iff.mpr (.self _)
theorem nb_step {l:Ln}(hp:nb ls p=true)(hl:ls[p]?=some l)(hq:q∈l.refs):nb ls q=true :=
 nb_iff.mpr ((nb_iff.mp hp).trans (.by hl hq (.self _)))
def pos (b:Nat->Bool)(r:Nat):Nat:=((List.range r).filter b).length
theorem zg4 (b:Nat->Bool)(r:Nat):pos b (r+1)=pos b r+(if b r=true then 1 else 0):=by
 unfold pos;rw[eV,cR,ao];congr 1;rw[bj]
 split <;> rfl
theorem pos_le (b:Nat->Bool):∀r,pos b r<=r
 | 0=>af _
 | r+1=>by
  rw[zg4]
  have:=pos_le b r
  split <;> lia
theorem xl7 (b:Nat->Bool)(h:r<=s):pos b r<=pos b s:=by
 induction h with
 | refl=>exact af _
 | step _ ih=>rw[zg4];lia
theorem zt0 {b:Nat->Bool}(h:r<s)(a:b r=true):pos b r<pos b s:=by
 have h1:=xl7 b (show r+1<=s from h);rw[zg4,if_pos a]at h1;lia
def Ln.ren (f:Nat->Nat):Ln->Ln
 | .still=>.still
 | .told k=>.told k
 | .behind i j=>.behind (f i) (f j)
 | .back i=>.back (f i)
theorem Ln.ren_refs (f:Nat->Nat)(l:Ln):(l.ren f).refs=l.refs.map f:=by cases l <;> rfl
def few (b:Nat->Bool)(ls:List Ln)(k:Nat):List Ln:=((List.range k).filter b).map λp=>(ls.getD p .still).ren (pos b)
theorem few_len (b:Nat->Bool)(ls:List Ln)(k:Nat):(few b ls k).length=pos b k:=ae _
theorem few_succ (b:Nat->Bool)(ls:List Ln)(k:Nat):few b ls (k+1)=few b ls k++(if b k=true then[(ls.getD k .still).ren (pos b)] else[]):=by
 unfold few;rw[eV,cR,aJ];congr 1;rw[bj]
 split <;> rfl
theorem yv7 {b:Nat->Bool}{ls:List Ln}(d:p<k)(c:b p=true):(few b ls k)[pos b p]?=some ((ls.getD p .still).ren (pos b)):=by
 induction k with
 | zero=>exact absurd d (bR _)
 | succ k ih =>
  rw[few_succ];by_cases e:p=k
  .subst e;rw[aI (by rw[few_len];exact af _),few_len,bQ,if_pos c];rfl
  .have a:p<k:=by lia
   rw[aE (by rw[few_len];exact zt0 a c)];exact ih a
theorem yi1 {b:Nat->Bool}{ls:List Ln}(h:(few b ls k)[q]?=some l):∃p,p<k/\b p=true/\q=pos b p/\l=(ls.getD p .still).ren (pos b):=by
 induction k with
 | zero=>cases h
 | succ k ih =>
  rw[few_succ]at h;by_cases d:q<(few b ls k).length
  .rw[aE d]at h;obtain⟨p,h1,h2,f,g⟩:=ih h;exact⟨p,by lia,h2,f,g⟩
  .by_cases a:b k=true
   .rw[if_pos a]at h;have c:=(ag.mp h).1;rw[ao,av,bO]at c;have e:q=(few b ls k).length:=by lia
    subst e;rw[aI (af _),bQ]at h
    cases h
    exact⟨k,by lia,a,few_len b ls k,rfl⟩
   .rw[if_neg a,bu]at h;exact absurd (ag.mp h).1 d
theorem getD_ln {ls:List Ln}(h:ls[p]?=some l):ls.getD p .still=l:=by rw[ah,h];rfl
section
variable {c:Nat}{ls:List Ln}(hR:Rec c ls)(hne:ls≠[])
include hR hne
noncomputable def stay (ls:List Ln):List Ln:=few (nb ls) ls ls.length
theorem stay_rec:Rec c (stay ls):=λq l hl=>by
 obtain⟨p,hp,hb,hq,rfl⟩:=yi1 hl
 have hlp:ls[p]?=some ls[p]:=aa hp
 rw[getD_ln hlp]
 have hok:=hR p _ hlp
 generalize ls[p]=m at hok hlp
 cases m with
 | still=>trivial
 | told k=>exact hok
 | behind i j=>rw[hq];exact⟨zt0 hok.1 (nb_step hb hlp aw),zt0 hok.2 (nb_step hb hlp (ar _ aw))⟩
 | back i=>rw[hq];exact zt0 hok (nb_step hb hlp aw)
theorem stay_len:(stay ls).length=pos (nb ls) (ls.length-1)+1:=by
 have a:0<ls.length:=cp.mpr hne;unfold stay;rw[few_len]
 conv=>lhs;rw[show ls.length=ls.length-1+1 by lia]
 rw[zg4,if_pos nb_last]
theorem stay_ne:stay ls≠[]:=λz=>by
 have:=stay_len hR hne
 rw[z]at this
 simp at this
theorem yt7 (d:nb ls p=true)(a:p<ls.length)(h:N2 ls p q):N2 (stay ls) (pos (nb ls) p) (pos (nb ls) q):=by
 induction h with
 | self p=>exact .self _
 | @«by» p r q l hl hr h ih =>
  have b:=nb_step d hl hr;have c:r<ls.length:=dw ((hR p l hl).lt hr) a;refine .by (l:=l.ren (pos (nb ls))) ?_ ?_ (ih b c)
  .have:=yv7 (ls:=ls) a d;rw[getD_ln hl]at this;exact this
  .rw[Ln.ren_refs];exact az.mpr ⟨r,hr,rfl⟩
theorem stay_all (b:q<(stay ls).length):nb (stay ls) q=true:=by
 obtain⟨p,d,a,e,_⟩:=yi1 (ls:=ls) (k:=ls.length) (aa (l:=stay ls) b);have c:0<ls.length:=cp.mpr hne;rw[nb_iff,e,stay_len hR hne,eF];exact yt7 hR hne nb_last (by lia) (nb_iff.mp a)
end
def bkT (n:Nat)(t:List Nat):List Nat:=(List.range n).map λy=>t.idxOf y
theorem bkT_back (hT:IsT n t):Back n t n (bkT n t):=by
 refine⟨by unfold bkT;rw[ae,aU],λx y f b=>?_⟩;have c:=hT.get_lt b;unfold bkT;rw[al,aZ c];have d:y∈t:=au b;have a:=cH d;have e:t[t.idxOf y]?=some y:=by rw[aa a];simp
 exact congrArg some (hT.inj e b)
def comp (s t:List Nat):List Nat:=s.map λx=>t.getD x 0
def Ln.mk (n:Nat)(ms:List (List Nat))(made:List (List Nat)):Ln->List Nat
 | .still=>List.range n
 | .told k=>ms.getD k []
 | .behind i j=>comp (made.getD i []) (made.getD j [])
 | .back i=>bkT n (made.getD i [])
def mkAll (n:Nat)(ms:List (List Nat))(ls:List Ln):List (List Nat):=ls.foldl (λmade l=>made++[l.mk n ms made]) []
theorem mkAll_snoc (n:Nat)(ms:List (List Nat))(ls:List Ln)(l:Ln):mkAll n ms (ls++[l])=mkAll n ms ls++[l.mk n ms (mkAll n ms ls)]:=by
 unfold mkAll;rw[eJ];rfl
theorem mkAll_len (n:Nat)(ms:List (List Nat))(ls:List Ln):(mkAll n ms ls).length=ls.length:=by
 have key:∀(ls:List Ln) (a:List (List Nat)),(ls.foldl (λmade l=>made++[l.mk n ms made]) a).length=a.length+ls.length:=by
  intro ls
  induction ls with
  | nil=>intro a;rfl
  | cons l r ih=>intro a;rw[dO,ih,ao,av,av,bO];lia
 unfold mkAll;rw[key];simp
theorem take_snocL {ls:List Ln}(h:ls[p]?=some l):ls.take (p+1)=ls.take p++[l]:=by rw[aT,h];rfl
theorem mkAll_take (n:Nat)(ms:List (List Nat))(ls:List Ln):∀k,(mkAll n ms ls).take k=mkAll n ms (ls.take k):=by
 intro k
 induction k with
 | zero=>rfl
 | succ k ih =>
  by_cases h:k<ls.length
  .have d:ls[k]?=some ls[k]:=aa h;rw[take_snocL d,mkAll_snoc,←ih,aT];congr 1;have e:mkAll n ms ls=mkAll n ms (ls.take (k+1))++(mkAll n ms ls).drop (k+1):=by
    have key:∀(a b:List Ln),∃r,mkAll n ms (a++b)=mkAll n ms a++r:=by
     intro a b
     induction b generalizing a with
     | nil=>exact⟨[],by simp⟩
     | cons x r ihb =>
      obtain⟨s,f⟩:=ihb (a++[x]);rw[mkAll_snoc]at f;refine⟨[x.mk n ms (mkAll n ms a)]++s,?_⟩;rw[←ba,←f,ba];rfl
    obtain⟨r,hr⟩:=key (ls.take (k+1)) (ls.drop (k+1));rw[bM]at hr;rw[hr];have c:(mkAll n ms (ls.take (k+1))).length=k+1:=by rw[mkAll_len,aK];lia
    rw[List.drop_left' c]
   have g:(mkAll n ms ls)[k]?=some (ls[k].mk n ms (mkAll n ms (ls.take k))):=by
    rw[e,aE (by rw[mkAll_len,aK];lia),take_snocL d,mkAll_snoc,aI (by rw[mkAll_len,aK];lia),mkAll_len,aK,show k-min k ls.length=0 by lia];rfl
   rw[g,ih];rfl
  .rw[aV (by rw[mkAll_len];lia),aV (by lia)]
theorem mkAll_get {l:Ln}(h:ls[p]?=some l):(mkAll n ms ls)[p]?=some (l.mk n ms ((mkAll n ms ls).take p)):=by
 have a:=(ag.mp h).1;have e:(mkAll n ms ls)[p]?=((mkAll n ms ls).take (p+1))[p]?:=by rw[bN (by lia)]
 rw[e,mkAll_take,take_snocL h,mkAll_snoc,aI (by rw[mkAll_len,aK];lia),mkAll_len,aK,show p-min p ls.length=0 by lia,mkAll_take];rfl
theorem getD_take {α:Type}{l:List α}{d:α}(h:r<p):(l.take p).getD r d=l.getD r d:=by
 rw[ah,ah,bN h]
theorem Ln.mk_congr {ms a b:List (List Nat)}{f:Nat->Nat}{l:Ln}(h:∀r∈l.refs,a.getD r []=b.getD (f r) []):l.mk n ms a=(l.ren f).mk n ms b:=by
 cases l with
 | still=>rfl
 | told k=>rfl
 | behind i j =>
  have h1:=h i aw;have h2:=h j (ar _ aw);show comp (a.getD i []) (a.getD j [])=comp (b.getD (f i) []) (b.getD (f j) []);rw[h1,h2]
 | back i =>
  have h1:=h i aw;show bkT n (a.getD i [])=bkT n (b.getD (f i) []);rw[h1]
theorem stay_mk {ls:List Ln}(hR:Rec c ls)(hne:ls≠[]):∀p,p<ls.length->nb ls p=true->(mkAll n ms ls).getD p []=(mkAll n ms (stay ls)).getD (pos (nb ls) p) []:=by
 intro p
 induction p using Nat.strongRecOn with
 | _ p ih =>
  intro f e;have d:ls[p]?=some ls[p]:=aa f;have h2:=yv7 (ls:=ls) f e;rw[getD_ln d]at h2;have g:=mkAll_get (n:=n) (ms:=ms) d;have h:=mkAll_get (n:=n) (ms:=ms) (ls:=stay ls) h2;rw[ah,ah,g,h];simp only[cn];refine Ln.mk_congr λr hr=>?_;have a:=(hR p _ d).lt hr;have b:=nb_step e d hr;rw[getD_take a,getD_take (zt0 a b)];exact ih r a (by lia) b
theorem mkAll_isT {ms:List (List Nat)}(hR:Rec c ls)(hc:c=ms.length)(e:∀m∈ms,IsT n m):∀t∈mkAll n ms ls,IsT n t:=by
 have key:∀p,p<ls.length->IsT n ((mkAll n ms ls).getD p []):=by
  intro p
  induction p using Nat.strongRecOn with
  | _ p ih =>
   intro d;have h:ls[p]?=some ls[p]:=aa d;have a:=hR p _ h;rw[ah,mkAll_get h];simp only[cn];generalize ls[p]=l at a
   cases l with
   | still=>exact IsT.range n
   | told k =>
    have g:k<ms.length:=by rw[←hc];exact a
    show IsT n (ms.getD k []);rw[ah,aa g];exact e _ (bw g)
   | behind i j =>
    have h1:=ih i a.1 (by have:=a.1;lia);have h2:=ih j a.2 (by have:=a.2;lia);show IsT n (comp (((mkAll n ms ls).take p).getD i []) (((mkAll n ms ls).take p).getD j []));rw[getD_take a.1,getD_take a.2];exact h1.map h2
   | back i =>
    have b:i<p:=a;have h1:=ih i b (by lia);show IsT n (bkT n (((mkAll n ms ls).take p).getD i []));rw[getD_take b];exact(bkT_back h1).isT h1
 intro t o;obtain⟨p,d⟩:=ck o;have f:p<ls.length:=by have:=(ag.mp d).1;rwa [mkAll_len]at this
 have:=key p f;rw[ah,d]at this;exact this
end TM
namespace TM
def beh (t u:List Nat):List Nat:=t.map λx=>u.getD x 0
def bk (n:Nat)(t:List Nat):List Nat:=(List.range n).map λy=>t.idxOf y
theorem IsT.beh (ht:IsT n t)(hu:IsT n u):IsT n (TM.beh t u):=IsT.map ht hu
theorem beh_get {t u:List Nat}(a:IsT n t)(b:x<n):(TM.beh t u).getD x 0=u.getD (t.getD x 0) 0:=by
 unfold TM.beh;rw[ah,al,a.get_step b];rfl
theorem still_get (a:x<n):(List.range n).getD x 0=x:=by
 rw[ah,aZ a];rfl
theorem T6 {a b:List Nat}(c:IsT n a)(d:IsT n b)(h:∀x,x<n->a.getD x 0=b.getD x 0):a=b:=by
 apply cI;intro i;by_cases hi:i<n
 .rw[c.get_step hi,d.get_step hi,h i hi]
 .rw[aQ (by rw[c.length];lia),aQ (by rw[d.length];lia)]
theorem n5 (ha:IsT n a)(hb:IsT n b)(hc:IsT n c):beh (beh a b) c=beh a (beh b c) :=
 T6 ((ha.beh hb).beh hc) (ha.beh (hb.beh hc)) λx hx=>by rw[beh_get (ha.beh hb) hx,beh_get ha hx,beh_get ha hx,beh_get hb (ha.step_lt hx)]
theorem still_beh (ht:IsT n t):beh (List.range n) t=t :=
 T6 ((IsT.range n).beh ht) ht λx hx=>by rw[beh_get (IsT.range n) hx,still_get hx]
theorem beh_still (ht:IsT n t):beh t (List.range n)=t :=
 T6 (ht.beh (IsT.range n)) ht λx hx=>by rw[beh_get ht hx,still_get (ht.step_lt hx)]
theorem S0:∀{l:List Nat} {i x:Nat},l.Nodup->l[i]?=some x->l.idxOf x=i
 | a::r,0,x,_,h=>by
  obtain rfl:a=x:=by simpa using h
  exact List.idxOf_cons_self
 | a::r,i+1,x,hn,h=>by
  have h':r[i]?=some x:=by simpa using h
  have hne:a≠x:=λe=>(aS.mp hn).1 (e ▸ au h')
  have ih:=S0 (aS.mp hn).2 h'
  rw[List.idxOf_cons,show(a==x)=false from beq_eq_false_iff_ne.mpr hne]
  show r.idxOf x+1=i+1
  rw[ih]
theorem J1 {t:List Nat}(a:IsT n t)(b:x<n):(bk n t).getD (t.getD x 0) 0=x:=by
 unfold bk;rw[ah,al,aZ (a.step_lt b)];exact S0 a.nodup (a.get_step b)
theorem bk_back (a:IsT n t):Back n t n (bk n t):=by
 refine⟨by unfold bk;rw[ae,aU],λx y c b=>?_⟩;unfold bk;rw[al,aZ (a.get_lt b)];exact congrArg some (S0 a.nodup b)
theorem IsT.bk (ht:IsT n t):IsT n (TM.bk n t):=(bk_back ht).isT ht
theorem zc4 (ht:IsT n t):beh t (bk n t)=List.range n :=
 T6 (ht.beh ht.bk) (IsT.range n) λx hx=>by rw[beh_get ht hx,J1 ht hx,still_get hx]
theorem yc7 {t:List Nat}(b:IsT n t)(d:y<n):t.getD ((bk n t).getD y 0) 0=y:=by
 obtain⟨x,c,a⟩:=b.hit d;have e:=getD_of c;rw[←e,J1 b a]
theorem yb5 (ht:IsT n t):beh (bk n t) t=List.range n :=
 T6 (ht.bk.beh ht) (IsT.range n) λx hx=>by rw[beh_get ht.bk hx,yc7 ht hx,still_get hx]
theorem xf9 (a:IsT n t):bk n (bk n t)=t:=by
 have h:=n5 a a.bk a.bk.bk;rw[zc4 a,zc4 a.bk,beh_still a,still_beh a.bk.bk]at h;exact h
theorem yb6 (ha:IsT n a)(hb:IsT n b):bk n (beh a b)=beh (bk n b) (bk n a) :=
 ((bk_back (ha.beh hb)).uniq (ha.beh hb) ((bk_back ha).comp ha hb (bk_back hb)))
theorem bk_still (n:Nat):bk n (List.range n)=List.range n:=(bk_back (IsT.range n)).uniq (IsT.range n) (Back.range n)
theorem zc5 (d:IsT n a)(f:IsT n b)(c:IsT n u)(h:beh a u=beh b u):a=b:=by
 have e:=congrArg (λz=>beh z (bk n u)) h;rwa [n5 d c c.bk,n5 f c c.bk,zc4 c,beh_still d,beh_still f]at e
theorem yg7 (d:IsT n a)(f:IsT n b)(c:IsT n u)(h:beh u a=beh u b):a=b:=by
 have e:=congrArg (λz=>beh (bk n u) z) h;rwa [←n5 c.bk c d,←n5 c.bk c f,yb5 c,still_beh d,still_beh f]at e
theorem off_on (b:IsT n x)(a:IsT n u):beh (beh x (bk n u)) u=x:=by rw[n5 b a.bk a,yb5 a,beh_still b]
theorem xk8 (b:IsT n x)(a:IsT n u):beh (beh x u) (bk n u)=x:=by rw[n5 b a a.bk,zc4 a,beh_still b]
inductive Grp (n:Nat) (S:List Nat->Prop):List Nat->Prop
 | one:Grp n S (List.range n)
 | mul {a s:List Nat}:Grp n S a->S s->Grp n S (beh a s)
 | inv {a s:List Nat}:Grp n S a->S s->Grp n S (beh a (bk n s))
section
variable {n:Nat}{S S':List Nat->Prop}(hS:∀s,S s->IsT n s)
include hS
theorem Grp.isT (h:Grp n S a):IsT n a:=by
 induction h with
 | one=>exact IsT.range n
 | mul _ hs ih=>exact ih.beh (hS _ hs)
 | inv _ hs ih=>exact ih.beh (hS _ hs).bk
theorem Grp.of (h:S s):Grp n S s:=by
 have:=Grp.mul (n:=n) (S:=S) .one h;rwa [still_beh (hS s h)]at this
theorem Grp.beh (d:Grp n S a)(e:Grp n S b):Grp n S (TM.beh a b):=by
 have c:=d.isT hS
 induction e with
 | one=>rw[beh_still c];exact d
 | mul h hs ih=>rw[←n5 c (h.isT hS) (hS _ hs)];exact .mul ih hs
 | inv h hs ih=>rw[←n5 c (h.isT hS) (hS _ hs).bk];exact .inv ih hs
theorem Grp.bk (b:Grp n S a):Grp n S (TM.bk n a):=by
 induction b with
 | one=>rw[bk_still];exact .one
 | mul h hs ih =>
  rw[yb6 (h.isT hS) (hS _ hs)];refine Grp.beh hS ?_ ih;have:=Grp.inv (n:=n) (S:=S) .one hs;rwa [still_beh (hS _ hs).bk]at this
 | inv h hs ih =>
  rw[yb6 (h.isT hS) (hS _ hs).bk,xf9 (hS _ hs)];exact Grp.beh hS (Grp.of hS hs) ih
omit hS in
theorem Grp.mono (b:∀s,S' s->IsT n s)(h:∀s,S s->Grp n S' s)(c:Grp n S a):Grp n S' a:=by
 induction c with
 | one=>exact .one
 | mul _ hs ih=>exact Grp.beh b ih (h _ hs)
 | inv _ hs ih=>exact Grp.beh b ih (Grp.bk b (h _ hs))
omit hS in
theorem Grp.keeps {P:List Nat->Prop}(h1:P (List.range n))(c:∀a s,P a->S s->P (TM.beh a s))(hi:∀a s,P a->S s->P (TM.beh a (TM.bk n s)))(b:Grp n S a):P a:=by
 induction b with
 | one=>exact h1
 | mul _ hs ih=>exact c _ _ ih hs
 | inv _ hs ih=>exact hi _ _ ih hs
end
def Fix (j:Nat)(t:List Nat):Prop:=∀x,x<j->t.getD x 0=x
theorem Fix.zero (t:List Nat):Fix 0 t:=λ_ h=>absurd h (bR _)
theorem Fix.still (hj:j<=n):Fix j (List.range n):=λx hx=>still_get (by lia)
theorem Fix.beh (hj:j<=n)(hA:IsT n a)(ha:Fix j a)(hb:Fix j b):Fix j (TM.beh a b):=λx hx=>by rw[beh_get hA (by lia),ha x hx,hb x hx]
theorem Fix.bk (hj:j<=n)(hA:IsT n a)(ha:Fix j a):Fix j (TM.bk n a):=λx hx=>by
 have h:=J1 hA (show x<n by lia)
 rwa [ha x hx]at h
theorem Fix.all (hA:IsT n a)(h:Fix n a):a=List.range n:=T6 hA (IsT.range n) λx hx=>by rw[h x hx,still_get hx]
theorem Grp.fix {S:List Nat->Prop}(hS:∀s,S s->IsT n s)(b:j<=n)(c:∀s,S s->Fix j s)(d:Grp n S a):Fix j a:=by
 induction d with
 | one=>exact Fix.still b
 | mul h hs ih=>exact Fix.beh b (h.isT hS) ih (c _ hs)
 | inv h hs ih=>exact Fix.beh b (h.isT hS) ih (Fix.bk b (hS _ hs) (c _ hs))
end TM
namespace TM
structure Chn where
 mv:Nat->List Nat->Prop
 ring:Nat->List Nat
 up:Nat->Nat->List Nat
structure Chn.Ok (n:Nat) (C:Chn):Prop where
 mvT:∀j s,C.mv j s->IsT n s
 mvF:∀j s,C.mv j s->Fix j s
 down:∀j s,C.mv (j+1) s->Grp n (C.mv j) s
 top:∀j s,n<=j->¬C.mv j s
 nd:∀j,j<n->(C.ring j).Nodup
 lt:∀j p,j<n->p∈C.ring j->p<n
 own:∀j,j<n->j∈C.ring j
 upG:∀j p,j<n->p∈C.ring j->Grp n (C.mv j) (C.up j p)
 upTo:∀j p,j<n->p∈C.ring j->(C.up j p).getD j 0=p
 upOwn:∀j,j<n->C.up j j=List.range n
def Chn.Shut (n:Nat)(C:Chn)(j:Nat):Prop:=∀p,p∈C.ring j->∀s,C.mv j s->s.getD p 0∈C.ring j/\Grp n (C.mv (j+1)) (beh (beh (C.up j p) s) (bk n (C.up j (s.getD p 0))))
def Chn.Sif (n:Nat)(C:Chn):Nat->List Nat->Prop
 | 0,_=>True
 | d+1,x=>x.getD (n-(d+1)) 0∈C.ring (n-(d+1))/\Chn.Sif n C d (beh x (bk n (C.up (n-(d+1)) (x.getD (n-(d+1)) 0))))
section
variable {n:Nat}{C:Chn}(ok:C.Ok n)
include ok
theorem Chn.Ok.upT (hj:j<n)(hp:p∈C.ring j):IsT n (C.up j p):=(ok.upG j p hj hp).isT (ok.mvT j)
theorem Chn.Ok.upF (hj:j<n)(hp:p∈C.ring j):Fix j (C.up j p):=(ok.upG j p hj hp).fix (ok.mvT j) (bp hj) (ok.mvF j)
theorem Chn.Ok.off {x:List Nat}(a:j<n)(f:IsT n x)(g:Fix j x)(c:x.getD j 0∈C.ring j):IsT n (beh x (bk n (C.up j (x.getD j 0))))/\Fix (j+1) (beh x (bk n (C.up j (x.getD j 0)))):=by
 have d:=ok.upT a c;refine⟨f.beh d.bk,λy i=>?_⟩;rw[beh_get f (by lia)];by_cases e:y=j
 .subst e;have h:=J1 d a;rw[ok.upTo y _ a c]at h;exact h
 .have b:y<j:=by lia
  rw[g y b];exact Fix.bk (bp a) d (ok.upF a c) y b
theorem Chn.Ok.sound:∀(d:Nat) (x:List Nat),d<=n->IsT n x->Fix (n-d) x->C.Sif n d x->Grp n (C.mv (n-d)) x
 | 0,x,_,hx,hf,_=>by
  rw[cE]at hf ⊢
  rw[Fix.all hx hf]
  exact .one
 | d+1,x,hd,hx,hf,h=>by
  have hj:n-(d+1)<n:=by lia
  obtain⟨b,c⟩:=h
  obtain⟨f,a⟩:=ok.off hj hx hf b
  have e:n-(d+1)+1=n-d:=by lia
  rw[e]at a
  have ih:=Chn.Ok.sound d _ (by lia) f a c
  rw[←e]at ih
  have g:=Grp.mono (ok.mvT _) (ok.down _) ih
  have r:=Grp.beh (ok.mvT _) g (ok.upG _ _ hj b)
  rwa [off_on hx (ok.upT hj b)]at r
theorem Chn.Ok.parts (g:j<n)(sh:C.Shut n j)(w:Grp n (C.mv j) x):∃p h,p∈C.ring j/\Grp n (C.mv (j+1)) h/\x=beh h (C.up j p):=by
 have hS:=ok.mvT j;have d:=ok.mvT (j+1)
 induction w with
 | one=>exact⟨j,_,ok.own j g,.one,by rw[ok.upOwn j g,still_beh (IsT.range n)]⟩
 | mul hg hs ih =>
  rename_i a s;obtain⟨p,h,o,m,rfl⟩:=ih;obtain⟨k,l⟩:=sh p o s hs;have f:=m.isT d;have i:=ok.upT g o;have c:=ok.upT g k;refine⟨_,_,k,Grp.beh d m l,?_⟩;rw[n5 f ((i.beh (hS s hs)).beh c.bk) c,off_on (i.beh (hS s hs)) c,n5 f i (hS s hs)]
 | inv hg hs ih =>
  rename_i a s;obtain⟨p,h,o,m,rfl⟩:=ih;have b:=hS s hs;obtain⟨q,k,e⟩:∃q∈C.ring j,s.getD q 0=p:=by
   have r:((C.ring j).map λq=>s.getD q 0).Nodup:=bx.mpr (List.Pairwise.imp_of_mem (λu v hne z=>hne (b.step_inj (ok.lt j _ g u) (ok.lt j _ g v) z)) (ok.nd j g));have t:=N7 r (λy A=>by
    obtain⟨q,k,rfl⟩:=az.mp A
    exact(sh q k s hs).1) (by rw[ae];exact af _)
   exact az.mp (t.mem_iff.mpr o)
  subst e;obtain⟨_,l⟩:=sh q k s hs;have f:=m.isT d;have i:=ok.upT g o;have c:=ok.upT g k;refine⟨q,_,k,Grp.beh d m (Grp.bk d l),?_⟩;rw[yb6 (c.beh b) i.bk,xf9 i,yb6 c b,n5 f (i.beh (b.bk.beh c.bk)) c,n5 i (b.bk.beh c.bk) c,n5 b.bk c.bk c,yb5 c,beh_still b.bk,n5 f i b.bk]
theorem Chn.Ok.complete:∀(d:Nat) (x:List Nat),d<=n->(∀j,n-d<=j->j<n->C.Shut n j)->Grp n (C.mv (n-d)) x->C.Sif n d x
 | 0,_,_,_,_=>trivial
 | d+1,x,hd,sh,hx=>by
  have hj:n-(d+1)<n:=by lia
  have e:n-(d+1)+1=n-d:=by lia
  obtain⟨p,h,c,b,rfl⟩:=ok.parts hj (sh _ (af _) hj) hx
  have a:=b.isT (ok.mvT _)
  have g:=b.fix (ok.mvT _) (by lia) (ok.mvF _)
  have k:=ok.upT hj c
  have f:(beh h (C.up (n-(d+1)) p)).getD (n-(d+1)) 0=p:=by
   rw[beh_get a hj,g _ (by lia),ok.upTo _ _ hj c]
  refine⟨by rw[f];exact c,?_⟩
  rw[f,xk8 a k]
  rw[e]at b
  exact Chn.Ok.complete d h (by lia) (λi hi=>sh i (by lia)) b
theorem Chn.Ok.sift (hd:d<=n)(hx:IsT n x)(hf:Fix (n-d) x)(sh:∀j,n-d<=j->j<n->C.Shut n j):C.Sif n d x↔Grp n (C.mv (n-d)) x :=
 ⟨ok.sound d x hd hx hf,ok.complete d x hd sh⟩
theorem Chn.Ok.genF (hj:j<=n)(hx:Grp n (C.mv j) x):Fix j x:=hx.fix (ok.mvT j) hj (ok.mvF j)
end
def Indep (n:Nat)(l:List (List Nat)):Prop:=∀i s,l[i]?=some s->¬Grp n (λz=>z∈l.take i) s
theorem Indep.snoc (h:Indep n l)(hs:¬Grp n (λz=>z∈l) s):Indep n (l++[s]):=λi z hz hg=>by
 by_cases hi:i<l.length
 .rw[aE hi]at hz
  rw[bL (bp hi)]at hg
  exact h i z hz hg
 .have:i=l.length:=by
   have:=(ag.mp hz).1
   rw[ao,aW]at this
   lia
  subst this
  rw[aI (af _),bQ]at hz
  obtain rfl:s=z:=by simpa using hz
  rw[bL (af _),bD]at hg
  exact hs hg
theorem Indep.init (h:Indep n (l++[s])):Indep n l/\¬Grp n (λz=>z∈l) s:=by
 refine⟨λi z b a=>?_,λa=>?_⟩
 .have hi:=(ag.mp b).1;refine h i z (by rw[aE hi];exact b) ?_;rw[bL (bp hi)];exact a
 .refine h l.length s (by rw[aI (af _),bQ];rfl) ?_;rw[bL (af _),bD];exact a
theorem zq9 :∀(k:Nat) (l:List (List Nat)),l.length=k->(∀s∈l,IsT n s)->Indep n l->∃L:List (List Nat),L.Nodup/\(∀x∈L,Grp n (λz=>z∈l) x)/\L.length=2 ^ k
 | 0,l,_,_,_=>⟨[List.range n],by simp,λx hx=>by rw[aq.mp hx];exact .one,rfl⟩
 | k+1,l,hl,hT,hI=>by
  have hne:l≠[]:=λe=>by rw[e]at hl;cases hl
  obtain⟨l0,s,rfl⟩:∃l0 s,l=l0++[s]:=⟨l.dropLast,l.getLast hne,(eX hne).symm⟩
  rw[ao,aW]at hl
  obtain⟨hI0,hs⟩:=hI.init
  have hT0:∀z∈l0,IsT n z:=λz hz=>hT z (aR _ hz)
  have hsT:IsT n s:=hT s (by simp)
  obtain⟨L,hnd,hG,hLl⟩:=zq9 k l0 (by lia) hT0 hI0
  have up:∀x,Grp n (λz=>z∈l0) x->Grp n (λz=>z∈l0++[s]) x:=λx hx=>Grp.mono (λz hz=>hT z hz) (λz hz=>Grp.of (λz hz=>hT z hz) (aR _ hz)) hx
  refine⟨L++L.map λx=>beh x s,?_,λx hx=>?_,by rw[ao,ae,hLl,fX];lia⟩
  .refine bz.mpr ⟨hnd,bx.mpr (List.Pairwise.imp_of_mem (λha hb hne z=>hne (zc5 ((hG _ ha).isT hT0) ((hG _ hb).isT hT0) hsT z)) hnd),λa ha b hb e=>?_⟩
   obtain⟨c,hc,rfl⟩:=az.mp hb
   subst e
   have hcT:=(hG c hc).isT hT0
   have g:=Grp.beh hT0 (Grp.bk hT0 (hG c hc)) (hG _ ha)
   rw[←n5 hcT.bk hcT hsT,yb5 hcT,still_beh hsT]at g
   exact hs g
  .rcases aH.mp hx with h|h
   .exact up x (hG x h)
   .obtain⟨c,hc,rfl⟩:=az.mp h
    exact .mul (up c (hG c hc)) (by simp)
def num (n:Nat):List Nat->Nat
 | []=>0
 | x::r=>x+n*num n r
theorem num_lt :∀{l:List Nat},(∀x∈l,x<n)->num n l<n ^ l.length
 | [],_=>by simp[num]
 | x::r,h=>by
  have ih:=num_lt (l:=r) λy hy=>h y (ar _ hy)
  have hx:=h x aw
  rw[num,av,fX,eN (n ^ r.length) n]
  have:n*(num n r+1)<=n*n ^ r.length:=Nat.mul_le_mul_left n ih
  rw[Nat.mul_add,fA]at this
  lia
theorem num_inj :∀{l m:List Nat},(∀x∈l,x<n)->(∀x∈m,x<n)->l.length=m.length->num n l=num n m->l=m
 | [],[],_,_,_,_=>rfl
 | x::r,y::q,h1,h2,hl,e=>by
  have hx:=h1 x aw
  have hy:=h2 y aw
  rw[num,num]at e
  have e1:x=y:=by
   have:=congrArg (· % n) e
   simpa[Nat.add_mul_mod_self_left,eU hx,eU hy] using this
  subst e1
  have e2:n*num n r=n*num n q:=by lia
  have e3:=Nat.eq_of_mul_eq_mul_left (by lia) e2
  rw[num_inj (λz hz=>h1 z (ar _ hz)) (λz hz=>h2 z (ar _ hz)) (by simpa using hl) e3]
 | [],_::_,_,_,hl,_=>by cases hl
 | _::_,[],_,_,hl,_=>by cases hl
theorem nodup_below {l:List Nat}(h:l.Nodup)(hl:∀x∈l,x<M):l.length<=M:=by
 rcases Nat.le_total l.length M with q|q
 .exact q
 .have p:=N7 h (l:=List.range M) (λx a=>cr.mpr (hl x a)) (by rw[aU];exact q);rw[p.length_eq,aU];exact af _
theorem turnings_few {L:List (List Nat)}(h:L.Nodup)(hT:∀t∈L,IsT n t):L.length<=n ^ n:=by
 have h1:(L.map (num n)).Nodup:=bx.mpr (List.Pairwise.imp_of_mem (λb c hne z=>hne (num_inj (λx a=>(hT _ b).lt a) (λx a=>(hT _ c).lt a) (by rw[(hT _ b).length,(hT _ c).length]) z)) h);have h2:=nodup_below (M:=n ^ n) h1 λx a=>by
  obtain⟨t,d,rfl⟩:=az.mp a;have:=num_lt (n:=n) (l:=t) λy e=>(hT t d).lt e;rwa [(hT t d).length]at this
 rwa [ae]at h2
set_option exponentiation.threshold 1000 in
theorem indep_few (a:n<=60){l:List (List Nat)}(hT:∀s∈l,IsT n s)(d:Indep n l):l.length<=354:=by
 obtain⟨L,h1,h2,b⟩:=zq9 l.length l rfl hT d;have c:=turnings_few h1 λt e=>(h2 t e).isT hT;rw[b]at c;have f:n ^ n<=60 ^ 60:=aD (Nat.pow_le_pow_left a n) (dW (by decide) a);have g:(60:Nat) ^ 60<2 ^ 355:=by decide
 rcases cF 354 l.length with q|q
 .have:=dW (show 0<2 by decide) (show 355<=l.length from q);lia
 .exact q
end TM
namespace TM
def Chn.Good (n:Nat)(C:Chn)(j p:Nat)(s:List Nat):Prop:=s.getD p 0∈C.ring j/\Grp n (C.mv (j+1)) (beh (beh (C.up j p) s) (bk n (C.up j (s.getD p 0))))
structure Chn.MoreP (n:Nat) (C C':Chn) (j q:Nat) (t:List Nat):Prop where
 hj:j<n
 hq:q∉C.ring j
 hqn:q<n
 gt:Grp n (C.mv j) t
 ht:t.getD j 0=q
 emv:C'.mv=C.mv
 er:C'.ring j=C.ring j++[q]
 er':∀i,i≠j->C'.ring i=C.ring i
 eu:∀p,p≠q->C'.up j p=C.up j p
 eq:C'.up j q=t
 eu':∀i,i≠j->C'.up i=C.up i
theorem Chn.MoreP.sub {C C':Chn}(m:Chn.MoreP n C C' j q t)(a:p∈C.ring i):p∈C'.ring i/\C'.up i p=C.up i p:=by
 by_cases e:i=j
 .subst e;exact⟨by rw[m.er];exact aR _ a,m.eu p λz=>m.hq (z ▸ a)⟩
 .exact⟨by rw[m.er' i e];exact a,by rw[m.eu' i e]⟩
theorem Chn.MoreP.cases {C C':Chn}(m:Chn.MoreP n C C' j q t)(a:p∈C'.ring i):p∈C.ring i∨(i=j/\p=q):=by
 by_cases e:i=j
 .subst e;rw[m.er]at a;rcases aH.mp a with h|h
  .exact .inl h
  .exact .inr ⟨rfl,aq.mp h⟩
 .rw[m.er' i e]at a;exact .inl a
theorem Chn.MoreP.ok {n:Nat}{C C':Chn}{j q:Nat}{t:List Nat}(m:Chn.MoreP n C C' j q t)(ok:C.Ok n):C'.Ok n where
 mvT:=by rw[m.emv];exact ok.mvT
 mvF:=by rw[m.emv];exact ok.mvF
 down:=by rw[m.emv];exact ok.down
 top:=by rw[m.emv];exact ok.top
 nd i hi:=by
  by_cases e:i=j
  .subst e
   rw[m.er]
   refine bz.mpr ⟨ok.nd i hi,by simp,λa c b d e=>m.hq ?_⟩
   rw[←aq.mp d,←e]
   exact c
  .rw[m.er' i e];exact ok.nd i hi
 lt i p hi hp:=by
  rcases m.cases hp with h|⟨_,h⟩
  .exact ok.lt i p hi h
  .rw[h];exact m.hqn
 own i hi:=(m.sub (ok.own i hi)).1
 upG i p hi hp:=by
  rw[m.emv]
  rcases m.cases hp with h|⟨h1,h2⟩
  .rw[(m.sub h).2];exact ok.upG i p hi h
  .rw[h1,h2,m.eq];exact m.gt
 upTo i p hi hp:=by
  rcases m.cases hp with h|⟨h1,h2⟩
  .rw[(m.sub h).2];exact ok.upTo i p hi h
  .rw[h1,h2,m.eq];exact m.ht
 upOwn i hi:=by rw[(m.sub (ok.own i hi)).2];exact ok.upOwn i hi
theorem Chn.MoreP.good {C C':Chn}(m:Chn.MoreP n C C' j q t)(a:p∈C.ring i)(g:C.Good n i p s):C'.Good n i p s:=by
 refine⟨(m.sub g.1).1,?_⟩;rw[m.emv,(m.sub a).2,(m.sub g.1).2];exact g.2
theorem Chn.MoreP.new {C C':Chn}(m:Chn.MoreP n C C' j q t)(ok:C.Ok n)(a:p∈C.ring j)(c:C.mv j s)(e:t=beh (C.up j p) s):C'.Good n j p s:=by
 have b:=ok.upT m.hj a;have es:s.getD p 0=q:=by
  have h:=m.ht;rw[e,beh_get b m.hj,ok.upTo j p m.hj a]at h;exact h
 unfold Chn.Good;rw[es];refine⟨by rw[m.er];simp,?_⟩;rw[m.eq,(m.sub a).2,e,zc4 (b.beh (ok.mvT j s c))];exact .one
structure Chn.MoreM (n:Nat) (C C':Chn) (i:Nat) (t:List Nat):Prop where
 hi:i<n
 tT:IsT n t
 tF:Fix i t
 dn:∀h,h+1=i->Grp n (C.mv h) t
 emv:∀h s,C'.mv h s↔(C.mv h s∨(h=i/\s=t))
 er:C'.ring=C.ring
 eu:C'.up=C.up
section
variable {n:Nat}{C C':Chn}{i:Nat}{t:List Nat}
theorem Chn.MoreM.mvT (m:Chn.MoreM n C C' i t)(ok:C.Ok n)(h:Nat)(s:List Nat)(a:C'.mv h s):IsT n s:=by
 rcases (m.emv h s).mp a with q|⟨_,q⟩
 .exact ok.mvT h s q
 .rw[q];exact m.tT
theorem Chn.MoreM.grp (m:Chn.MoreM n C C' i t)(ok:C.Ok n)(hs:Grp n (C.mv h) s):Grp n (C'.mv h) s:=Grp.mono (m.mvT ok h) (λz hz=>Grp.of (m.mvT ok h) ((m.emv h z).mpr (.inl hz))) hs
theorem Chn.MoreM.ok (m:Chn.MoreM n C C' i t)(ok:C.Ok n):C'.Ok n where
 mvT:=m.mvT ok
 mvF h s hs:=by
  rcases (m.emv h s).mp hs with q|⟨e,q⟩
  .exact ok.mvF h s q
  .rw[q,e];exact m.tF
 down h s hs:=by
  rcases (m.emv _ s).mp hs with q|⟨e,q⟩
  .exact m.grp ok (ok.down h s q)
  .rw[q];exact m.grp ok (m.dn h e)
 top h s hn hs:=by
  rcases (m.emv h s).mp hs with q|⟨e,q⟩
  .exact ok.top h s hn q
  .have:=m.hi;lia
 nd:=by rw[m.er];exact ok.nd
 lt:=by rw[m.er];exact ok.lt
 own:=by rw[m.er];exact ok.own
 upG h p hh hp:=by
  rw[m.er]at hp;rw[m.eu];exact m.grp ok (ok.upG h p hh hp)
 upTo:=by rw[m.er,m.eu];exact ok.upTo
 upOwn:=by rw[m.eu];exact ok.upOwn
theorem Chn.MoreM.good (m:Chn.MoreM n C C' i t)(ok:C.Ok n)(g:C.Good n h p s):C'.Good n h p s:=by
 unfold Chn.Good;rw[m.er,m.eu];exact⟨g.1,m.grp ok g.2⟩
theorem Chn.MoreM.new (m:Chn.MoreM n C C' (j+1) t)(ok:C.Ok n){s:List Nat}(a:s.getD p 0∈C.ring j)(e:t=beh (beh (C.up j p) s) (bk n (C.up j (s.getD p 0)))):C'.Good n j p s:=by
 unfold Chn.Good;rw[m.er,m.eu];refine⟨a,?_⟩;rw[←e];exact Grp.of (m.mvT ok _) ((m.emv _ t).mpr (.inr ⟨rfl,rfl⟩))
theorem Chn.Ok.schreier (ok:C.Ok n){s:List Nat}(a:j<n)(b:p∈C.ring j)(d:C.mv j s)(c:s.getD p 0∈C.ring j):Grp n (C.mv j) (beh (beh (C.up j p) s) (bk n (C.up j (s.getD p 0))))/\Fix (j+1) (beh (beh (C.up j p) s) (bk n (C.up j (s.getD p 0)))):=by
 have hS:=ok.mvT j;have f:=ok.upT a b;have g:Grp n (C.mv j) (beh (C.up j p) s):=.mul (ok.upG j p a b) d;refine⟨Grp.beh hS g (Grp.bk hS (ok.upG j _ a c)),?_⟩;have e:(beh (C.up j p) s).getD j 0=s.getD p 0:=by rw[beh_get f a,ok.upTo j p a b]
 have h:=(ok.off a (f.beh (hS s d)) (g.fix hS (bp a) (ok.mvF j)) (by rw[e];exact c)).2;rwa [e]at h
end
end TM
namespace TM
def Chn.many (n:Nat)(C:Chn):Nat->Nat
 | 0=>1
 | d+1=>(C.ring (n-(d+1))).length*Chn.many n C d
theorem zz3 {α:Type}(f:Nat->List α)(m:Nat):∀(l:List Nat),(∀p∈l,(f p).length=m)->(l.flatMap f).length=l.length*m
 | [],_=>by simp
 | p::l,h=>by
  rw[fD,ao,h p aw,zz3 f m l (λq hq=>h q (ar _ hq)),av,fW,eP]
theorem zl8 {α:Type}(f:Nat->List α):∀(l:List Nat),l.Nodup->(∀p∈l,(f p).Nodup)->(∀p∈l,∀q∈l,∀x,x∈f p->x∈f q->p=q)->(l.flatMap f).Nodup
 | [],_,_,_=>by simp
 | p::l,hn,h1,h2=>by
  rw[fD]
  refine bz.mpr ⟨h1 p aw,zl8 f l (aS.mp hn).2 (λq hq=>h1 q (ar _ hq)) (λq hq r hr=>h2 q (ar _ hq) r (ar _ hr)),λa ha b hb e=>?_⟩
  subst e
  obtain⟨q,hq,hx⟩:=eS.mp hb
  have:=h2 p aw q (ar _ hq) a ha hx
  exact(aS.mp hn).1 (this ▸ hq)
section
variable {n:Nat}{C:Chn}(ok:C.Ok n)
include ok
theorem Chn.Ok.all:∀(d:Nat),d<=n->(∀j,n-d<=j->j<n->C.Shut n j)->∃L:List (List Nat),L.Nodup/\(∀x,x∈L↔Grp n (C.mv (n-d)) x)/\L.length=C.many n d
 | 0,_,_=>⟨[List.range n],by simp,λx=>⟨λh=>by rw[aq.mp h];exact .one,λh=>by
   rw[cE]at h
   have hT:=h.isT (ok.mvT n)
   rw[Fix.all hT (ok.genF (af n) h)]
   exact aq.mpr rfl⟩,rfl⟩
 | d+1,hd,sh=>by
  have hj:n-(d+1)<n:=by lia
  have e:n-(d+1)+1=n-d:=by lia
  obtain⟨L,s,i,v⟩:=Chn.Ok.all d (by lia) (λj h1 h2=>sh j (by lia) h2)
  have a:∀h,h∈L->IsT n h/\Fix (n-(d+1)+1) h:=λh f=>by
   have g:=(i h).mp f
   rw[e]
   exact⟨g.isT (ok.mvT _),ok.genF (by lia) g⟩
  refine⟨(C.ring (n-(d+1))).flatMap λp=>L.map λh=>beh h (C.up (n-(d+1)) p),?_,λx=>⟨λh=>?_,λh=>?_⟩,?_⟩
  .refine zl8 _ _ (ok.nd _ hj) (λp c=>?_) (λp c q w x l y=>?_)
   .exact bx.mpr (List.Pairwise.imp_of_mem (λt u hne z=>hne (zc5 (a _ t).1 (a _ u).1 (ok.upT hj c) z)) s)
   .obtain⟨h,f,rfl⟩:=az.mp l
    obtain⟨k,b,r⟩:=az.mp y
    have m:(beh h (C.up (n-(d+1)) p)).getD (n-(d+1)) 0=p:=by
     rw[beh_get (a _ f).1 hj,(a _ f).2 _ (by lia),ok.upTo _ _ hj c]
    have o:(beh k (C.up (n-(d+1)) q)).getD (n-(d+1)) 0=q:=by
     rw[beh_get (a _ b).1 hj,(a _ b).2 _ (by lia),ok.upTo _ _ hj w]
    rw[←m,←o,r]
  .obtain⟨p,c,l⟩:=eS.mp h
   obtain⟨k,b,rfl⟩:=az.mp l
   have g:=(i k).mp b
   rw[←e]at g
   exact Grp.beh (ok.mvT _) (Grp.mono (ok.mvT _) (ok.down _) g) (ok.upG _ _ hj c)
  .obtain⟨p,k,c,b,rfl⟩:=ok.parts hj (sh _ (af _) hj) h
   rw[e]at b
   exact eS.mpr ⟨p,c,az.mpr ⟨k,(i k).mpr b,rfl⟩⟩
  .rw[zz3 _ L.length _ (λp _=>ae _),v]
   rfl
end
end TM
namespace TM
theorem yl1 {α:Type}[DecidableEq α]:∀{t l:List α},t.Nodup->(∀x∈t,x∈l)->l.length<=t.length->t.Perm l
 | [],l,_,_,h=>by
  have:l=[]:=cv.mp (by simpa using h)
  rw[this]
 | a::t,l,hn,hs,h=>by
  have ha:a∈l:=hs a aw
  have hp:=List.perm_cons_erase ha
  have hn':=aS.mp hn
  have hl:(l.erase a).length<=t.length:=by
   have:=hp.length_eq
   rw[av]at this h
   lia
  refine List.Perm.trans (List.Perm.cons a (yl1 hn'.2 (λx hx=>?_) hl)) hp.symm
  have hne:x≠a:=λe=>hn'.1 (e ▸ hx)
  exact(de hne).mpr (hs x (ar _ hx))
theorem grp_closed {S L:List (List Nat)}(hS:∀s∈S,IsT n s)(g:L.Nodup)(h1:List.range n∈L)(hG:∀x∈L,Grp n (λz=>z∈S) x)(hc:∀x∈L,∀s∈S,beh x s∈L)(x:List Nat):x∈L↔Grp n (λz=>z∈S) x:=by
 have hT:∀x∈L,IsT n x:=λx k=>(hG x k).isT hS;refine⟨hG x,λh=>?_⟩;refine Grp.keeps (P:=λx=>x∈L) h1 (λa s d f=>hc a d s f) (λa s d f=>?_) h;have i:(L.map λx=>beh x s).Nodup:=bx.mpr (List.Pairwise.imp_of_mem (λd c hne z=>hne (zc5 (hT _ d) (hT _ c) (hS s f) z)) g);have j:=yl1 i (l:=L) (λy m=>by
  obtain⟨b,c,rfl⟩:=az.mp m
  exact hc b c s f) (by rw[ae];exact af _)
 obtain⟨b,c,e⟩:=az.mp (j.mem_iff.mpr d);rw[←e,xk8 (hT b c) (hS s f)];exact c
def Only (n:Nat)(W t:List Nat):Prop:=∀x,x<n->x∉W->t.getD x 0=x
theorem Only.grp {S:List Nat->Prop}(hS:∀s,S s->IsT n s)(c:∀s,S s->Only n W s)(h:Grp n S x):Only n W x:=by
 induction h with
 | one=>exact λy a _=>still_get a
 | mul hg hs ih=>exact λy a b=>by rw[beh_get (hg.isT hS) a,ih y a b,c _ hs y a b]
 | inv hg hs ih =>
  intro y a b;rw[beh_get (hg.isT hS) a,ih y a b];have h:=J1 (hS _ hs) a;rwa [c _ hs y a b]at h
theorem Only.stay {W t:List Nat}(hT:IsT n t)(c:∀x∈W,x<n)(h:Only n W t)(b:x∈W):t.getD x 0∈W:=by
 refine Classical.byContradiction λd=>?_;have a:=hT.step_lt (c x b);have e:=h _ a d;have:=hT.step_inj a (c x b) e;exact d (by rw[this];exact b)
theorem xb5 {l:List Nat}(b:x∈l)(e:l.idxOf x=l.idxOf y):x=y:=by
 have h1:=List.getElem_idxOf (cH b);have a:l.idxOf y<l.length:=by rw[←e];exact cH b
 have h2:=List.getElem_idxOf a;rw[←h1,←h2];congr 1
structure Sprd (n:Nat) (W row:List Nat) (k:Nat) (g:List Nat):Prop where
 len:g.length=n
 out:∀x,x<n->x∉W.take k->g[x]?=some x
 at':∀j x,j<k->W[j]?=some x->g[x]?=some (W.getD (row.getD j 0) 0)
theorem Sprd.start :Sprd n W row 0 (List.range n):=⟨aU,λx hx _=>aZ hx,λj x hj=>absurd hj (bR _)⟩
theorem Sprd.step {W row g:List Nat}(f:W.Nodup)(c:∀x∈W,x<n)(h:Sprd n W row k g)(b:W[k]?=some x):Sprd n W row (k+1) (g.set x (W.getD (row.getD k 0) 0)):=by
 have l:=c x (au b);have hne:∀j y,j<k->W[j]?=some y->y≠x:=λj y i a e=>by
  subst e;have:=(S0 f a).symm.trans (S0 f b);lia
 refine⟨by rw[bt];exact h.len,λy a d=>?_,λj y i a=>?_⟩
 .rw[aT,b]at d;have h1:y∉W.take k:=λz=>d (aR _ z);have h2:y≠x:=λe=>d (aF _ (by rw[e];simp));rw[br (Ne.symm h2)];exact h.out y a h1
 .by_cases e:j=k
  .subst e;obtain rfl:x=y:=Option.some.inj (b.symm.trans a);rw[bB (by rw[h.len];exact l)]
  .rw[br (Ne.symm (hne j y (by lia) a))];exact h.at' j y (by lia) a
theorem Sprd.done {W row g:List Nat}(z:W.Nodup)(s:∀x∈W,x<n)(hr:IsT W.length row)(h:Sprd n W row W.length g):IsT n g/\Only n W g:=by
 have c:∀x,x<n->x∉W->g[x]?=some x:=λx k t=>h.out x k (by rw[bD];exact t);have B:∀a,a<W.length->W[a]?=some (W.getD a 0):=λa r=>by rw[ah,aa r];rfl
 have u:∀a,a<W.length->W.getD a 0∈W:=λa r=>by
  rw[ah,aa r];exact bw r
 have f:∀x,x∈W->∃j,j<W.length/\W[j]?=some x/\g[x]?=some (W.getD (row.getD j 0) 0):=λx k=>by
  obtain⟨j,l,e⟩:=bh.mp k;have m:W[j]?=some x:=by rw[aa l,e]
  exact⟨j,l,m,h.at' j x l m⟩
 have inj:∀x y v,x<n->y<n->g[x]?=some v->g[y]?=some v->x=y:=λx y v k A h1 h2=>by
  by_cases a:x∈W <;> by_cases b:y∈W
  .obtain⟨i,hi,o,d⟩:=f x a;obtain⟨j,l,C,w⟩:=f y b;rw[h1]at d;rw[h2]at w;have e:=(Option.some.inj d).symm.trans (Option.some.inj w);have H:=hr.step_lt hi;have I:=hr.step_lt l;have G:W[row.getD i 0]?=some (W.getD (row.getD i 0) 0):=B _ H;have p2:W[row.getD j 0]?=some (W.getD (row.getD i 0) 0):=by rw[e];exact B _ I
   have q:=(S0 z G).symm.trans (S0 z p2);have F:=hr.step_inj hi l q;rw[F,C]at o;exact(Option.some.inj o).symm
  .obtain⟨i,hi,o,d⟩:=f x a;rw[c y A b]at h2;rw[h1,←Option.some.inj h2]at d;exact absurd (by rw[Option.some.inj d];exact u _ (hr.step_lt hi)) b
  .obtain⟨i,hi,o,d⟩:=f y b;rw[c x k a]at h1;rw[h2,←Option.some.inj h1]at d;exact absurd (by rw[Option.some.inj d];exact u _ (hr.step_lt hi)) a
  .rw[c x k a]at h1;rw[c y A b]at h2;exact(Option.some.inj h1).trans (Option.some.inj h2).symm
 refine⟨yq1 h.len ?_ λv E=>?_,λx k t=>getD_of (c x k t)⟩
 .refine bg.mpr λi j hi l D e=>?_;have:=inj i j g[i] (by rw[←h.len];exact hi) (by rw[←h.len];exact l) (aa hi) (by rw[e];exact aa l);lia
 .obtain⟨x,k,e⟩:=bh.mp E;have p:x<n:=by rw[←h.len];exact k
  have m:g[x]?=some v:=by rw[aa k,e]
  by_cases a:x∈W
  .obtain⟨i,hi,o,d⟩:=f x a;rw[m]at d;rw[Option.some.inj d];exact s _ (u _ (hr.step_lt hi))
  .rw[c x p a]at m;rw[←Option.some.inj m];exact p
end TM
namespace TM
def Chn.low (C:Chn)(j:Nat)(h:List Nat)(q:Nat):Nat:=((C.ring j).filter λp=>decide (h.getD p 0<q)).length
def Chn.manyL (C:Chn):List Nat->Nat
 | []=>1
 | j::js=>(C.ring j).length*Chn.manyL C js
def Chn.NthL (C:Chn):List Nat->Nat->List Nat->List Nat->Prop
 | [],_,h,x=>x=h
 | j::js,k,h,x=>∃p,p∈C.ring j/\C.low j h (h.getD p 0)=k / C.manyL js % (C.ring j).length/\Chn.NthL C js k (beh (C.up j p) h) x
def Chn.NumL (C:Chn):List Nat->List Nat->List Nat->Nat
 | [],_,_=>0
 | j::js,h,x=>C.low j h (x.getD j 0)*C.manyL js+Chn.NumL C js (beh (C.up j (h.idxOf (x.getD j 0))) h) x
def Chn.Cos (n:Nat)(C:Chn)(j:Nat)(h x:List Nat):Prop:=∃g,Grp n (C.mv j) g/\x=beh g h
theorem yw0 {h:List Nat}(hT:IsT n h)(hp:p<n):h.idxOf (h.getD p 0)=p:=S0 hT.nodup (hT.get_step hp)
section
variable {n:Nat}{C:Chn}(ok:C.Ok n)
include ok
omit ok in
theorem Chn.manyL_many:∀(d j:Nat),j+d=n->C.manyL (List.range' j d)=C.many n d
 | 0,_,_=>rfl
 | d+1,j,e=>by
  rw[cq,Chn.manyL,Chn.many,Chn.manyL_many d (j+1) (by lia),show n-(d+1)=j by lia]
theorem Chn.Ok.cos (a:j<n)(sh:C.Shut n j){h x:List Nat}(hT:IsT n h)(c:C.Cos n j h x):∃p,p∈C.ring j/\p<n/\x.getD j 0=h.getD p 0/\h.idxOf (x.getD j 0)=p/\IsT n (beh (C.up j p) h)/\C.Cos n (j+1) (beh (C.up j p) h) x:=by
 obtain⟨g,m,rfl⟩:=c;obtain⟨p,k,f,i,rfl⟩:=ok.parts a sh m;have b:=i.isT (ok.mvT _);have l:=ok.upT a f;have d:=ok.lt j p a f;have e:(beh (beh k (C.up j p)) h).getD j 0=h.getD p 0:=by
  rw[beh_get (b.beh l) a,beh_get b a,ok.genF (fH a) i _ (bZ _),ok.upTo j p a f]
 refine⟨p,f,d,e,?_,l.beh hT,k,i,n5 b l hT⟩;rw[e,yw0 hT d]
omit ok in
theorem Chn.Cos.isT (hS:∀s,C.mv j s->IsT n s)(hT:IsT n h)(c:C.Cos n j h x):IsT n x:=by
 obtain⟨g,a,rfl⟩:=c;exact(a.isT hS).beh hT
theorem Chn.Ok.cos_up (d:j<n)(e:p∈C.ring j)(hT:IsT n h)(c:C.Cos n (j+1) (beh (C.up j p) h) x):C.Cos n j h x:=by
 obtain⟨g,b,rfl⟩:=c;have a:=b.isT (ok.mvT _);refine⟨beh g (C.up j p),Grp.beh (ok.mvT j) (Grp.mono (ok.mvT j) (ok.down j) b) (ok.upG j p d e),(n5 a (ok.upT d e) hT).symm⟩
theorem Chn.Ok.cos_ahead (b:j<=n){h x:List Nat}(hT:IsT n h)(c:C.Cos n j h x)(hi:i<j):x.getD i 0=h.getD i 0:=by
 obtain⟨g,a,rfl⟩:=c;rw[beh_get (a.isT (ok.mvT _)) (by lia),ok.genF b a _ hi]
theorem Chn.Ok.low_lt (b:j<n){h:List Nat}(a:p∈C.ring j):C.low j h (h.getD p 0)<(C.ring j).length:=by
 unfold Chn.low;have:=List.length_filter_lt_length_iff_exists (p:=λq=>decide (h.getD q 0<h.getD p 0)) (l:=C.ring j);exact this.mpr ⟨p,a,by simp⟩
omit ok in
theorem zz2 {f:Nat->Nat}:∀{l:List Nat} {a b p:Nat},p∈l->f p=a->a<b->(l.filter λq=>decide (f q<a)).length<(l.filter λq=>decide (f q<b)).length
 | q::l,a,b,p,hp,e,hab=>by
  have mono:∀l:List Nat,(l.filter λq=>decide (f q<a)).length<=(l.filter λq=>decide (f q<b)).length:=λl=>by
   induction l with
   | nil=>exact af _
   | cons q l ih =>
    rw[bj,bj]
    by_cases h1:f q<a
    .rw[if_pos (by simpa using h1),if_pos (by simpa using dw h1 hab)]
     simp only[av];lia
    .rw[if_neg (by simpa using h1)]
     split
     .simp only[av];lia
     .exact ih
  rw[bj,bj]
  by_cases hq:p=q
  .subst hq
   rw[if_neg (by simp;lia),if_pos (by simp;lia)]
   have:=mono l
   simp only[av];lia
  .have hp':p∈l:=(ax.mp hp).resolve_left hq
   have ih:=zz2 hp' e hab
   by_cases h1:f q<a
   .rw[if_pos (by simpa using h1),if_pos (by simpa using dw h1 hab)]
    simp only[av];lia
   .rw[if_neg (by simpa using h1)]
    split
    .simp only[av];lia
    .exact ih
omit ok in
theorem Chn.low_less {h:List Nat}(hp:p∈C.ring j)(hab:h.getD p 0<b):C.low j h (h.getD p 0)<C.low j h b:=zz2 (f:=λq=>h.getD q 0) hp rfl hab
theorem Chn.Ok.low_inj (a:j<n){h:List Nat}(hT:IsT n h)(b:p∈C.ring j)(d:q∈C.ring j)(e:C.low j h (h.getD p 0)=C.low j h (h.getD q 0)):p=q:=by
 rcases dF (h.getD p 0) (h.getD q 0) with c|c|c
 .have:=Chn.low_less (C:=C) b c;lia
 .exact hT.step_inj (ok.lt j p a b) (ok.lt j q a d) c
 .have:=Chn.low_less (C:=C) d c;lia
omit ok in
theorem Chn.less_of_low {h:List Nat}(b:p∈C.ring j)(a:q∈C.ring j)(e:C.low j h (h.getD p 0)<C.low j h (h.getD q 0)):h.getD p 0<h.getD q 0:=by
 rcases dF (h.getD p 0) (h.getD q 0) with c|c|c
 .exact c
 .rw[c]at e;lia
 .have:=Chn.low_less (C:=C) a c;lia
theorem Chn.Ok.nth_num:∀(d j:Nat) (k:Nat) (h x:List Nat),j+d=n->(∀i,j<=i->i<n->C.Shut n i)->IsT n h->C.NthL (List.range' j d) k h x->C.Cos n j h x/\C.NumL (List.range' j d) h x=k % C.manyL (List.range' j d)
 | 0,j,k,h,x,e,sh,hT,a=>by
  cases a
  exact⟨⟨List.range n,.one,(still_beh hT).symm⟩,(Nat.mod_one k).symm⟩
 | d+1,j,k,h,x,e,sh,hT,a=>by
  have hj:j<n:=by lia
  rw[cq]at a ⊢
  obtain⟨p,b,m,a⟩:=a
  have f:=ok.upT hj b
  obtain⟨c,l⟩:=Chn.Ok.nth_num d (j+1) k _ x (by lia) (λi h1 h2=>sh i (by lia) h2) (f.beh hT) a
  have g:=ok.cos_up hj b hT c
  have ex:x.getD j 0=h.getD p 0:=by
   rw[ok.cos_ahead (fH hj) (f.beh hT) c (bZ j),beh_get f hj,ok.upTo j p hj b]
  refine⟨g,?_⟩
  show C.low j h (x.getD j 0)*C.manyL (List.range' (j+1) d)+C.NumL (List.range' (j+1) d) (beh (C.up j (h.idxOf (x.getD j 0))) h) x=k % ((C.ring j).length*C.manyL (List.range' (j+1) d))
  rw[ex,yw0 hT (ok.lt j p hj b),l,m,eN (C.ring j).length,Nat.mod_mul,eN (C.manyL _) (_ % _),eP]
theorem Chn.Ok.num_lt:∀(d j:Nat) (h x:List Nat),j+d=n->(∀i,j<=i->i<n->C.Shut n i)->IsT n h->C.Cos n j h x->C.NumL (List.range' j d) h x<C.manyL (List.range' j d)
 | 0,j,h,x,e,sh,hT,c=>dE
 | d+1,j,h,x,e,sh,hT,c=>by
  have hj:j<n:=by lia
  obtain⟨p,k,l,ex,f,a,b⟩:=ok.cos hj (sh j (af _) hj) hT c
  have ih:=Chn.Ok.num_lt d (j+1) _ x (by lia) (λi h1 h2=>sh i (by lia) h2) a b
  have g:=ok.low_lt hj (h:=h) k
  rw[cq]
  show C.low j h (x.getD j 0)*C.manyL (List.range' (j+1) d)+C.NumL (List.range' (j+1) d) (beh (C.up j (h.idxOf (x.getD j 0))) h) x<(C.ring j).length*C.manyL (List.range' (j+1) d)
  rw[f,ex]
  calc _<C.low j h (h.getD p 0)*C.manyL (List.range' (j+1) d)+C.manyL (List.range' (j+1) d):=Nat.add_lt_add_left ih _
   _=(C.low j h (h.getD p 0)+1)*C.manyL (List.range' (j+1) d):=by rw[dX,dh]
   _<=_:=di _ g
omit ok in
theorem ze4 {a b u v m:Nat}(d:u<m)(f:v<m):(a*m+u=b*m+v->a=b/\u=v)/\(a*m+u<b*m+v->a<b∨(a=b/\u<v)):=by
 have key:∀a b u v:Nat,u<m->v<m->a<b->a*m+u<b*m+v:=λa b u v d f h=>by
  have:(a+1)*m<=b*m:=di m h;rw[dX,dh]at this;lia
 refine⟨λe=>?_,λe=>?_⟩
 .rcases dF a b with c|c|c
  .have:=key a b u v d f c;lia
  .subst c;exact⟨rfl,by lia⟩
  .have:=key b a v u f d c;lia
 .rcases dF a b with c|c|c
  .exact .inl c
  .subst c;exact .inr ⟨rfl,by lia⟩
  .have:=key b a v u f d c;lia
theorem Chn.Ok.num_inj:∀(d j:Nat) (h x y:List Nat),j+d=n->(∀i,j<=i->i<n->C.Shut n i)->IsT n h->C.Cos n j h x->C.Cos n j h y->C.NumL (List.range' j d) h x=C.NumL (List.range' j d) h y->x=y
 | 0,j,h,x,y,e,sh,hT,cx,cy,_=>by
  have ej:j=n:=by lia
  subst ej
  refine T6 (cx.isT (ok.mvT _) hT) (cy.isT (ok.mvT _) hT) λi hi=>?_
  rw[ok.cos_ahead (af _) hT cx hi,ok.cos_ahead (af _) hT cy hi]
 | d+1,j,h,x,y,e,sh,hT,cx,cy,en=>by
  have l:j<n:=by lia
  have a:∀i,j+1<=i->i<n->C.Shut n i:=λi h1 h2=>sh i (by lia) h2
  obtain⟨p,v,w,ex,t,g,b⟩:=ok.cos l (sh j (af _) l) hT cx
  obtain⟨q,z,A,u,m,k,c⟩:=ok.cos l (sh j (af _) l) hT cy
  have B:=ok.num_lt d (j+1) _ x (by lia) a g b
  have D:=ok.num_lt d (j+1) _ y (by lia) a k c
  rw[cq]at en
  have f:C.low j h (x.getD j 0)*C.manyL (List.range' (j+1) d)+C.NumL (List.range' (j+1) d) (beh (C.up j (h.idxOf (x.getD j 0))) h) x=C.low j h (y.getD j 0)*C.manyL (List.range' (j+1) d)+C.NumL (List.range' (j+1) d) (beh (C.up j (h.idxOf (y.getD j 0))) h) y:=en
  rw[t,m,ex,u]at f
  obtain⟨r,s⟩:=(ze4 B D).1 f
  have o:=ok.low_inj l hT v z r
  subst o
  exact Chn.Ok.num_inj d (j+1) _ x y (by lia) a g b c s
theorem Chn.Ok.num_less:∀(d j:Nat) (h x y:List Nat),j+d=n->(∀i,j<=i->i<n->C.Shut n i)->IsT n h->C.Cos n j h x->C.Cos n j h y->C.NumL (List.range' j d) h x<C.NumL (List.range' j d) h y->∃i,i<n/\(∀q,q<i->x.getD q 0=y.getD q 0)/\x.getD i 0<y.getD i 0
 | 0,j,h,x,y,e,sh,hT,cx,cy,en=>absurd en (aO _)
 | d+1,j,h,x,y,e,sh,hT,cx,cy,en=>by
  have hj:j<n:=by lia
  have a:∀i,j+1<=i->i<n->C.Shut n i:=λi h1 h2=>sh i (by lia) h2
  obtain⟨p,s,z,ex,w,k,b⟩:=ok.cos hj (sh j (af _) hj) hT cx
  obtain⟨q,t,A,r,m,l,f⟩:=ok.cos hj (sh j (af _) hj) hT cy
  have B:=ok.num_lt d (j+1) _ x (by lia) a k b
  have D:=ok.num_lt d (j+1) _ y (by lia) a l f
  rw[cq]at en
  have g:C.low j h (x.getD j 0)*C.manyL (List.range' (j+1) d)+C.NumL (List.range' (j+1) d) (beh (C.up j (h.idxOf (x.getD j 0))) h) x<C.low j h (y.getD j 0)*C.manyL (List.range' (j+1) d)+C.NumL (List.range' (j+1) d) (beh (C.up j (h.idxOf (y.getD j 0))) h) y:=en
  rw[w,m,ex,r]at g
  rcases (ze4 B D).2 g with c|⟨u,v⟩
  .refine⟨j,hj,λi hi=>?_,?_⟩
   .rw[ok.cos_ahead (bp hj) hT cx hi,ok.cos_ahead (bp hj) hT cy hi]
   .rw[ex,r]
    exact Chn.less_of_low s t c
  .have o:=ok.low_inj hj hT s t u
   subst o
   exact Chn.Ok.num_less d (j+1) _ x y (by lia) a k b f v
theorem Chn.Ok.ring_one (c:j<n)(h1:¬1<(C.ring j).length):C.ring j=[j]:=by
 have h:=ok.own j c
 match e:C.ring j with
 | []=>rw[e]at h;cases h
 | [a]=>rw[e]at h;rw[aq.mp h]
 | a::b::l=>rw[e]at h1;simp at h1
def wide (C:Chn)(js:List Nat):List Nat:=js.filter λj=>decide (1<(C.ring j).length)
theorem Chn.Ok.manyL_wide:∀(js:List Nat),(∀j∈js,j<n)->C.manyL (wide C js)=C.manyL js
 | [],_=>rfl
 | j::js,hlt=>by
  have ih:=Chn.Ok.manyL_wide js λi hi=>hlt i (ar _ hi)
  unfold wide at ih ⊢
  rw[bj]
  by_cases h1:1<(C.ring j).length
  .rw[if_pos (by simpa using h1),Chn.manyL,ih,Chn.manyL]
  .rw[if_neg (by simpa using h1),ih,Chn.manyL,ok.ring_one (hlt j aw) h1,aW,dh]
theorem Chn.Ok.nth_wide:∀(js:List Nat) (k:Nat) (h x:List Nat),(∀j∈js,j<n)->IsT n h->C.NthL (wide C js) k h x->C.NthL js k h x
 | [],_,_,_,_,_,hx=>hx
 | j::js,k,h,x,hlt,hT,hx=>by
  have hj:=hlt j aw
  have hlt':∀i∈js,i<n:=λi hi=>hlt i (ar _ hi)
  unfold wide at hx
  rw[bj]at hx
  by_cases h1:1<(C.ring j).length
  .rw[if_pos (by simpa using h1)]at hx
   obtain⟨p,hp,hl,hx⟩:=hx
   refine⟨p,hp,?_,Chn.Ok.nth_wide js k _ x hlt' ((ok.upT hj hp).beh hT) hx⟩
   rw[hl,show C.manyL (js.filter λj=>decide (1<(C.ring j).length))=C.manyL js from ok.manyL_wide js hlt']
  .rw[if_neg (by simpa using h1)]at hx
   have e:=ok.ring_one hj h1
   refine⟨j,ok.own j hj,?_,?_⟩
   .unfold Chn.low
    rw[e,aW,Nat.mod_one,cv,fq]
    intro q hq c
    rw[aq.mp hq]at c
    exact absurd (of_decide_eq_true c) (aO _)
   .rw[ok.upOwn j hj,still_beh hT]
    exact Chn.Ok.nth_wide js k h x hlt' hT hx
end
theorem yx6 {l:List Int}:∀{ms:List Int} {i:Nat} {q:Int},ms.Nodup->ms.Pairwise (·<=·)->ms[i]?=some q->(ms.filter λz=>decide (z<q)).length=i
 | [],i,q,_,_,h=>by simp at h
 | m::ms,0,q,hn,hp,h=>by
  have e:m=q:=by simpa using h
  subst e
  rw[cv,fq]
  intro z a c
  have c:=of_decide_eq_true c
  rcases ax.mp a with rfl|a
  .lia
  .have:=(eD.mp hp).1 z a
   lia
 | m::ms,i+1,q,hn,hp,h=>by
  have h':ms[i]?=some q:=by simpa using h
  have b:q∈ms:=au h'
  have h1:=(eD.mp hp).1 q b
  have h2:m≠q:=λe=>(aS.mp hn).1 (e ▸ b)
  rw[bj,if_pos (by simp;lia),av,yx6 (l:=l) (aS.mp hn).2 (eD.mp hp).2 h']
theorem Chn.rank {C:Chn}(ok:C.Ok n)(c:j<n){h:List Nat}(hT:IsT n h){ms:List Int}(d:ms.Perm ((C.ring j).map λp=>((h.getD p 0:Nat):Int)))(r:ms.Pairwise (·<=·))(k:ms[i]?=some q):∃p,p∈C.ring j/\p<n/\q=((h.getD p 0:Nat):Int)/\C.low j h (h.getD p 0)=i:=by
 obtain⟨p,g,rfl⟩:=az.mp (d.mem_iff.mp (au k));have f:ms.Nodup:=d.nodup_iff.mpr (eZ.mpr (bx.mpr ((eZ.mp (ok.nd j c)).imp_of_mem λ{a b} m o s e=>s (hT.step_inj (ok.lt j a c m) (ok.lt j b c o) (by lia)))));refine⟨p,g,ok.lt j p c g,rfl,?_⟩;rw[←yx6 (l:=[]) f r k,(d.filter _).length_eq,List.filter_map,ae];unfold Chn.low;congr 1;refine List.filter_congr λz _=>?_;simp
end TM
namespace TM
open Classical
section
variable {n:Nat}{C:Chn}{G:List Nat->Prop}(ok:C.Ok n)(sh:∀i,i<n->C.Shut n i)(hG:∀x,Grp n (C.mv 0) x↔G x)
include ok sh hG
theorem Chn.Ok.lev:∀(j:Nat),j<=n->∀x,Grp n (C.mv j) x↔G x/\Fix j x
 | 0,_,x=>⟨λh=>⟨(hG x).mp h,Fix.zero x⟩,λh=>(hG x).mpr h.1⟩
 | j+1,hj,x=>by
  have ih:=Chn.Ok.lev j (by lia) x
  constructor
  .intro h
   have h1:Grp n (C.mv j) x:=Grp.mono (ok.mvT j) (ok.down j) h
   exact⟨(ih.mp h1).1,ok.genF hj h⟩
  .rintro⟨h1,h2⟩
   have hx:=ih.mpr ⟨h1,λy hy=>h2 y (by lia)⟩
   obtain⟨p,k,hp,hk,rfl⟩:=ok.parts (by lia) (sh j (by lia)) hx
   have kT:=hk.isT (ok.mvT _)
   have e:=h2 j (bZ j)
   rw[beh_get kT (by lia),ok.genF (by lia) hk _ (bZ _),ok.upTo j p (by lia) hp]at e
   subst e
   rw[ok.upOwn p (by lia),beh_still kT]
   exact hk
end
end TM
namespace TM
open Classical
theorem W0 {l t:List Nat}(a:IsT n l)(d:IsT n t)(b:x<n):(beh (beh (bk n l) t) l).getD (l.getD x 0) 0=l.getD (t.getD x 0) 0:=by
 have c:=a.step_lt b;rw[beh_get (a.bk.beh d) c,beh_get a.bk c,J1 a b]
def fac:Nat->Nat
 | 0=>1
 | k+1=>(k+1)*fac k
end TM
namespace TM
structure Hom (k n:Nat) (F:List Nat->List Nat):Prop where
 isT:∀t,IsT k t->IsT n (F t)
 two:∀a b,IsT k a->IsT k b->F (beh a b)=beh (F a) (F b)
 one:F (List.range k)=List.range n
 inj:∀a b,IsT k a->IsT k b->F a=F b->a=b
theorem Hom.bk {F:List Nat->List Nat}(h:Hom k n F)(a:IsT k t):F (TM.bk k t)=TM.bk n (F t):=by
 have b:=h.isT t a;refine yg7 (h.isT _ a.bk) b.bk b ?_;rw[←h.two t _ a a.bk,zc4 a,h.one,zc4 b]
theorem Hom.grp {F:List Nat->List Nat}(h:Hom k n F){S:List (List Nat)}(hS:∀s∈S,IsT k s)(y:List Nat):Grp n (λz=>z∈S.map F) y↔∃x,Grp k (λz=>z∈S) x/\y=F x:=by
 have c:∀s,s∈S.map F->IsT n s:=λs b=>by
  obtain⟨t,d,rfl⟩:=az.mp b;exact h.isT t (hS t d)
 constructor
 .intro j;refine Grp.keeps (P:=λy=>∃x,Grp k (λz=>z∈S) x/\y=F x) ⟨_,.one,h.one.symm⟩ (λa s ⟨x,f,e⟩ b=>?_) (λa s ⟨x,f,e⟩ b=>?_) j
  .obtain⟨t,d,rfl⟩:=az.mp b;refine⟨beh x t,Grp.beh hS f (Grp.of hS d),?_⟩;rw[h.two x t (f.isT hS) (hS t d),e]
  .obtain⟨t,d,rfl⟩:=az.mp b;refine⟨beh x (TM.bk k t),Grp.beh hS f (Grp.bk hS (Grp.of hS d)),?_⟩;rw[h.two x _ (f.isT hS) (hS t d).bk,h.bk (hS t d),e]
 .rintro⟨x,f,rfl⟩;refine Grp.keeps (P:=λx=>IsT k x/\Grp n (λz=>z∈S.map F) (F x)) ⟨IsT.range k,by rw[h.one];exact .one⟩ (λa s ⟨g,i⟩ b=>⟨g.beh (hS s b),?_⟩) (λa s ⟨g,i⟩ b=>⟨g.beh (hS s b).bk,?_⟩) f |>.2
  .rw[h.two a s g (hS s b)];exact Grp.beh c i (Grp.of c (az.mpr ⟨s,b,rfl⟩))
  .rw[h.two a _ g (hS s b).bk,h.bk (hS s b)];exact Grp.beh c i (Grp.bk c (Grp.of c (az.mpr ⟨s,b,rfl⟩)))
def cj (n:Nat)(b t:List Nat):List Nat:=beh (beh (bk n b) t) b
theorem cj_isT (hb:IsT n b)(ht:IsT n t):IsT n (cj n b t):=(hb.bk.beh ht).beh hb
theorem yc4 {b s t:List Nat}(a:IsT n b)(d:IsT n s)(e:IsT n t)(h:∀x,x<n->s.getD (b.getD x 0) 0=t.getD (b.getD x 0) 0):s=t:=by
 refine T6 d e λy c=>?_;have:=h ((bk n b).getD y 0) (a.bk.step_lt c);rwa [yc7 a c]at this
theorem cj_conj (hT:IsT n t)(hB:IsT n b)(h:Conj n t b c):c=cj n b t :=
 yc4 hB (h.isT hT hB) (cj_isT hB hT) λx hx=>by rw[h.step hT hB hx];exact(W0 hB hT hx).symm
theorem yp3 (a:IsT n b):Hom n n (cj n b):=by
 refine⟨λt f=>cj_isT a f,λs t d f=>?_,?_,λs t d f e=>?_⟩
 .refine yc4 a (cj_isT a (d.beh f)) ((cj_isT a d).beh (cj_isT a f)) λx c=>?_;have g:(cj n b s).getD (b.getD x 0) 0=b.getD (s.getD x 0) 0:=W0 a d c;rw[beh_get (cj_isT a d) (a.step_lt c),g];refine(W0 a (d.beh f) c).trans ?_;rw[beh_get d c];exact(W0 a f (d.step_lt c)).symm
 .refine yc4 a (cj_isT a (IsT.range n)) (IsT.range n) λx c=>?_;refine(W0 a (IsT.range n) c).trans ?_;rw[still_get c,still_get (a.step_lt c)]
 .refine T6 d f λx c=>a.step_inj (d.step_lt c) (f.step_lt c) ?_;have g:(cj n b s).getD (b.getD x 0) 0=b.getD (s.getD x 0) 0:=W0 a d c;have h:(cj n b t).getD (b.getD x 0) 0=b.getD (t.getD x 0) 0:=W0 a f c;rw[←g,←h,e]
theorem cj_back (a:IsT n b)(c:IsT n t):cj n (bk n b) (cj n b t)=t:=by
 refine yc4 a.bk (cj_isT a.bk (cj_isT a c)) c λy d=>?_;refine(W0 a.bk (cj_isT a c) d).trans ?_;have f:=a.bk.step_lt d;have e:(cj n b t).getD (b.getD ((bk n b).getD y 0) 0) 0=b.getD (t.getD ((bk n b).getD y 0) 0) 0:=W0 a c f;rw[yc7 a d]at e;rw[e,J1 a (c.step_lt f)]
def sp (n:Nat)(W row:List Nat):List Nat:=(List.range n).map λx=>if x∈W then W.getD (row.getD (W.idxOf x) 0) 0 else x
end TM
namespace TM
end TM
namespace TM
open Classical
def Few (n:Nat)(S:List (List Nat))(N:Nat):Prop:=∀L:List (List Nat),L.Nodup->(∀x∈L,Grp n (λz=>z∈S) x)->L.length<=N
theorem Few.more (h:Few n S N)(hM:N<=M):Few n S M:=λL hL hG=>aD (h L hL hG) hM
end TM
namespace TM
def yh0:List Nat->List Nat->Nat
 | _,[]=>0
 | W,x::l=>W.idxOf x*fac l.length+yh0 (W.erase x) l
theorem zo2:∀{l W:List Nat},l.Nodup->(∀x∈l,x∈W)->W.Nodup->W.length=l.length->yh0 W l<fac l.length
 | [],_,_,_,_,_=>Nat.zero_lt_one
 | x::l,W,hl,hs,hW,e=>by
  obtain⟨h1,h2⟩:=aS.mp hl
  have hx:=hs x aw
  have ih:=zo2 (W:=W.erase x) h2 (λy hy=>(de (a:=y) (b:=x) λz=>h1 (z ▸ hy)).mpr (hs y (ar _ hy))) (hW.erase x) (by rw[cO hx,e];rfl)
  have hi:W.idxOf x<l.length+1:=by rw[←av,←e];exact cH hx
  have hm:=di (fac l.length) (Nat.le_of_lt_succ hi)
  show W.idxOf x*fac l.length+yh0 (W.erase x) l<(l.length+1)*fac l.length
  rw[dX,dh]
  lia
theorem yh1:∀{l l' W:List Nat},l.Nodup->l'.Nodup->(∀x∈l,x∈W)->(∀x∈l',x∈W)->W.Nodup->W.length=l.length->l.length=l'.length->yh0 W l=yh0 W l'->l=l'
 | [],[],_,_,_,_,_,_,_,_,_=>rfl
 | x::l,y::l',W,hl,hl',hs,hs',hW,e,e',h=>by
  obtain⟨h1,h2⟩:=aS.mp hl
  obtain⟨h1',h2'⟩:=aS.mp hl'
  have hx:=hs x aw
  have hy:=hs' y aw
  have len:l.length=l'.length:=Nat.succ.inj e'
  have sub:∀z∈l,z∈W.erase x:=λz hz=>(de (a:=z) (b:=x) λq=>h1 (q ▸ hz)).mpr (hs z (ar _ hz))
  have sub':∀z∈l',z∈W.erase y:=λz hz=>(de (a:=z) (b:=y) λq=>h1' (q ▸ hz)).mpr (hs' z (ar _ hz))
  have le:(W.erase x).length=l.length:=by rw[cO hx,e];rfl
  have le':(W.erase y).length=l'.length:=by rw[cO hy,e,←len];rfl
  have h:W.idxOf x*fac l.length+yh0 (W.erase x) l=W.idxOf y*fac l'.length+yh0 (W.erase y) l':=h
  rw[←len]at h
  obtain⟨i1,i2⟩:=(ze4 (zo2 h2 sub (hW.erase x) le) (by rw[len];exact zo2 h2' sub' (hW.erase y) le')).1 h
  obtain rfl:=xb5 hx i1
  rw[yh1 h2 h2' sub sub' (hW.erase x) le len i2]
theorem few_sym {W:List Nat}(hS:∀s∈S,IsT n s)(hO:∀s∈S,Only n W s)(hW:W.Nodup)(hlt:∀x∈W,x<n):Few n S (fac W.length):=λL hL hG=>by
 have hT:∀t∈L,IsT n t:=λt ht=>(hG t ht).isT hS
 have hO:∀t∈L,Only n W t:=λt ht=>Only.grp hS hO (hG t ht)
 have nd:∀t∈L,(W.map λx=>t.getD x 0).Nodup:=λt ht=>bx.mpr (List.Pairwise.imp_of_mem (λ{a b} ha hb hab e=>hab ((hT t ht).inj ((hT t ht).get_step (hlt a ha)) (e ▸ (hT t ht).get_step (hlt b hb)))) hW)
 have sub:∀t∈L,∀y∈W.map (λx=>t.getD x 0),y∈W:=λt ht y hy=>by
  obtain⟨x,hx,rfl⟩:=az.mp hy
  exact(hO t ht).stay (hT t ht) hlt hx
 have h1:(L.map λt=>yh0 W (W.map λx=>t.getD x 0)).Nodup:=bx.mpr (List.Pairwise.imp_of_mem (λ{t u} ht hu hne z=>hne (by
  have e:=yh1 (nd t ht) (nd u hu) (sub t ht) (sub u hu) hW (by rw[ae]) (by rw[ae,ae]) z
  refine T6 (hT t ht) (hT u hu) λx hx=>?_
  by_cases hw:x∈W
  .exact List.map_inj_left.mp e x hw
  .rw[hO t ht x hx hw,hO u hu x hx hw])) hL)
 have h2:=nodup_below (M:=fac W.length) h1 λx hx=>by
  obtain⟨t,ht,rfl⟩:=az.mp hx
  have:=zo2 (nd t ht) (sub t ht) hW (by rw[ae])
  rwa [ae]at this
 rwa [ae]at h2
end TM
namespace TM
section
variable {n k:Nat}{row:List Nat}(hr:IsT n row)
include hr
theorem yi2 {y:List Nat}(a:IsT n y)(c:k<=n):Fix k (cj n (bk n row) y)↔∀i,i<k->y.getD (row.getD i 0) 0=row.getD i 0:=by
 have b:=hr.bk;have key:∀i,i<n->(cj n (bk n row) y).getD i 0=(bk n row).getD (y.getD (row.getD i 0) 0) 0:=λi hi=>by
  have:=W0 (l:=bk n row) b a (hr.step_lt hi);rw[J1 hr hi]at this;exact this
 constructor
 .intro h i hi;have h1:=h i hi;rw[key i (by lia)]at h1;have h2:=yc7 hr (a.step_lt (hr.step_lt (show i<n by lia)));rw[h1]at h2;exact h2.symm
 .intro h i hi;rw[key i (by lia),h i hi,J1 hr (by lia)]
theorem fixing_grp {us cs vs:List (List Nat)}(c:∀u∈us,IsT n u)(l:∀v∈vs,IsT n v)(f:k<=n)(hc:cs=us.map (cj n (bk n row)))(g:∀x,Grp n (λz=>z∈vs) x↔Grp n (λz=>z∈cs) x/\Fix k x)(y:List Nat) :
  Grp n (λz=>z∈vs.map (cj n row)) y↔Grp n (λz=>z∈us) y/\∀i,i<k->y.getD (row.getD i 0) 0=row.getD i 0:=by
 subst hc;have e:=hr.bk;have a:∀z,IsT n z->cj n row (cj n (bk n row) z)=z:=λz d=>by
  have:=cj_back (b:=bk n row) e d;rwa [xf9 hr]at this
 rw[(yp3 hr).grp l];constructor
 .rintro⟨x,m,rfl⟩;obtain⟨h1,h2⟩:=(g x).mp m;obtain⟨z,d,rfl⟩:=((yp3 e).grp c x).mp h1;have j:=d.isT c;rw[a z j];exact⟨d,(yi2 hr j f).mp h2⟩
 .rintro⟨h1,h2⟩;have h:=h1.isT c;exact⟨cj n (bk n row) y,(g _).mpr ⟨((yp3 e).grp c _).mpr ⟨y,h1,rfl⟩,(yi2 hr h f).mpr h2⟩,(a y h).symm⟩
end
end TM
namespace Tb
open PySem L2
def tI (t:List Nat):List V:=t.map λ(x:Nat)=>V.int x
theorem x9 (t:List Nat):(tI t).length=t.length:=ae _
theorem yu0 (t:List Nat)(i:Nat):(tI t)[i]?=(t[i]?).map λ(x:Nat)=>V.int x:=al ..
theorem X7 {i:Nat}(h:(tI t)[i]?=some x):∃p,t[i]?=some p/\x=V.int p:=by
 rw[yu0]at h
 cases q:t[i]? with
 | none=>rw[q]at h;cases h
 | some p=>rw[q]at h;exact⟨p,rfl,(Option.some.inj h).symm⟩
theorem ya8 {i p:Nat}(h:t[i]?=some p):(tI t)[i]?=some (V.int p):=by rw[yu0,h];rfl
theorem A2 {i p:Nat}(h:t[i]?=some p):atI (tI t) ((i:Nat):Int)=some (V.int p):=o8 (ya8 h)
theorem zl0 (s t:List Nat):tI (s++t)=tI s++tI t:=aJ
theorem yn5:∀(t:List Nat) (i:Nat),(tI t).eraseIdx i=tI (t.eraseIdx i)
 | [],_=>rfl
 | _::_,0=>rfl
 | a::r,i+1=>by
  have ih:=yn5 r i
  show V.int a::(tI r).eraseIdx i=V.int a::tI (r.eraseIdx i)
  rw[ih]
theorem yg4:∀(t:List Nat) (i x:Nat),(tI t).set i (V.int x)=tI (t.set i x)
 | [],_,_=>rfl
 | _::_,0,_=>rfl
 | a::r,i+1,x=>by
  have ih:=yg4 r i x
  show V.int a::(tI r).set i (V.int x)=V.int a::tI (r.set i x)
  rw[ih]
theorem A3 (n:Nat):V6 0 n=tI (List.range n):=by
 unfold V6 tI;apply bT;intro x _;rw[Int.zero_add]
theorem small (h:n<=1000):n<=ge:=bp (zk8 h)
theorem zf2 (h:i<n):ixN n ((i:Nat):Int)=some i:=by
 unfold ixN;rw[if_pos (Int.natCast_nonneg i),if_pos (by lia)];rfl
theorem xu0 (h:i<n):seqIndex? ((i:Nat):Int) n=some i:=(yd0 (zf2 h)).1
theorem y0 (h:H p=none)(o:HO):y4 H (upd H p o):=λb u q=>by rw[z6 (z9 q h)];exact q
theorem u8 (s:y4 H H')(h:H p=none)(o:HO):y4 H (upd H' p o):=λb u q=>by rw[z6 (z9 q h)];exact s b u q
def b8 (T U:String):Option Bool:=if (Value.type T==Value.type U)=true then some true else if W.kitMeta U=true then(PySem.fastBuiltinMro T).map (·.contains (Value.type U)) else none
theorem C6 (h:b8 T U=some b):W.kitOne K (.type T) (.type U)=some b:=h
theorem zf3:b8 "list" "list"=some true:=by decide +kernel
theorem yq5:b8 "str" "str"=some true:=by decide +kernel
theorem c7 :decide (V.int i=V.int j)=decide (i=j):=decide_eq_decide.mpr ⟨λz=>by injection z,λz=>by rw[z]⟩
theorem zr5:b8 "tuple" "tuple"=some true:=by decide +kernel
structure Blt (mg:Str->Option Value):Prop where
 len:mg "len"=none
 range:mg "range"=none
 list:mg "list"=none
 tuple:mg "tuple"=none
 isinstance:mg "isinstance"=none
 int:mg "int"=none
 bool:mg "bool"=none
 str:mg "str"=none
 enumerate:mg "enumerate"=none
 sorted:mg "sorted"=none
 sum:mg "sum"=none
 all:mg "all"=none
 set:mg "set"=none
 reversed:mg "reversed"=none
 divmod:mg "divmod"=none
 max:mg "max"=none
 min:mg "min"=none
theorem i8:gv "len"=some (.builtin "len"):=by decide +kernel
theorem D8:gv "range"=some (.type "range"):=by decide +kernel
theorem W1:gv "list"=some (.type "list"):=by decide +kernel
theorem f9:gv "tuple"=some (.type "tuple"):=by decide +kernel
theorem n8:gv "isinstance"=some (.builtin "isinstance"):=by decide +kernel
theorem xw9:gv "int"=some (.type "int"):=by decide +kernel
theorem xq7:gv "bool"=some (.type "bool"):=by decide +kernel
theorem xx0:gv "str"=some (.type "str"):=by decide +kernel
theorem zi0:gv "sorted"=some (.builtin "sorted"):=by decide +kernel
theorem zh9:gv "all"=some (.builtin "all"):=by decide +kernel
theorem zz0:gv "divmod"=some (.builtin "divmod"):=by decide +kernel
def za6 (mg:Str->Option Value)(x:Str)(v:V):Prop:=∃u,mg x=some u/\p8 v u
theorem K2 {X:Cx}(g:za6 X.mg x v)(hg:Gl X x)(hd:(x==("__debug__":Str))=false:=by decide):PE X (.Name x pos) (tC v):=by
 obtain⟨u,hm,r⟩:=g;exact zp0 hg hm r hd
def p6 (P:gf)(w:gp)(K:W.Frag)(mg:Str->Option Value)(base:Heap)(k:Nat)(x:Str)(ps:List Str)(sp:Sp):Prop :=
 ∃f fd,u7 P w K mg base CX0 k f fd ps sp/\W.keepIn K (.ref f)=true/\mg x=some (.ref f)/\P3 K fd ps []
structure Def (K:W.Frag) (mg:Str->Option Value) (x:Str) (st:Stmt) (ps:List Str) (f:Addr) (fd:gz):Prop where
 F:Fun K x x st f fd
 b:P3 K fd ps []
 m:mg x=some (.ref f)
theorem Def.known {mg:Str->Option Value}(D:Def K mg x st ps f fd)(G:u7 P w K mg base CX0 k f fd ps sp):p6 P w K mg base k x ps sp :=
 ⟨f,fd,G,D.F.kp,D.m,D.b⟩
section
variable {X:Cx}{x:Str}{p pos:Pos}{e:Expr}{es:List Expr}{t:TA}{ps:List Str}{sp:Sp}{k j:Nat}
theorem r6 (kn:p6 X.prog X.w X.K X.mg X.base k x ps sp)(hr:X3 j X.A)(hg:Gl X x)(ha:PA X (e::es) t)(hj:k<=j:=by decide)(hdb:(x==("__debug__":Str))=false:=by decide)
  (he:gh (e::es) X.env=(false,eval e X.env)::gh es X.env:=by rfl) (hpl:(backTo pos (gh es X.env)).any (·.1)=false:=by rfl):PE X (.Call (.Name x p) (e::es) [] pos) (xp0 sp [] E0 t):=by
 obtain⟨f,fd,G,hk,hm,hb⟩:=kn;exact yx1 G (hr.mono hj) hg hm hk hb .nil yx0 ha hdb he hpl
end
theorem xy9 {k:Nat}(h:0<k):∃m:Nat,z % (k:Int)=(m:Int)/\m<k:=by
 have h1:=dS z (show(k:Int)≠0 by lia);have h2:=dC z (show(0:Int)<(k:Int) by lia);exact⟨(z % (k:Int)).toNat,by lia,by lia⟩
theorem xr9 (z:Int):∃n:Nat,1+z % 60=(n:Int)/\1<=n/\n<=60:=by
 have h1:=dS z (show(60:Int)≠0 by decide);have h2:=dC z (show(0:Int)<60 by decide);exact⟨(1+z % 60).toNat,by lia,by lia,by lia⟩
theorem yz0 (t:List Nat):tI t=(t.map λ(x:Nat)=>(x:Int)).map V.int:=by
 unfold tI;rw[bF];rfl
def yy4 (K:W.Frag):Sp:=λvs H Q _=>∃(a:Addr) (ns:List Int),vs=[.ref a]/\SqL K H a (ns.map V.int)/\ns.length<=63/\(∀z∈ns,Builtin.Int.intBits z<=2 ^ 20)/\∀H',Q (.bl true) H'
theorem walk {l:W.OpenLaw}{XP:(Str->Option Value)->Heap->Prop}{YP:gp->Heap->Prop}{d:DefRec}{K:Params->W.Frag}(hn:l.most=some 63)(hdf:d.params.defaults=[])(hr:X3 k callerA)
  (hY:∀(w:gp) (h:Heap),YP w h->(K w.params).In h)
  (F:∀(w:gp) (mg:Str->Option Value) (fa:Addr) (h:Heap),(K w.params).In h->h.Ns mainGlobals mg->mg d.name=some (.ref fa) ->
   ∃fd:gz,(∀(s:fZ) (u:Value),BindsTo s fd ⟨[u],[]⟩ [(x,u)])/\∀base:Heap,(K w.params).In base->base.Ns mainGlobals mg->u7 l.prog w (K w.params) mg base CX0 k fa fd [x] (yy4 (K w.params))) :
  W.WalkO q loose XP YP l.row.toRowW d [] (λf vs=>PySem.call f vs) :=
 L2.walk_ofB (n:=63) (k:=k) (x:=x) (CX:=CX0) (sp:=yy4) hn (by decide) hdf hr hY F (λ_ _ a ns hl hb _ hS=>⟨a,ns,rfl,hS,hl,hb,λ_=>rfl⟩) λ_ _ _ _ z=>z
def lnV:TM.Ln->List V
 | .still=>[.str "still"]
 | .told k=>[.str "told",.int k]
 | .behind i j=>[.str "behind",.int i,.int j]
 | .back i=>[.str "back",.int i]
def lnW:TM.Ln->Str
 | .still=>"still"
 | .told _=>"told"
 | .behind _ _=>"behind"
 | .back _=>"back"
def lnN:TM.Ln->List Nat
 | .still=>[]
 | .told k=>[k]
 | .behind i j=>[i,j]
 | .back i=>[i]
theorem yd4 (l:TM.Ln):lnV l=V.str (lnW l)::tI (lnN l):=by cases l <;> rfl
theorem zo8 (l:TM.Ln):atI (lnV l) 0=some (V.str (lnW l)):=by rw[yd4];exact o8 (j:=0) rfl
def Z7 (H:Hp)(as:List Addr)(ls:List TM.Ln):Prop:=Paired (λa l=>H a=some (.tup (lnV l))) as ls
def c6 (H:Hp)(as:List Addr)(ts:List (List Nat)):Prop:=Paired (λa t=>H a=some (.tup (tI t))) as ts
theorem Z7.same (h:Z7 H as ls)(s:y4 H H'):Z7 H' as ls:=Paired.imp' (λ_ _ e=>s _ _ e) h
theorem c6.same (h:c6 H as ls)(s:y4 H H'):c6 H' as ls:=Paired.imp' (λ_ _ e=>s _ _ e) h
theorem l9 {α β:Type}{F:α->β->Prop}:∀{as:List α} {bs:List β},Paired F as bs->∀(i:Nat) (b:β),bs[i]?=some b->∃a,as[i]?=some a/\F a b
 | _,_,.nil,i,b,h=>by cases i <;> cases h
 | _,_,.cons f _,0,b,h=>by
  cases h
  exact⟨_,rfl,f⟩
 | _,_,.cons _ r,i+1,b,h=>by
  obtain⟨a,ha,f⟩:=l9 r i b (by simpa using h)
  exact⟨a,by simpa using ha,f⟩
theorem p4 {α β:Type}{F:α->β->Prop}:∀{as:List α} {bs:List β},Paired F as bs->∀(i:Nat) (a:α),as[i]?=some a->∃b,bs[i]?=some b/\F a b
 | _,_,.nil,i,a,h=>by cases i <;> cases h
 | _,_,.cons f _,0,a,h=>by
  cases h
  exact⟨_,rfl,f⟩
 | _,_,.cons _ r,i+1,a,h=>by
  obtain⟨b,hb,f⟩:=p4 r i a (by simpa using h)
  exact⟨b,by simpa using hb,f⟩
theorem V8 {a:List Addr}{i:Nat}(h:(a.map V.ref)[i]?=some y):∃b,a[i]?=some b/\y=V.ref b:=by
 rw[al]at h
 cases e:a[i]? with
 | none=>rw[e]at h;cases h
 | some b=>rw[e]at h;exact⟨b,rfl,(Option.some.inj h).symm⟩
theorem xm1 {a:List Addr}{i:Nat}(h:a[i]?=some b):(a.map V.ref)[i]?=some (V.ref b):=by rw[al,h];rfl
theorem zj7 {as:List Addr}(h:as[i]?=some b):atI (as.map V.ref) ((i:Nat):Int)=some (V.ref b):=o8 (xm1 h)
theorem xx1 (xs:List V)(x:V):P5 (x::xs) (some 1) none=xs:=by
 unfold P5;have e:HT.sIx (x::xs).length 0 (some (1:Int))=1:=by
  show(if (1:Int)<0 then((1:Int)+((x::xs).length:Int)).toNat else min (1:Int).toNat (x::xs).length)=1;rw[if_neg (by decide)];show min 1 (xs.length+1)=1;lia
 rw[e,HT.sIx_none,List.drop_one,List.tail_cons,aV (by simp)]
theorem zi9 (xs:List V)(x:V):¬(HT.sIx (x::xs).length 0 (some (1:Int))=0/\HT.sIx (x::xs).length (x::xs).length none=(x::xs).length):=by
 rintro⟨h,_⟩;have e:HT.sIx (x::xs).length 0 (some (1:Int))=1:=by
  show(if (1:Int)<0 then((1:Int)+((x::xs).length:Int)).toNat else min (1:Int).toNat (x::xs).length)=1;rw[if_neg (by decide)];show min 1 (xs.length+1)=1;lia
 rw[e]at h
 cases h
theorem i4 (h:∀N:St->Hp->Prop,(∀σ H,u D σ H->N σ H)->t1 { D with nx:=N } σ H):wb8 t1 u D σ H:=h (λσ H=>u D σ H) λ_ _ h=>h
theorem Z6 {H:Hp}{fs:List (Str×V)}{Q:Prop}(h:H a=some (.ins c dx fs))(e:fs.lookup m=none)(q:Q):∃a' dx' fs',V.ref a=.ref a'/\H a'=some (.ins c dx' fs')/\fs'.lookup m=none/\Q:=⟨a,dx,fs,rfl,h,e,q⟩
theorem ixI {Q:V->Prop}(h:SqL K H p xs)(e:atI xs i=some v)(q:Q v):∃p' xs' i' v',V.ref p=.ref p'/\V.int i=.int i'/\SqL K H p' xs'/\atI xs' i'=some v'/\Q v':=⟨p,xs,i,v,rfl,rfl,h,e,q⟩
theorem ixT {Q:V->Prop}(h:SqT K H p xs)(e:atI xs i=some v)(q:Q v):∃p' xs' i' v',V.ref p=.ref p'/\V.int i=.int i'/\SqT K H p' xs'/\atI xs' i'=some v'/\Q v':=⟨p,xs,i,v,rfl,rfl,h,e,q⟩
theorem exI {α:Type}{p Q:α->Prop}{a:α}(e:p a)(q:Q a):∃x,p x/\Q x:=⟨a,e,q⟩
end Tb
namespace Tb
open PySem L2
def top (i:Nat):Stmt:=PySem.Challenge.pw_turnbase_k53_fixing.main.body.getD i (.Pass ⟨0,0,0,0⟩)
abbrev zd8:Stmt:=top 12
abbrev E3:Stmt:=top 13
abbrev zd7:Stmt:=top 14
abbrev R9:Stmt:=top 15
abbrev yf6:Stmt:=top 16
abbrev zt4:Stmt:=top 17
abbrev ys8:Stmt:=top 18
abbrev zt6:Stmt:=top 19
abbrev zd9:Stmt:=top 22
abbrev E5:Stmt:=top 23
abbrev Q0:Stmt:=top 24
abbrev zj9:Stmt:=top 34
abbrev B7:Stmt:=top 35
abbrev B8:Stmt:=top 36
abbrev zt7:Stmt:=top 37
abbrev L0:Stmt:=top 38
abbrev zt5:Stmt:=top 39
abbrev O6:Stmt:=top 40
abbrev zk0:Stmt:=top 41
abbrev E4:Stmt:=top 45
abbrev X0:Stmt:=top 46
abbrev B6:Stmt:=top 52
abbrev F7:Stmt:=top 53
abbrev F6:Stmt:=top 54
abbrev F9:Stmt:=top 49
abbrev zg7:Stmt:=top 50
abbrev zd5:Stmt:=top 55
abbrev M9:Stmt:=top 56
abbrev zd6:Stmt:=top 57
abbrev O5:Stmt:=top 58
abbrev N9:Stmt:=top 59
abbrev zm4:Stmt:=top 60
def c8 (i j:Nat):Stmt:=match top i with | .ClassDef _ _ _ b _ _ _ _ _ _ _=>b.getD j (.Pass ⟨0,0,0,0⟩)|s=>s
abbrev R6:Stmt:=c8 29 0
abbrev zd4:Stmt:=c8 29 1
abbrev V9:Stmt:=c8 29 2
abbrev W3:Stmt:=c8 29 3
abbrev R8:Stmt:=c8 30 0
abbrev T4:Stmt:=c8 30 1
abbrev X5:Stmt:=c8 30 2
abbrev T3:Stmt:=c8 30 3
abbrev T1:Stmt:=c8 31 0
abbrev U1:Stmt:=c8 31 4
abbrev M8:Stmt:=c8 31 5
abbrev Z0:Stmt:=c8 31 3
abbrev O1:Stmt:=c8 31 2
abbrev G8:Stmt:=c8 31 1
abbrev G0:Stmt:=c8 31 8
abbrev T2:Stmt:=c8 47 0
abbrev F0:Stmt:=c8 47 1
abbrev G9:Stmt:=c8 47 3
abbrev R1:Stmt:=c8 47 8
abbrev R7:Stmt:=c8 47 9
abbrev U0:Stmt:=c8 31 9
abbrev X9:Stmt:=c8 47 2
abbrev O3:Stmt:=c8 47 14
abbrev Y0:Stmt:=c8 31 6
abbrev W9:Stmt:=c8 31 7
abbrev B5:Stmt:=c8 47 11
abbrev O2:Stmt:=c8 47 13
abbrev O0:Stmt:=c8 25 0
abbrev O4:Stmt:=c8 26 0
section
variable {P:gf}{w:gp}{K:W.Frag}{mg:Str->Option Value}{base:Heap}{f:Addr}{fd:gz}
def xy0:PyData->Bool
 | .int _=>true
 | .bool _=>true
 | _=>false
def xr6:PyData->Bool
 | .bool _=>true
 | _=>false
def xy1:PyData->Bool
 | .tuple _=>true
 | _=>false
def isW:PyData->Bool
 | .int _=>true
 | _=>false
theorem xy3:∀d:PyData,b8 (tyD d) "int"=some (xy0 d)
 | .none=>(by decide +kernel:b8 "NoneType" "int"=some false)
 | .bool _=>(by decide +kernel:b8 "bool" "int"=some true)
 | .int _=>(by decide +kernel:b8 "int" "int"=some true)
 | .str _=>(by decide +kernel:b8 "str" "int"=some false)
 | .list _=>(by decide +kernel:b8 "list" "int"=some false)
 | .tuple _=>(by decide +kernel:b8 "tuple" "int"=some false)
 | .dict _=>(by decide +kernel:b8 "dict" "int"=some false)
theorem yw3:∀d:PyData,b8 (tyD d) "bool"=some (xr6 d)
 | .none=>(by decide +kernel:b8 "NoneType" "bool"=some false)
 | .bool _=>(by decide +kernel:b8 "bool" "bool"=some true)
 | .int _=>(by decide +kernel:b8 "int" "bool"=some false)
 | .str _=>(by decide +kernel:b8 "str" "bool"=some false)
 | .list _=>(by decide +kernel:b8 "list" "bool"=some false)
 | .tuple _=>(by decide +kernel:b8 "tuple" "bool"=some false)
 | .dict _=>(by decide +kernel:b8 "dict" "bool"=some false)
theorem xy4:∀d:PyData,b8 (tyD d) "tuple"=some (xy1 d)
 | .none=>(by decide +kernel:b8 "NoneType" "tuple"=some false)
 | .bool _=>(by decide +kernel:b8 "bool" "tuple"=some false)
 | .int _=>(by decide +kernel:b8 "int" "tuple"=some false)
 | .str _=>(by decide +kernel:b8 "str" "tuple"=some false)
 | .list _=>(by decide +kernel:b8 "list" "tuple"=some false)
 | .tuple _=>(by decide +kernel:b8 "tuple" "tuple"=some true)
 | .dict _=>(by decide +kernel:b8 "dict" "tuple"=some false)
theorem scq {N P:List Str}{sc:Scope}(a:sc.kind=.function:=by rfl)(b:sc.isCoroutine=false:=by rfl)(c:sc.isGenerator=false:=by rfl)(d:N.Nodup:=by decide +kernel)(e:N.take P.length=P:=by rfl)(f:∀x∈P,sc.names.lookup x=some .local∨sc.names.lookup x=some .cell:=by decide +kernel)(g:∀y∈sc.names,y.2≠.free:=by decide +kernel):x0 N P sc:=⟨a,b,c,d,e,f,g⟩
theorem yl9:x0 ["thing"] ["thing"] (y6 zd8):=scq
def N1:Sp:=λvs H Q _=>∃(x:V) (d:PyData),vs=[x]/\Dt H x d/\Q (.bl (isW d)) H
theorem yk4 (D:Def K mg "is_whole" zd8 ["thing"] f fd)(B:Blt mg):u7 P w K mg base CX0 1 f fd ["thing"] N1:=by
 refine D.F.ok yl9 (λe H Q E h=>?_) (λc A outer s H e Q E hr h=>?_)
 .obtain⟨x,d,rfl,_⟩:=h;rfl
 obtain⟨x,d,rfl,a,q⟩:=h;refine⟨_,z8 (v0 (zd1 (w8 Y9 rfl B.isinstance n8 (z0 (pv 0) (z0 (Q6 (v:=.ty "int") rfl B.int xw9 rfl) z5)))
  (B2 (wa0 (w8 Y9 rfl B.isinstance n8 (z0 (pv 0) (z0 (Q6 (v:=.ty "bool") rfl B.bool xq7 rfl) z5))))))),?_⟩
 refine exI rfl ⟨_,_,_,_,rfl,a.ty,C6 (xy3 d),exI rfl ?_⟩
 cases d with
 | int i=>exact i9 (exI rfl ⟨_,_,_,_,rfl,a.ty,C6 (yw3 _),exI rfl q⟩)
 | bool b=>exact i9 (exI rfl ⟨_,_,_,_,rfl,a.ty,C6 (yw3 _),exI rfl q⟩)
 | none=>exact o0 q
 | str _=>exact o0 q
 | list _=>exact o0 q
 | tuple _=>exact o0 q
 | dict _=>exact o0 q
def zb7:List PyData->List Int
 | .int i::r=>i::zb7 r
 | _::r=>zb7 r
 | []=>[]
def yx9 (l:List Int):List Int:=l.mergeSort λa b=>decide (a<=b)
theorem ym2 {l m:List Int}(p:m.Perm l)(h:m.Pairwise (·<=·)):m=yx9 l:=by
 refine List.Perm.eq_of_pairwise (λa b _ _ h1 h2=>eY h1 h2) h ?_ (p.trans (List.mergeSort_perm l _).symm);exact(List.pairwise_mergeSort (le:=λa b:Int=>decide (a<=b)) (λa b c h1 h2=>decide_eq_true (cm (of_decide_eq_true h1) (of_decide_eq_true h2))) (λa b=>by
  show(decide (a<=b) || decide (b<=a))=true
  rw[fP,decide_eq_true_eq,decide_eq_true_eq]
  exact Int.le_total a b) l).imp λh=>of_decide_eq_true h
def yl5 (n:Nat):List Int:=(List.range n).map λ(i:Nat)=>(i:Int)
theorem wa9 (n:Nat):tI (List.range n)=(yl5 n).map V.int:=yz0 _
theorem C5:∀(ms rs:List Int),PyData.eqvAll (ms.map PyData.int) (rs.map PyData.int)=decide (ms=rs)
 | [],[]=>by simp[PyData.eqvAll]
 | [],_::_=>by simp[PyData.eqvAll]
 | _::_,[]=>by simp[PyData.eqvAll]
 | a::as,b::bs=>by
  rw[aN,aN,PyData.eqvAll,C5 as bs]
  by_cases h:a=b
  .subst h;simp[PyData.eqv]
  .simp[PyData.eqv,h]
theorem xa9 (ms a:List Int):PyData.eqv (.list (ms.map PyData.int)) (.list (a.map PyData.int))=decide (ms=a):=by rw[PyData.eqv,C5]
theorem yi8:∀ns:List Int,PyData.canLayAll0 (ns.map PyData.int)=true/\PyData.depthAll (ns.map PyData.int)<=1
 | []=>by simp[PyData.canLayAll0,PyData.depthAll]
 | n::r=>by
  obtain⟨h1,h2⟩:=yi8 r
  refine⟨by simp[PyData.canLayAll0,PyData.canLay0,h1],?_⟩
  simp only[aN,PyData.depthAll,PyData.depth]
  lia
theorem zm6 (ns:List Int):PySem.SeqAt.shaped (.list (ns.map PyData.int))=true:=by
 obtain⟨h1,h2⟩:=yi8 ns;unfold PySem.SeqAt.shaped;rw[bn];refine⟨by simp only[PyData.canLay0];exact h1,decide_eq_true ?_⟩;simp only[PyData.depth];lia
def c9:PyData->Bool
 | .tuple ds=>(decide (1<=ds.length)&&decide (ds.length<=60))&&(ds.all isW&&decide (yx9 (zb7 ds)=yl5 ds.length))
 | _=>false
theorem yw2 :∀{xs:List V} {ds:List PyData},Dts H xs ds->ds.all isW=true->xs=(zb7 ds).map V.int/\(zb7 ds).length=ds.length
 | _,_,.nil,_=>⟨rfl,rfl⟩
 | _,_,.cons h r,e=>by
  rw[dH,bn]at e
  obtain⟨h1,h2⟩:=yw2 r e.2
  cases h with
  | int i=>exact⟨by rw[h1];rfl,by show(i::zb7 _).length=_;rw[av,h2];rfl⟩
  | non=>cases e.1
  | bl _=>cases e.1
  | str _=>cases e.1
  | lst _ _=>cases e.1
  | tup _ _=>cases e.1
  | dct _=>cases e.1
def yy8:Sp:=λvs H Q _=>∃(x:V) (d:PyData),vs=[x]/\Dt H x d/\(∀ds,d=.tuple ds->ds.length<=1000)/\∀H':Hp,y4 H H'->Q (.bl (c9 d)) H'
theorem zy2:x0 ["thing"] ["thing"] (y6 E3):=scq
theorem zx4 (D:Def K mg "is_turning" E3 ["thing"] f fd)(B:Blt mg)(U:p6 P w K mg base 1 "is_whole" ["thing"] N1)(S:za6 mg "MOST_PLACES" (.int 60)):u7 P w K mg base CX0 2 f fd ["thing"] yy8:=by
 refine D.F.ok zy2 (λvs H Q E h=>?_) (λW A outer s H vs Q E hr h=>?_)
 .obtain⟨x,d,rfl,_⟩:=h;rfl
 obtain⟨x,d,rfl,R,k,q⟩:=h;refine⟨_,z7 (n4 (PW.pt (B3 (Y7 (Z4 (w8 Y9 rfl B.isinstance n8 (z0 (pv 0) (z0 (Q6 (v:=.ty "tuple") rfl B.tuple f9 rfl) z5))))) (M7 (Y7 (zt2 zs5 zs5 y8 (w8 v1 rfl B.len i8 (z0 (pv 0) z5)) (K2 S rfl)))))) (z8 (v0 Y3)) u4)
  (z7 (n4 (Y7 (Z4 (w8 (P1 rfl) rfl B.all zh9 (z0 (b6 [] ["place"] rfl (zd2 (pv 0)) (λ_ _ _ _=>r6 U hr rfl (z0 (pv 0) z5))) z5)))) (z8 (v0 Y3)) u4)
  (z8 (v0 (J7 (xz5 hr.units) (w8 yc1 rfl B.sorted zi0 (z0 (pv 0) z5)) (u9 (M5 rfl) rfl B.list W1 (z0 (u9 L5 rfl B.range D8 (z0 (w8 v1 rfl B.len i8 (z0 (pv 0) z5)) z5)) z5)) (o6 _))))),?_⟩
 refine exI rfl ⟨_,_,_,_,rfl,R.ty,C6 (xy4 d),exI rfl ?_⟩
 cases R with
 | non=>exact i9 (q H (y4.refl _))
 | bl b=>exact i9 (q H (y4.refl _))
 | int i=>exact i9 (q H (y4.refl _))
 | str t=>exact i9 (q H (y4.refl _))
 | lst _ _=>exact i9 (q H (y4.refl _))
 | dct _=>exact i9 (q H (y4.refl _))
 | @tup b xs ds hb hs =>
 have m:=hs.length;have y:=k ds rfl;refine o0 (exI rfl ⟨b,exI rfl ⟨.inr (SqT.of hb),_,_,rfl,rfl,_,rfl,?_⟩⟩);by_cases h1:1<=ds.length
 case neg =>
  rw[decide_eq_false (show ¬(1:Int)<=((xs.length:Nat):Int) by lia)];refine o0 (exI rfl (i9 ?_));have e:c9 (.tuple ds)=false:=by simp only[c9];rw[decide_eq_false h1];rfl
  exact e ▸ q H (y4.refl _)
 rw[decide_eq_true (show(1:Int)<=((xs.length:Nat):Int) by lia)];refine i9 ⟨_,_,rfl,rfl,_,rfl,?_⟩;by_cases h2:ds.length<=60
 case neg =>
  rw[decide_eq_false (show ¬((xs.length:Nat):Int)<=(60:Int) by lia)];refine i9 ?_;have e:c9 (.tuple ds)=false:=by simp only[c9];rw[decide_eq_false h2,ff];rfl
  exact e ▸ q H (y4.refl _)
 rw[decide_eq_true (show((xs.length:Nat):Int)<=(60:Int) by lia)];refine o0 ?_;refine exI rfl ⟨b,rfl,⟨_,SqT.of hb⟩,L7 (SqT.of hb) ((ds.map isW).map V.bl) (by rw[ae,ae,m]) (by rw[m];exact small (by lia)) ?_ ?_⟩
 .intro j H' x hx s' _ _ _ _;obtain⟨X,u,I⟩:=hs.get hx;refine exI rfl ⟨_,X,rfl,I.same s',y4.refl _,?_⟩;rw[al,al,u];rfl
 intro nm o _ J z;refine⟨nm,exI rfl ⟨SqL.of z,exI rfl ?_⟩⟩;have c:(ds.map isW).all id=ds.all isW:=by rw[eL];rfl
 rw[c]
 cases hall:ds.all isW with
 | false =>
  have e:c9 (.tuple ds)=false:=by simp only[c9];rw[hall,fc,ff]
  exact i9 (e ▸ q o J)
 | true =>
  refine o0 ?_;obtain⟨ex,el⟩:=yw2 hs hall;have g:=J _ _ hb;refine exI rfl ⟨b,zb7 ds,rfl,SqT.of (by rw[←ex];exact g),by lia,λl a Y Z hw=>?_⟩;have L:=y0 Y (.lst (a.map V.int));have N:(upd o l (.lst (a.map V.int))) l=some (.lst (a.map V.int)):=z4;generalize upd o l (.lst (a.map V.int))=n at L N ⊢;refine exI rfl ⟨b,exI rfl ⟨.inr (SqT.of (L _ _ g)),exI rfl (λp C=>⟨p,0,exI rfl ⟨z4,⟨by lia,by lia,by lia,by lia,by lia⟩,λr G=>?_⟩⟩)⟩⟩;have M:y4 n (upd (upd n p (.rng 0 ((xs.length:Nat):Int))) r (.lst (V6 0 (((xs.length:Nat):Int)-0).toNat))):=(y0 C _).trans (y0 G _);have O:(upd (upd n p (.rng 0 ((xs.length:Nat):Int))) r (.lst (V6 0 (((xs.length:Nat):Int)-0).toNat))) r=some (.lst ((yl5 ds.length).map V.int)):=by
   rw[z4,show(((xs.length:Nat):Int)-0).toNat=ds.length by lia,A3,wa9]
  generalize upd (upd n p (.rng 0 ((xs.length:Nat):Int))) r (.lst (V6 0 (((xs.length:Nat):Int)-0).toNat))=T at M O ⊢;refine⟨.list (a.map PyData.int),.list ((yl5 ds.length).map PyData.int),.lst (SqL.of (M _ _ N)) (zc3.ints _),.lst (SqL.of O) (zc3.ints _),zm6 _,zm6 _,?_⟩;have e:c9 (.tuple ds)=PyData.eqv (.list (a.map PyData.int)) (.list ((yl5 ds.length).map PyData.int)):=by
   simp only[c9];rw[xa9,hall,decide_eq_true h1,decide_eq_true h2,ym2 Z hw];rfl
  rw[←e];exact q T (J.trans (L.trans M))
theorem zh4 {R:TS->Prop}(h:DSs X st t)(r:R t):∃t,PSs X st t/\R t:=⟨t,h.h,r⟩
def plD (n:Nat):PyData->Option Nat
 | .int i=>if 0<=i/\i<(n:Int) then some i.toNat else none
 | _=>none
def yt0:PyData->Option (List PyData)
 | .list ds=>some ds
 | .tuple ds=>some ds
 | _=>none
def zj5 (n:Nat):List PyData->Option (List Nat)
 | []=>some []
 | d::ds=>(plD n d).bind λx=>(zj5 n ds).map λl=>x::l
def zb1 (m n:Nat)(d:PyData):Option (List Nat):=(yt0 d).bind λds=>if ds.length<=m then zj5 n ds else none
theorem yf1 {i:Int}:plD n (.int i)=if 0<=i/\i<(n:Int) then some i.toNat else none:=rfl
theorem wa3 (h:plD n d=some x):d=.int x/\x<n:=by
 cases d with
 | int i =>
  rw[yf1]at h;by_cases hi:0<=i/\i<(n:Int)
  .rw[if_pos hi]at h
   cases h
   exact⟨by rw[Int.toNat_of_nonneg hi.1],by lia⟩
  .rw[if_neg hi]at h
   cases h
 | _=>cases h
theorem zp1 :∀{ds:List PyData} {l:List Nat},zj5 n ds=some l->l.length=ds.length/\ds=l.map (λ(x:Nat)=>PyData.int x)/\∀x∈l,x<n
 | [],l,h=>by
  cases h
  exact⟨rfl,rfl,λx hx=>by cases hx⟩
 | d::ds,l,h=>by
  obtain⟨x,hx,h⟩:=Option.bind_eq_some_iff.mp h
  obtain⟨l',hl,rfl⟩:=cU.mp h
  obtain⟨e,hn⟩:=wa3 hx
  obtain⟨a,b,c⟩:=zp1 hl
  exact⟨by rw[av,av,a],by rw[e,aN,←b],λy hy=>(ax.mp hy).elim (λq=>q ▸ hn) (c y)⟩
theorem yc3 :∀l:List Nat,Dts H (tI l) (l.map λ(x:Nat)=>PyData.int x)
 | []=>.nil
 | x::l=>.cons (.int _) (yc3 l)
theorem yv5 {l:List Nat}(h:Dts H xs (l.map λ(x:Nat)=>PyData.int x)):xs=tI l:=by
 induction l generalizing xs with
 | nil=>cases h;rfl
 | cons x l ih =>
  cases h with
  | cons h1 h2 =>
   cases h1
   rw[ih h2];rfl
def zu9:Sp:=λvs H Q _=>∃(x:V) (d:PyData) (n:Nat),vs=[x,.int n]/\Dt H x d/\Q (.bl (plD n d).isSome) H
theorem yl8:x0 ["thing","many"] ["thing","many"] (y6 zd7):=scq
theorem yk3 (D:Def K mg "is_place" zd7 ["thing","many"] f fd)(B:Blt mg)(g:p6 P w K mg base 1 "is_whole" ["thing"] N1):u7 P w K mg base CX0 2 f fd ["thing","many"] zu9:=by
 refine D.F.ok yl8 (λk H Q E h=>?_) (λj A outer s H k Q E hr h=>?_)
 .obtain⟨x,d,n,rfl,_⟩:=h;rfl
 obtain⟨x,d,n,rfl,b,q⟩:=h;refine⟨_,z8 (v0 (zd1 (r6 g hr rfl (z0 (pv 0) z5)) (B2 (yk9 zs5 ya0 y8 (pv 0) (pv 1))))),?_⟩;refine exI rfl ⟨_,d,rfl,b,exI rfl ?_⟩;by_cases e:isW d=true
 .cases b with
  | int i =>
   refine i9 (exI rfl ⟨_,_,rfl,rfl,_,rfl,?_⟩);rw[yf1]at q;by_cases a:0<=i
   .rw[decide_eq_true a];refine i9 (exI rfl ⟨_,_,rfl,rfl,?_⟩);by_cases h1:i<(n:Int)
    .rw[if_pos ⟨a,h1⟩]at q;show Q (.bl (decide (i<(n:Int)))) H;rw[decide_eq_true h1];exact q
    .rw[if_neg λz=>h1 z.2]at q;show Q (.bl (decide (i<(n:Int)))) H;rw[decide_eq_false h1];exact q
   .rw[decide_eq_false a];rw[if_neg λz=>a z.1]at q;exact o0 q
  | _=>cases e
 .have c:isW d=false:=by simpa using e
  rw[c];have:(plD n d).isSome=false:=by cases d <;> first|rfl|cases c
  rw[this]at q;exact o0 q
def ze2 (C:Addr):Sp:=λvs H Q E=>∃(x:V) (d:PyData) (m:Nat),vs=[x,.int m]/\Dt H x d/\((∃ds,yt0 d=some ds/\ds.length<=m)->∀H',y4 H H'->Q .non H')/\((∀ds,yt0 d=some ds->m<ds.length)->∀H',y4 H H'->E (.ref C) none H')
theorem ym0:x0 ["thing","most"] ["thing","most"] (y6 zd9):=scq
theorem yk5 (D:Def K mg "need_row" zd9 ["thing","most"] f fd)(B:Blt mg){TE C:Addr}(l:zp7 K mg TE "NoThing" C)(u:∀d,W.kitAny K (.type (tyD d)) [.type "list",.type "tuple"]=some (yt0 d).isSome):P4 P w K mg base 1 "need_row" ["thing","most"] (ze2 C):=by
 refine⟨f,fd,?_,D.F.kp,D.m,D.b⟩;refine D.F.okX ym0 (λy H Q E h=>?_) (λo A outer s H y Q E hr h=>?_)
 .obtain⟨x,d,m,rfl,_⟩:=h;rfl
 obtain⟨x,d,m,rfl,r,q,k⟩:=h;refine⟨_,z8 (n4 (PW.pt (B3 (Y7 (Z4 (w8 yb7 rfl B.isinstance n8 (z0 (pv 0) (z0 (P9 (z0 (Q6 (v:=.ty "list") rfl B.list W1 rfl) (z0 (Q6 (v:=.ty "tuple") rfl B.tuple f9 rfl) z5))) z5))))) (M7 (p5 yk7 (w8 v1 rfl B.len i8 (z0 (pv 0) z5)) (pv 1) (o6 _))))) (z8 (zt1 l.m l.c PySem.F.excBase_ValueError rfl rfl (z0 W7 z5))) u4),?_⟩;refine exI rfl ⟨small (show 2<=1000 by decide),λp t=>?_⟩;have s1:=y0 t (.tup [V.ty "list",V.ty "tuple"]);have n:(upd H p (.tup [V.ty "list",V.ty "tuple"])) p=some (.tup (["list","tuple"].map V.ty)):=z4;generalize upd H p (.tup [V.ty "list",V.ty "tuple"])=H1 at s1 n ⊢;have j:=r.same s1;refine⟨_,d,p,["list","tuple"],exI rfl ⟨j,SqT.of n,u d,exI rfl ?_⟩⟩
 cases j with
 | @lst a xs ds e hs =>
  refine o0 (exI rfl ⟨a,exI rfl ⟨.inl (SqL.of e),exI rfl ⟨_,_,rfl,rfl,_,rfl,?_⟩⟩⟩);rw[hs.length];rcases cF m ds.length with g|g
  .rw[decide_eq_true (show((ds.length:Nat):Int) > (m:Int) by lia)];exact i9 ⟨by decide,k (λi h=>by cases h;exact g) H1 s1⟩
  .rw[decide_eq_false (show ¬((ds.length:Nat):Int) > (m:Int) by lia)];exact o0 (q ⟨ds,rfl,g⟩ H1 s1)
 | @tup a xs ds e hs =>
  refine o0 (exI rfl ⟨a,exI rfl ⟨.inr (SqT.of e),exI rfl ⟨_,_,rfl,rfl,_,rfl,?_⟩⟩⟩);rw[hs.length];rcases cF m ds.length with g|g
  .rw[decide_eq_true (show((ds.length:Nat):Int) > (m:Int) by lia)];exact i9 ⟨by decide,k (λi h=>by cases h;exact g) H1 s1⟩
  .rw[decide_eq_false (show ¬((ds.length:Nat):Int) > (m:Int) by lia)];exact o0 (q ⟨ds,rfl,g⟩ H1 s1)
 | _=>exact i9 ⟨by decide,k (λi h=>by cases h) H1 s1⟩
def zh5 (C:Addr):Sp:=λvs H Q E=>∃(x:V) (d:PyData) (n:Nat),vs=[x,.int n]/\Dt H x d/\(∀y,plD n d=some y->Q .non H)/\(plD n d=none->E (.ref C) none H)
theorem zy4:x0 ["thing","many"] ["thing","many"] (y6 E5):=scq
theorem zx6 (D:Def K mg "need_place" E5 ["thing","many"] f fd)(B:Blt mg)(g:p6 P w K mg base 2 "is_place" ["thing","many"] zu9){TE C:Addr}(a:zp7 K mg TE "NoThing" C):P4 P w K mg base 3 "need_place" ["thing","many"] (zh5 C):=by
 refine⟨f,fd,?_,D.F.kp,D.m,D.b⟩;refine D.F.okX zy4 (λl H Q E h=>?_) (λi A outer s H l Q E hr h=>?_)
 .obtain⟨x,d,n,rfl,_⟩:=h;rfl
 obtain⟨x,d,n,rfl,j,q,k⟩:=h;refine⟨_,z8 (n4 (Y7 (Z4 (r6 g hr rfl (z0 (pv 0) (z0 (pv 1) z5))))) (z8 (zt1 a.m a.c PySem.F.excBase_ValueError rfl rfl (z0 W7 z5))) u4),?_⟩;refine exI rfl (exI rfl ⟨x,d,n,rfl,j,exI rfl ?_⟩)
 cases e:plD n d with
 | some y=>exact o0 (q y e)
 | none=>exact i9 ⟨by decide,k e⟩
def xo5 (C:Addr):Sp:=λvs H Q E=>∃(x:V) (d:PyData) (m n:Nat),vs=[x,.int m,.int n]/\Dt H x d/\m<=1000/\(∀l,zb1 m n d=some l->∀(r:Addr) (H':Hp),y4 H H'->H' r=some (.tup (tI l))->Q (.ref r) H')/\(zb1 m n d=none->∀H',y4 H H'->E (.ref C) none H')
theorem K4:x0 ["thing","most","many","place"] ["thing","most","many"] (y6 Q0):=scq
theorem A8 :∀{ds:List PyData} {i:Nat} {d:PyData},ds[i]?=some d->plD n d=none->zj5 n ds=none
 | d::ds,0,d',h,hd=>by
  cases h
  unfold zj5
  rw[hd]
  rfl
 | d::ds,i+1,d',h,hd=>by
  have:=A8 (ds:=ds) (i:=i) h hd
  unfold zj5
  rw[this]
  cases plD n d <;> rfl
theorem zj6 :∀{ds:List PyData},(∀(i:Nat) (d:PyData),ds[i]?=some d->∃x,plD n d=some x)->∃l,zj5 n ds=some l
 | [],_=>⟨[],rfl⟩
 | d::ds,h=>by
  obtain⟨x,hx⟩:=h 0 d rfl
  obtain⟨l,hl⟩:=zj6 (ds:=ds) λi d' hi=>h (i+1) d' hi
  exact⟨x::l,by unfold zj5;rw[hx,hl];rfl⟩
theorem yp6 :∀{xs:List V} {ds:List PyData},Dts H xs ds->∀(i:Nat) (x:V),xs[i]?=some x->∃d,ds[i]?=some d/\Dt H x d
 | _,_,.nil,i,x,hx=>by cases hx
 | _,_,.cons h1 h2,0,x,hx=>by cases hx;exact exI rfl h1
 | _,_,.cons h1 h2,i+1,x,hx=>yp6 h2 i x hx
theorem zj3 (D:Def K mg "row_of_places" Q0 ["thing","most","many"] f fd)(B:Blt mg)(W:P4 P w K mg base 1 "need_row" ["thing","most"] (ze2 C))(U:P4 P w K mg base 3 "need_place" ["thing","many"] (zh5 C)):P4 P w K mg base 4 "row_of_places" ["thing","most","many"] (xo5 C):=by
 refine⟨f,fd,?_,D.F.kp,D.m,D.b⟩;refine D.F.okX K4 (λZ H Q E h=>?_) (λX A outer s H Z Q E hr h=>?_)
 .obtain⟨x,d,m,n,rfl,_⟩:=h;rfl
 obtain⟨x,d,m,n,rfl,T,hm,q,S⟩:=h;refine⟨_,z7 (i5 (yr9 W hr rfl (z0 (pv 0) (z0 (pv 1) z5))))
  (z7 (Z9 PassesOwn.leaving rfl (xl4 (pv 0)) (t9 (i:=3) K4.nd rfl (Or.inl rfl)) (z8 (i5 (yr9 U hr rfl (z0 (pv 3) (z0 (pv 2) z5))))))
  (z8 (v0 (u9 l5 rfl B.tuple f9 (z0 (pv 0) z5))))),?_⟩
 refine exI rfl (exI rfl ⟨x,d,m,rfl,T,λ⟨ds,p,Y⟩ H1 s1=>?_,λN H1 s1=>S ?_ H1 s1⟩)
 .have G:zb1 m n d=zj5 n ds:=by unfold zb1;rw[p];exact if_pos Y
  have M:=T.same s1
  cases M with
  | @lst a xs ds' e hs =>
   cases p
   refine exI rfl ⟨a,rfl,.inl ⟨⟨_,SqL.of e⟩,V5 (K:=K) (a:=a) (xs:=xs) (λi σ H2=>(∃v:Option V,σ=[some (.ref a),some (.int m),some (.int n),v]/\H2=H1)/\∀(j:Nat) (d:PyData),j<i->ds[j]?=some d->∃x,plD n d=some x) ⟨⟨none,rfl,rfl⟩,λj d t=>absurd t (bR _)⟩ (λi σ H2 _ ⟨⟨_,_,L⟩,_⟩=>by rw[L];exact SqL.of e) ?_ ?_⟩⟩
   .rintro i y σ H2 hi ⟨⟨v,rfl,rfl⟩,c⟩;obtain⟨I,k,R⟩:=yp6 hs i y hi;refine exI rfl (exI rfl ⟨y,I,n,rfl,R,λz u=>⟨⟨_,rfl,rfl⟩,λj J t g=>?_⟩,λu=>S (by rw[G];exact A8 k u) _ s1⟩);rcases Nat.lt_succ_iff_lt_or_eq.mp t with h|h
    .exact c j J h g
    .subst h;rw[k]at g
     cases g
     exact⟨z,u⟩
   .rintro σ H2 ⟨⟨v,rfl,rfl⟩,c⟩;obtain⟨l,o⟩:=zj6 (n:=n) (ds:=ds) λi d hi=>c i d (by rw[hs.length];exact(ag.mp hi).1) hi;have ex:xs=tI l:=by
     rw[(zp1 o).2.1]at hs;exact yv5 hs
    refine exI rfl ⟨a,exI rfl (.inl ⟨SqL.of e,λr O=>q l (G.trans o) r _ (s1.trans (y0 O _)) ?_⟩)⟩;rw[z4,ex]
  | @tup a xs ds' e hs =>
   cases p
   refine exI rfl ⟨a,rfl,.inr ⟨⟨_,SqT.of e⟩,yc5 (K:=K) (a:=a) (xs:=xs) (λi σ H2=>(∃v:Option V,σ=[some (.ref a),some (.int m),some (.int n),v]/\H2=H1)/\∀(j:Nat) (d:PyData),j<i->ds[j]?=some d->∃x,plD n d=some x) ⟨⟨none,rfl,rfl⟩,λj d t=>absurd t (bR _)⟩ (λi σ H2 _ ⟨⟨_,_,L⟩,_⟩=>by rw[L];exact SqT.of e) ?_ ?_⟩⟩
   .rintro i y σ H2 hi ⟨⟨v,rfl,rfl⟩,c⟩;obtain⟨I,k,R⟩:=yp6 hs i y hi;refine exI rfl (exI rfl ⟨y,I,n,rfl,R,λz u=>⟨⟨_,rfl,rfl⟩,λj J t g=>?_⟩,λu=>S (by rw[G];exact A8 k u) _ s1⟩);rcases Nat.lt_succ_iff_lt_or_eq.mp t with h|h
    .exact c j J h g
    .subst h;rw[k]at g
     cases g
     exact⟨z,u⟩
   .rintro σ H2 ⟨⟨v,rfl,rfl⟩,c⟩;obtain⟨l,o⟩:=zj6 (n:=n) (ds:=ds) λi d hi=>c i d (by rw[hs.length];exact(ag.mp hi).1) hi;have ex:xs=tI l:=by
     rw[(zp1 o).2.1]at hs;exact yv5 hs
    exact exI rfl ⟨a,exI rfl (.inr ⟨SqT.of e,q l (G.trans o) a _ s1 (by rw[←ex];exact e)⟩)⟩
  | _=>cases p
 .unfold zb1
  cases e:yt0 d with
  | none=>rfl
  | some ds=>exact if_neg (Nat.not_le.mpr (N ds e))
def N0:Sp:=λvs H Q _=>∃(x:V) (d:PyData) (n:Nat),vs=[x,.int n]/\Dt H x d/\(∀ds,d=.tuple ds->ds.length<=1000)/\∀H':Hp,y4 H H'->Q (.bl (c9 d&&match d with | .tuple ds=>decide (ds.length=n)|_=>false)) H'
theorem zk5:x0 ["thing","many"] ["thing","many"] (y6 R9):=scq
theorem xe8 (h:c9 d=true):∃ds,d=.tuple ds:=by
 cases d with
 | tuple ds=>exact⟨ds,rfl⟩
 | _=>cases h
theorem zj2 (D:Def K mg "is_turning_of" R9 ["thing","many"] f fd)(B:Blt mg)(KT:p6 P w K mg base 2 "is_turning" ["thing"] yy8):u7 P w K mg base CX0 3 f fd ["thing","many"] N0:=by
 refine D.F.ok zk5 (λk H Q E h=>?_) (λi A outer s H k Q E hr h=>?_)
 .obtain⟨x,d,n,rfl,_⟩:=h;rfl
 obtain⟨x,d,n,rfl,c,j,q⟩:=h;refine⟨_,z8 (v0 (zd1 (r6 KT hr rfl (z0 (pv 0) z5)) (B2 (J7 P7 (w8 v1 rfl B.len i8 (z0 (pv 0) z5)) (pv 1) (o6 _))))),?_⟩;refine exI rfl ⟨x,d,rfl,c,j,λH1 s1=>?_⟩
 cases ht:c9 d with
 | false =>
  have:=q H1 s1;rw[ht,fc]at this;exact exI rfl (o0 this)
 | true =>
  obtain⟨ds,rfl⟩:=xe8 ht;have g:=q H1 s1;rw[ht,Bool.true_and]at g;have b:=c.same s1
  cases b with
  | @tup a xs _ e r =>
   refine exI rfl (i9 (exI rfl ⟨a,exI rfl ⟨.inr (SqT.of e),_,rfl,rfl,?_⟩⟩));rw[c7,r.length];rw[show decide (((ds.length:Nat):Int)=(n:Int))=decide (ds.length=n) from decide_eq_decide.mpr (by lia)];exact g
def zh6:Sp:=λvs H Q _=>∃n:Nat,vs=[.int n]/\n<=1000/\∀(r:Addr) (H':Hp),H r=none->y4 H H'->H' r=some (.tup (tI (List.range n)))->Q (.ref r) H'
theorem xn4:x0 ["many"] ["many"] (y6 yf6):=scq
theorem xk7 (D:Def K mg "still" yf6 ["many"] f fd)(B:Blt mg):u7 P w K mg base CX0 1 f fd ["many"] zh6:=by
 refine D.F.ok xn4 (λg H Q E h=>?_) (λc A outer s H g Q E hr h=>?_)
 .obtain⟨n,rfl,_⟩:=h;rfl
 obtain⟨n,rfl,i,q⟩:=h;refine⟨_,z8 (v0 (u9 (C1 rfl) rfl B.tuple f9 (z0 (u9 L5 rfl B.range D8 (z0 (pv 0) z5)) z5))),?_⟩;refine exI rfl (exI rfl (λp d=>⟨p,0,(n:Int),rfl,z4,⟨by lia,by lia,by lia,by lia,by lia⟩,λr a=>?_⟩));rw[show((n:Int)-0).toNat=n by lia,A3];have e:p≠r:=z9 z4 a;have b:H r=none:=by
  have:=a;rwa [z6 (Ne.symm e)]at this
 exact q r _ b (u8 (y0 d _) b _) z4
def K5 (K:W.Frag):Sp:=λvs H Q _=>∃(a b:Addr) (one other:List Nat),vs=[.ref a,.ref b]/\SqT K H a (tI one)/\SqT K H b (tI other)/\one.length<=1000/\(∀x∈one,x<other.length) /\
 ∀(r:Addr) (H':Hp),H r=none->y4 H H'->H' r=some (.tup (tI (one.map λx=>other.getD x 0)))->Q (.ref r) H'
theorem xe5:x0 ["one","other"] ["one","other"] (y6 zt4):=scq
theorem xc3 (D:Def K mg "behind" zt4 ["one","other"] f fd)(B:Blt mg):u7 P w K mg base CX0 1 f fd ["one","other"] (K5 K):=by
 refine D.F.ok xe5 (λy H Q E h=>?_) (λr A outer s H y Q E hr h=>?_)
 .obtain⟨a,b,one,c,rfl,_⟩:=h;rfl
 obtain⟨a,b,one,c,rfl,k,t,u,g,q⟩:=h;refine⟨_,z8 (v0 (u9 l5 rfl B.tuple f9 (z0 (b6 [1] ["place","other"] rfl (zd2 (pv 0)) (λ_ _ _ _=>p9 Y6 (pv 1) (pv 0) (λ_ _=>rfl))) z5))),?_⟩;refine exI rfl ⟨a,rfl,⟨_,k⟩,L7 k (tI (one.map λx=>c.getD x 0)) (by rw[x9,x9,ae]) (by rw[x9];exact small u) ?_ ?_⟩
 .intro i H1 x v s1 _ _ _ _;obtain⟨p,n,rfl⟩:=X7 v;have j:p<c.length:=g p (au n);have m:c[p]?=some c[p]:=aa j;refine exI rfl (exI rfl ⟨b,_,_,_,rfl,rfl,s1.seqT t,A2 m,y4.refl _,?_⟩);rw[yu0,al,n];simp[ah,m]
 .intro o H1 z s1 e;exact⟨o,exI rfl (.inl ⟨SqL.of e,λl d=>q l _ (s1.free d) (u8 s1 (s1.free d) _) z4⟩)⟩
def zu4 (K:W.Frag):Sp:=λvs H Q _=>∃(a:Addr) (n:Nat) (one:List Nat),vs=[.ref a]/\SqT K H a (tI one)/\TM.IsT n one/\n<=1000 /\
 ∀(r:Addr) (H':Hp) (b:List Nat),H r=none->y4 H H'->TM.Back n one n b->H' r=some (.tup (tI b))->Q (.ref r) H'
theorem zp3:x0 ["one","goes","place","to"] ["one"] (y6 ys8):=scq
theorem xs5 (D:Def K mg "back" ys8 ["one"] f fd)(B:Blt mg):u7 P w K mg base CX0 1 f fd ["one"] (zu4 K):=by
 refine D.F.ok zp3 (λC H Q E h=>?_) (λv A outer s H C Q E hr h=>?_)
 .obtain⟨a,n,one,rfl,_⟩:=h;rfl
 obtain⟨a,n,one,rfl,k,hT,G,q⟩:=h;refine⟨_,z7 (u0 (i:=1) zp3.nd rfl (Or.inl rfl) (u9 Q4 rfl B.list W1 (z0 (pv 0) z5)))
  (z7 (Z9 PassesOwn.never rfl (zs9 rfl B.enumerate (z0 (pv 0) z5)) (J9 rfl (i6 (t9 (i:=2) zp3.nd rfl (Or.inl rfl)) (i6 (t9 (i:=3) zp3.nd rfl (Or.inl rfl)) Q7)))
   (z8 (zd3 (pv 2) (zs8 (pv 1) (pv 3) A1))))
  (z8 (v0 (u9 l5 rfl B.tuple f9 (z0 (pv 1) z5))))),?_⟩
 refine exI rfl ⟨a,tI one,rfl,.inr k,λg r=>?_⟩;have s0:y4 H (upd H g (.lst (tI one))):=y0 r _;refine exI rfl ⟨a,rfl,⟨_,s0.seqT k⟩,L8 (xs:=tI one) (λi σ H2=>∃(b:List Nat) (o p:Option V),σ=[some (.ref a),some (.ref g),o,p]/\y4 H H2/\H2 g=some (.lst (tI b))/\TM.Back n one i b)
  ⟨one,none,none,rfl,s0,z4,TM.Back.start hT.length⟩ (λi σ H2 _ ⟨_,_,_,_,d,_⟩=>d.seqT k) ?_ ?_⟩
 .rintro i x σ H2 T z ⟨b,o,p,rfl,d,c,bk⟩ e;obtain⟨y,u,rfl⟩:=X7 z;have j:g≠T:=z9 c e;have m:y<b.length:=by rw[bk.len];exact hT.get_lt u
  refine⟨T,exI rfl ⟨SqT.of z4,rfl,_,_,rfl,_,_,rfl,rfl,?_⟩⟩;refine exI rfl (exI rfl (exI rfl ⟨g,tI b,_,y,rfl,rfl,by rw[z6 j];exact c,by rw[x9];exact zf2 m,?_⟩));refine⟨b.set y i,_,_,rfl,u8 (u8 d (d.free e) _) r _,by rw[z4,yg4],bk.step hT u⟩
 .rintro σ H2 ⟨b,o,p,rfl,d,c,bk⟩;rw[x9,hT.length]at bk;exact exI rfl ⟨g,tI b,rfl,.inl ⟨SqL.of c,λl t=>q l _ b (d.free t) (u8 d (d.free t) _) bk z4⟩⟩
structure m9 (K:W.Frag) (C:Addr) (xs:List Str):Prop where
 cls:Cls K C
 no:∀x∈xs,K9 K C x
theorem p7 {f:Str}{H:Hp}{fs:List (Str×V)}{v:V}{Q:V->Prop}(cl:m9 K c fl)(h:H a=some (.ins c dx fs))(e:fs.lookup f=some v)(q:Q v)(m:f∈fl:=by decide):∃a' C dx' fs' v',V.ref a=.ref a'/\H a'=some (.ins C dx' fs')/\Cls K C/\K9 K C f/\fs'.lookup f=some v'/\Q v':=⟨a,c,dx,fs,v,rfl,h,cl.cls,cl.no f m,e,q⟩
def w6 (F:List Addr)(H H':Hp):Prop:=∀b o,b∉F->H b=some o->H' b=some o
theorem w6.refl :w6 F H H:=λ_ _ _ h=>h
theorem w6.trans (a:w6 F H H1)(b:w6 F H1 H2):w6 F H H2:=λc o hc h=>b c o hc (a c o hc h)
theorem y4.frame (s:y4 H H'):w6 F H H':=λb o _ h=>s b o h
theorem w6.upd (s:w6 F H H')(ha:a∈F)(o:HO):w6 F H (L2.upd H' a o):=λb u hb h=>by
 rw[z6 (λe=>hb (by rw[e];exact ha))]
 exact s b u hb h
theorem w6.more (s:w6 F H H')(h:∀a∈F,a∈G):w6 G H H':=λb o hb e=>s b o (λz=>hb (h b z)) e
def kI (l:List (Nat×Nat)):List (Key×V):=l.map λx=>(Sum.inl (x.1:Int),V.int (x.2:Int))
theorem J3 (l:List (Nat×Nat)):(kI l).length=l.length:=ae _
def atN {α:Type}(l:List (Nat×α))(k:Nat):Option α:=(l.find? λx=>decide (x.1=k)).map (·.2)
theorem T9 (l:List (Nat×Nat))(k:Nat):V0 (kI l) (Sum.inl (k:Int))=(atN l k).map λx=>V.int x:=by
 induction l with
 | nil=>rfl
 | cons x r ih =>
  by_cases h:x.1=k
  .have e:atN (x::r) k=some x.2:=by unfold atN;rw[cY (by simpa using h)];rfl
   rw[e];exact d9 (p:=(Sum.inl (x.1:Int),V.int (x.2:Int))) (by show(Sum.inl (x.1:Int):Key)=Sum.inl (k:Int);rw[h])
  .have e:atN (x::r) k=atN r k:=by unfold atN;rw[cZ (by simpa using h)]
   rw[e,←ih];exact g6 (p:=(Sum.inl (x.1:Int),V.int (x.2:Int))) λz=>h (by have:=Sum.inl.inj z;lia)
structure StS where
 mv:List Nat
 to:List (Nat×Nat)
 wt:List (Nat×Nat)
 lk:Nat
structure ChS where
 ln:List TM.Ln
 md:List (List Nat)
 bl:List (Nat×Nat)
 st:List StS
 src:Nat->List Nat
structure StA where
 a:Addr
 m:Addr
 lt:Addr
 bf:Addr
 w:Addr
structure ChA where
 c:Addr
 b:Addr
 ll:Addr
 lm:Addr
 d:Addr
 l:Addr
 st:List StA
def StA.all (s:StA):List Addr:=[s.a,s.m,s.lt,s.bf,s.w]
def ChA.all (A:ChA):List Addr:=[A.c,A.b,A.ll,A.lm,A.d,A.l]++(A.st.map StA.all).flatten
structure U6 (cB:Addr) (H:Hp) (A:ChA) (S:ChS):Prop where
 b:∃dx,H A.b=some (.ins cB dx [("lines",.ref A.ll),("made",.ref A.lm),("back_lines",.ref A.d)])
 ll:∃as,H A.ll=some (.lst (as.map V.ref))/\Z7 H as S.ln
 lm:∃as,H A.lm=some (.lst (as.map V.ref))/\c6 H as S.md
 d:H A.d=some (.dK (kI S.bl))
 len:S.ln.length=S.md.length
theorem c6.upd (h:c6 H as ts)(ha:∀xs,H a≠some (.tup xs)):c6 (L2.upd H a o) as ts:=Paired.imp' (λb t e=>by
 rw[z6 (λz=>by subst z;exact ha _ e)];exact e) h
theorem Z7.upd (h:Z7 H as ls)(ha:∀xs,H a≠some (.tup xs)):Z7 (L2.upd H a o) as ls:=Paired.imp' (λb t e=>by
 rw[z6 (λz=>by subst z;exact ha _ e)];exact e) h
def ChS.put (S:ChS)(l:TM.Ln)(t:List Nat):ChS:={ S with ln:=S.ln++[l],md:=S.md++[t] }
def zb5:List Str:=["lines","made","back_lines"]
def yy6 (cB:Addr):Sp:=λvs H Q _=>∃(A:ChA) (S:ChS) (lr tr:Addr) (l:TM.Ln) (t:List Nat),vs=[.ref A.b,.ref lr,.ref tr]/\U6 cB H A S/\A.ll≠A.lm/\H lr=some (.tup (lnV l))/\H tr=some (.tup (tI t))/\S.ln.length<10000000 /\
 ∀H':Hp,w6 [A.ll,A.lm] H H'->U6 cB H' A (S.put l t)->Q (.int (S.ln.length:Int)) H'
theorem yl7:x0 ["self","line","turning"] ["self","line","turning"] (y6 zd4):=scq
theorem W5:10000000<ge:=by decide
theorem yj9 (F:Fun K "put" "Book.put" zd4 f fd)(B:Blt mg)(m:m9 K cB zb5):u7 P w K mg base CX0 1 f fd ["self","line","turning"] (yy6 cB):=by
 refine F.ok yl7 (λZ H Q E h=>?_) (λT Ar outer s H Z Q E hr h=>?_)
 .obtain⟨A,S,i,v,l,t,rfl,_⟩:=h;rfl
 obtain⟨A,S,i,v,l,t,rfl,bk,hne,C,D,M,q⟩:=h;obtain⟨⟨dx,u⟩,⟨a,c,n⟩,⟨g,e,o⟩,y,j⟩:=bk;have hz:=W5;have N:=m.no "lines" (by decide);have Y:=m.no "made" (by decide);refine⟨_,z7 (i5 (K1 PySem.F.plainAttrs_list PySem.F.slot_list_append PySem.F.type_list_append c3 (y9 (pv 0) rfl) (z0 (pv 1) z5)))
  (z7 (i5 (K1 PySem.F.plainAttrs_list PySem.F.slot_list_append PySem.F.type_list_append c3 (y9 (pv 0) rfl) (z0 (pv 2) z5)))
  (z8 (v0 (o7 zj4 (w8 v1 rfl B.len i8 (z0 (y9 (pv 0) rfl) z5)) y8)))),?_⟩
 have k:a.length=S.ln.length:=Paired.length n;have G:g.length=S.md.length:=Paired.length o;refine exI rfl ⟨A.b,cB,dx,_,_,rfl,u,m.cls,N,rfl,.inl ⟨rfl,_,SqL.of c⟩,exI rfl ⟨A.ll,_,_,rfl,rfl,c,by rw[ae];lia,?_⟩⟩;have O:A.b≠A.ll:=l8 u c (by intro z;cases z);have I:(upd H A.ll (.lst (a.map V.ref++[V.ref i]))) A.b=some (.ins cB dx [("lines",.ref A.ll),("made",.ref A.lm),("back_lines",.ref A.d)]):=by rw[z6 O];exact u
 have x:(upd H A.ll (.lst (a.map V.ref++[V.ref i]))) A.lm=some (.lst (g.map V.ref)):=by rw[z6 (Ne.symm hne)];exact e
 refine exI rfl ⟨A.b,cB,dx,_,_,rfl,I,m.cls,Y,rfl,.inl ⟨rfl,_,SqL.of x⟩,exI rfl ⟨A.lm,_,_,rfl,rfl,x,by rw[ae];lia,?_⟩⟩;have R:A.b≠A.lm:=l8 u e (by intro z;cases z);have J:(upd (upd H A.ll (.lst (a.map V.ref++[V.ref i]))) A.lm (.lst (g.map V.ref++[V.ref v]))) A.b=some (.ins cB dx [("lines",.ref A.ll),("made",.ref A.lm),("back_lines",.ref A.d)]):=by rw[z6 R];exact I
 have L:(upd (upd H A.ll (.lst (a.map V.ref++[V.ref i]))) A.lm (.lst (g.map V.ref++[V.ref v]))) A.ll=some (.lst ((a++[i]).map V.ref)):=by rw[z6 hne,z4,aJ];rfl
 refine exI rfl ⟨A.b,cB,dx,_,_,rfl,J,m.cls,N,rfl,A.ll,exI rfl ⟨.inl (SqL.of L),_,_,rfl,rfl,?_⟩⟩;have X:((((a++[i]).map V.ref).length:Nat):Int)-1=(S.ln.length:Int):=by
  rw[ae,ao,aW,k];lia
 show Q (.int _) _;rw[X];have p:∀xs,H A.ll≠some (.tup xs):=λxs z=>by rw[c]at z;cases z
 have r:∀xs,(upd H A.ll (.lst (a.map V.ref++[V.ref i]))) A.lm≠some (.tup xs):=λxs z=>by rw[x]at z;cases z
 have U:A.d≠A.ll:=l8 y c (by intro z;cases z);have W:A.d≠A.lm:=l8 y e (by intro z;cases z);refine q _ (w6.upd (w6.upd w6.refl (by simp) _) (by simp) _) ⟨⟨dx,J⟩,⟨a++[i],L,?_⟩,⟨g++[v],by rw[z4,aJ];rfl,?_⟩,by rw[z6 W,z6 U];exact y,by show(S.ln++[l]).length=(S.md++[t]).length;rw[ao,ao,j];rfl⟩
 .refine Paired.snoc ((n.upd p).upd r) ?_;rw[z6 (l8 C e (by intro z;cases z)),z6 (l8 C c (by intro z;cases z))];exact C
 .refine Paired.snoc ((o.upd p).upd r) ?_;rw[z6 (l8 D e (by intro z;cases z)),z6 (l8 D c (by intro z;cases z))];exact D
theorem U6.same (h:U6 cB H A S)(s:y4 H H'):U6 cB H' A S :=
 ⟨h.b.imp λ_ e=>s _ _ e,h.ll.imp λ_ e=>⟨s _ _ e.1,e.2.same s⟩,h.lm.imp λ_ e=>⟨s _ _ e.1,e.2.same s⟩,s _ _ h.d,h.len⟩
def ChS.putB (S:ChS)(i j:Nat):Nat×ChS:=if i=0 then(j,S) else if j=0 then(i,S) else(S.ln.length,S.put (.behind i j) (TM.beh (S.md.getD i []) (S.md.getD j [])))
def xo2 (cB:Addr):Sp:=λvs H Q _=>∃(A:ChA) (S:ChS) (n i j:Nat),vs=[.ref A.b,.int i,.int j]/\U6 cB H A S/\A.ll≠A.lm/\i<S.md.length/\j<S.md.length/\(∀t∈S.md,TM.IsT n t)/\n<=60/\S.ln.length<10000000 /\
 ∀H':Hp,w6 [A.ll,A.lm] H H'->U6 cB H' A (S.putB i j).2->Q (.int ((S.putB i j).1:Int)) H'
theorem ze0:x0 ["self","one","other"] ["self","one","other"] (y6 V9):=scq
theorem W2 {α:Type}{l:List α}(d:α)(h:i<l.length):l[i]?=some (l.getD i d):=by
 rw[ah,aa h];rfl
theorem zc8 (F:Fun K "put_behind" "Book.put_behind" V9 f fd)(B:Blt mg)(t:m9 K cB zb5)(Y:b9 P w K mg base 1 cB "put" ["self","line","turning"] (yy6 cB))(X:p6 P w K mg base 1 "behind" ["one","other"] (K5 K))(M:za6 mg "STILL_LINE" (.int 0)):u7 P w K mg base CX0 2 f fd ["self","one","other"] (xo2 cB):=by
 refine F.ok ze0 (λvs H Q E h=>?_) (λZ Ar outer s H vs Q E hr h=>?_)
 .obtain⟨A,S,n,i,j,rfl,_⟩:=h;rfl
 obtain⟨A,S,n,i,j,rfl,bk,hne,hi,T,hT,hn,d,q⟩:=h;refine⟨_,z7 (n4 (p5 P7 (pv 1) (K2 M rfl) (o6 _)) (z8 (v0 (pv 2))) u4)
  (z7 (n4 (p5 P7 (pv 2) (K2 M rfl) (o6 _)) (z8 (v0 (pv 1))) u4)
  (z8 (v0 (Z3 t.cls Y hr (pv 0) (z0 (P9 (z0 W7 (z0 (pv 1) (z0 (pv 2) z5)))) (z0 (r6 X hr rfl (z0 (p9 p0 (y9 (pv 0) rfl) (pv 1) (λ_ _=>rfl)) (z0 (p9 p0 (y9 (pv 0) rfl) (pv 2) (λ_ _=>rfl)) z5))) z5)))))),?_⟩
 refine⟨_,rfl,rfl,_,rfl,xi4 (λc=>?_) (λc=>⟨_,rfl,rfl,_,rfl,xi4 (λa=>?_) (λa=>?_)⟩)⟩
 .rw[c7]at c;have e:i=0:=by have:=of_decide_eq_true c;lia
  have r:=q H w6.refl;unfold ChS.putB at r;rw[if_pos e]at r;exact exI rfl (r bk)
 .rw[c7]at c a;have e:¬i=0:=by have:=of_decide_eq_false (cJ.mpr c);lia
  have u:j=0:=by have:=of_decide_eq_true a;lia
  have r:=q H w6.refl;unfold ChS.putB at r;rw[if_neg e,if_pos u]at r;exact exI rfl (r bk)
 .rw[c7]at c a;have e:¬i=0:=by have:=of_decide_eq_false (cJ.mpr c);lia
  have u:¬j=0:=by have:=of_decide_eq_false (cJ.mpr a);lia
  unfold ChS.putB at q;rw[if_neg e,if_neg u]at q;obtain⟨dx,z⟩:=bk.b;obtain⟨l,g,k⟩:=bk.lm;have hz:=W5;refine exI rfl (Z6 z rfl (exI rfl (exI rfl ⟨(by show 3<=ge;lia),λm D=>?_⟩)));have s1:=y0 D (.tup [V.str "behind",V.int i,V.int j]);have R:(upd H m (.tup [V.str "behind",V.int i,V.int j])) m=some (.tup (lnV (.behind i j))):=z4;generalize upd H m (.tup [V.str "behind",V.int i,V.int j])=H1 at s1 R ⊢;have U:TM.IsT n (S.md.getD i []):=hT _ (au (W2 [] hi));have tj:TM.IsT n (S.md.getD j []):=hT _ (au (W2 [] T));obtain⟨N,v,I⟩:=l9 k i _ (W2 [] hi);obtain⟨O,y,J⟩:=l9 k j _ (W2 [] T);have gi:atI (l.map V.ref) ((i:Nat):Int)=some (V.ref N):=o8 (by rw[al,v];rfl);have gj:atI (l.map V.ref) ((j:Nat):Int)=some (V.ref O):=o8 (by rw[al,y];rfl);refine exI rfl (p7 t (s1 _ _ z) rfl (exI rfl (ixI (SqL.of (s1 _ _ g)) gi (exI rfl (p7 t (s1 _ _ z) rfl (exI rfl (ixI (SqL.of (s1 _ _ g)) gj ⟨N,O,_,_,rfl,SqT.of (s1 _ _ I),SqT.of (s1 _ _ J),by rw[U.length];lia,λx hx=>?_,λtr H2 ac L G=>?_⟩)))))))
  .rw[tj.length];exact U.lt hx
  exact⟨A,S,m,tr,.behind i j,exI rfl ⟨bk.same (s1.trans L),hne,L _ _ R,G,d,λW fr p=>q W (λb o C e=>fr b o C ((s1.trans L) _ _ e)) p⟩⟩
def ChS.putK (n:Nat)(S:ChS)(i:Nat):Nat×ChS:=match atN S.bl i with
 | some k=>(k,S)
 | none=>(S.ln.length,{ S.put (.back i) (TM.bk n (S.md.getD i [])) with bl:=S.bl++[(i,S.ln.length)] })
def xo3 (cB:Addr):Sp:=λvs H Q _=>∃(A:ChA) (S:ChS) (n i:Nat),vs=[.ref A.b,.int i]/\U6 cB H A S/\A.ll≠A.lm/\i<S.md.length/\(∀t∈S.md,TM.IsT n t)/\n<=60/\S.ln.length<10000000/\S.bl.length<10000000 /\
 ∀H':Hp,w6 [A.ll,A.lm,A.d] H H'->U6 cB H' A (S.putK n i).2->Q (.int ((S.putK n i).1:Int)) H'
theorem zk2:x0 ["self","one"] ["self","one"] (y6 W3):=scq
theorem yg5 (h:atN l k=none):V0 (kI l) (Sum.inl (k:Int))=none:=by rw[T9,h];rfl
theorem putK_new {l:List (Nat×Nat)}{k v:Nat}(h:atN l k=none):putK (kI l) (Sum.inl (k:Int)) (V.int v)=kI (l++[(k,v)]):=by
 have e:=yg5 h;unfold putK;rw[U3,e];show kI l++[(Sum.inl (k:Int),V.int v)]=kI (l++[(k,v)]);unfold kI;rw[aJ];rfl
theorem zq0 {k v:Nat}(h:atN l k=none):atN (l++[(k,v)]) k=some v:=by
 have h':l.find? (λx=>decide (x.1=k))=none:=by
  unfold atN at h
  cases e:l.find? (λx=>decide (x.1=k)) with
  | none=>rfl
  | some x=>rw[e]at h;cases h
 unfold atN;rw[eK,h'];simp
theorem zj0 (F:Fun K "put_back" "Book.put_back" W3 f fd)(B:Blt mg)(o:m9 K cB zb5)(MP:b9 P w K mg base 1 cB "put" ["self","line","turning"] (yy6 cB))(KB:p6 P w K mg base 1 "back" ["one"] (zu4 K)):u7 P w K mg base CX0 2 f fd ["self","one"] (xo3 cB):=by
 refine F.ok zk2 (λvs H Q E h=>?_) (λJ Ar outer s H vs Q E hr h=>?_)
 .obtain⟨A,S,n,i,rfl,_⟩:=h;rfl
 obtain⟨A,S,n,i,rfl,bk,hne,hi,hT,hn,t,ao,q⟩:=h;have Y:(Ar.deeper (PyProof.Rows.envOfC "Book.put_back" (y6 W3) s.heap.objs.size f J)).units+1<cLine:=by have:=hr.units;lia
 refine⟨_,z7 (n4 (zt3 (A7 Y (pv 1) (y9 (pv 0) rfl))) (z8 (A9 Y (y9 (pv 0) rfl) (pv 1) (Z3 o.cls MP hr (pv 0) (z0 (P9 (z0 W7 (z0 (pv 1) z5))) (z0 (r6 KB hr rfl (z0 (p9 p0 (y9 (pv 0) rfl) (pv 1) (λ_ _=>rfl)) z5)) z5))) rfl)) u4)
  (z8 (v0 (N6 Y (y9 (pv 0) rfl) (pv 1) (λ_ _=>rfl)))),?_⟩
 obtain⟨dx,D⟩:=bk.b;obtain⟨Z,R,U⟩:=bk.lm;have hz:=W5;have I:=o.no "back_lines" (by decide);refine exI rfl (exI rfl ⟨A.b,cB,dx,_,_,rfl,D,o.cls,I,rfl,A.d,exI rfl ⟨U5.k (k:=Sum.inl (i:Int)) bk.d,exI rfl ?_⟩⟩);rw[T9]
 cases ea:atN S.bl i with
 | some k =>
  have L:S.putK n i=(k,S):=by unfold ChS.putK;rw[ea]
  rw[L]at q;refine o0 (exI rfl ⟨A.b,cB,dx,_,_,rfl,D,o.cls,I,rfl,_,rfl,A.d,V.int k,rfl,?_,q H w6.refl bk⟩);have g:=U5.k (k:=Sum.inl (i:Int)) bk.d;rwa [T9,ea]at g
 | none =>
  have L:S.putK n i=(S.ln.length,{ S.put (.back i) (TM.bk n (S.md.getD i [])) with bl:=S.bl++[(i,S.ln.length)] }):=by unfold ChS.putK;rw[ea]
  rw[L]at q;refine i9 ?_;refine exI rfl (Z6 D rfl (exI rfl ⟨(by show 2<=ge;lia),λG T=>?_⟩));have s1:=y0 T (.tup [V.str "back",V.int i]);have el:(upd H G (.tup [V.str "back",V.int i])) G=some (.tup (lnV (.back i))):=z4;generalize upd H G (.tup [V.str "back",V.int i])=H1 at s1 el ⊢;have ti:TM.IsT n (S.md.getD i []):=hT _ (au (W2 [] hi));obtain⟨ai,N,X⟩:=l9 U i _ (W2 [] hi);have gi:atI (Z.map V.ref) ((i:Nat):Int)=some (V.ref ai):=o8 (by rw[al,N];rfl);refine exI rfl (p7 o (s1 _ _ D) rfl (exI rfl (ixI (SqL.of (s1 _ _ R)) gi ⟨ai,n,exI rfl ⟨SqT.of (s1 _ _ X),ti,by lia,λtr H2 bq ap s2 O W=>?_⟩⟩)));have M:bq=TM.bk n (S.md.getD i []):=O.uniq ti (TM.bk_back ti);subst M;refine⟨A,S,G,tr,.back i,exI rfl ⟨bk.same (s1.trans s2),hne,s2 _ _ el,W,t,λC fr c=>?_⟩⟩;obtain⟨j,p⟩:=c.b;have e:C A.d=some (.dK (kI S.bl)):=c.d;have kd:(kI S.bl).length<ge:=by rw[J3];lia
  refine exI rfl ⟨A.b,cB,j,_,_,rfl,p,o.cls,I,rfl,_,rfl,A.d,exI rfl ⟨zm9.k (k:=Sum.inl (i:Int)) e kd,?_⟩⟩;rw[putK_new ea];have b3:A.b≠A.d:=l8 p e (by intro z;cases z);have r:(upd C A.d (.dK (kI (S.bl++[(i,S.ln.length)])))) A.b=some (.ins cB j [("lines",.ref A.ll),("made",.ref A.lm),("back_lines",.ref A.d)]):=by rw[z6 b3];exact p
  refine exI rfl ⟨A.b,cB,j,_,_,rfl,r,o.cls,I,rfl,_,rfl,A.d,V.int (S.ln.length:Int),rfl,?_,?_⟩
  .have g:=U5.k (k:=Sum.inl (i:Int)) (kvs:=kI (S.bl++[(i,S.ln.length)])) (H:=upd C A.d (.dK (kI (S.bl++[(i,S.ln.length)])))) z4;rwa [T9,zq0 ea]at g
  .obtain⟨x,l,u⟩:=c.ll;obtain⟨y,m,v⟩:=c.lm;have nt:∀xs,C A.d≠some (.tup xs):=λxs z=>by rw[e]at z;cases z
   refine q _ ?_ ⟨⟨j,r⟩,⟨x,by rw[z6 (l8 l e (by intro z;cases z))];exact l,u.upd nt⟩,⟨y,by rw[z6 (l8 m e (by intro z;cases z))];exact m,v.upd nt⟩,z4,c.len⟩;exact w6.upd (w6.trans (y4.frame (s1.trans s2)) (fr.more (λa ha=>by simp at ha ⊢;rcases ha with h|h <;> simp[h]))) (by simp) _
theorem K0 {α β:Type}{F G:α->β->Prop}:∀{as:List α} {bs:List β},Paired F as bs->(∀a∈as,∀b,F a b->G a b)->Paired G as bs
 | _,_,.nil,_=>.nil
 | _,_,.cons f r,h=>.cons (h _ aw _ f) (K0 r λa ha b q=>h a (ar _ ha) b q)
theorem yz9 {xs:List V}{fr:List Nat}{te:CT TE}{Q:Addr->Hp->Prop}{α:Type}(g:α->HO)(ys:List α)(hS:SqL K H1 a xs)(S:ys.length=xs.length)(hz:xs.length<=ge)
  (C:∀(i:Nat) H x y,xs[i]?=some x->ys[i]?=some y->y4 H1 H->∀l B n fp,te l B n fp (some x::fr.map λj=>(σ[j]?).getD none) H λv f=>y4 H f/\∃b,v=.ref b/\H b=none/\f b=some (g y))
  (fin:∀D H d,H1 D=none->y4 H1 H->H D=some (.lst (d.map V.ref))->Paired (λb y=>H b=some (g y)) d ys->(∀b∈d,H1 b=none)->Q D H) :
  ∀D,H1 D=none->∃W:Nat->Nat->St->Hp->Prop,(∃m,W 0 m (X2 1 fr σ) (upd H1 D (.lst [])))/\∀i m E H',W i m E H' ->
  ((Itl K a).stop i H'/\Q D H')∨((Itl K a).go i H'/\∀x H2,(Itl K a).yld i H' x H2->∀l B n fp,h9 0 x E H2 λσ3 H3=>∃N:VK,te l B n fp σ3 H3 N/\∀y f,N y f ->
   ∃ys m',f D=some (.lst ys)/\ys.length<ge/\m'<m/\W (i+1) m' σ3 (upd f D (.lst (ys++[y])))):=by
 intro D G
 refine⟨λi m E H'=>m=xs.length-i/\i<=xs.length/\y4 H1 H'/\(∃d:List Addr,H' D=some (.lst (d.map V.ref))/\Paired (λb y=>H' b=some (g y)) d (ys.take i)/\(∀b∈d,b≠D)/\∀b∈d,H1 b=none)/\∃z,E=z::fr.map λj=>(σ[j]?).getD none,
  ⟨xs.length,rfl,aG _,y0 G _,⟨[],z4,.nil,λ_ h=>(by cases h),λ_ h=>(by cases h)⟩,none,rfl⟩,?_⟩
 rintro i m E H' ⟨rfl,hi,k,⟨d,J,F,hne,u⟩,z,rfl⟩
 by_cases t:i<xs.length
 .refine .inr ⟨⟨xs,xs[i],k.seq hS,by simp[t]⟩,λx H2 R l B n fp=>?_⟩
  obtain⟨e,P⟩:=R
  subst e
  have L:=P xs (k.seq hS)
  have A:ys[i]?=some ys[i]:=aa (by lia)
  refine⟨_,C i _ x _ L A k l B n fp,λv f ⟨M,b,O,q,hG⟩=>?_⟩
  subst O
  have p:d.length=i:=by rw[Paired.length F,aK];lia
  have I:=M _ _ J
  have r:b≠D:=Ne.symm (z9 J q)
  refine⟨d.map V.ref,xs.length-(i+1),I,by rw[ae,p];lia,by lia,rfl,t,λc o e=>?_,⟨d++[b],by rw[z4,aJ];rfl,?_,λc s=>?_,λc s=>?_⟩,_,rfl⟩
  .rw[z6 (z9 e G)]
   exact M _ _ (k _ _ e)
  .rw[aT,A]
   refine Paired.snoc (K0 F λc s y e=>by rw[z6 (hne c s)];exact M _ _ e) ?_
   rw[z6 r]
   exact hG
  .rcases aH.mp s with w|w
   .exact hne c w
   .rw[aq.mp w];exact r
  .rcases aH.mp s with w|w
   .exact u c w
   .rw[aq.mp w];exact k.free q
 .have e:i=xs.length:=by lia
  subst e
  refine .inl ⟨⟨xs,k.seq hS,af _⟩,fin D H' d G k J ?_ u⟩
  rw[aV (by lia)]at F
  exact F
theorem yp4 {J:It}{fr:List Nat}{te:CT TE}{Q:Addr->Hp->Prop}{α:Type}(g:α->HO)(ys:List α)(T:ys.length=n)(hz:n<=ge)
  (k:∀H,y4 H1 H->J.stop n H) (L:∀i H,i<n->y4 H1 H->J.go i H)
  (E:∀(i:Nat) H x H2 y,i<n->y4 H1 H->J.yld i H x H2->ys[i]?=some y->H2=H/\∀p C q fp,te p C q fp (some x::fr.map λj=>(σ[j]?).getD none) H λv d=>y4 H d/\∃b,v=.ref b/\H b=none/\d b=some (g y))
  (fin:∀D H a,H1 D=none->y4 H1 H->H D=some (.lst (a.map V.ref))->Paired (λb y=>H b=some (g y)) a ys->(∀b∈a,H1 b=none)->(∀b∈a,b≠D)->Q D H) :
  ∀D,H1 D=none->∃W:Nat->Nat->St->Hp->Prop,(∃m,W 0 m (X2 1 fr σ) (upd H1 D (.lst [])))/\∀i m F H',W i m F H' ->
  (J.stop i H'/\Q D H')∨(J.go i H'/\∀x H2,J.yld i H' x H2->∀p C q fp,h9 0 x F H2 λσ3 H3=>∃N:VK,te p C q fp σ3 H3 N/\∀y d,N y d ->
   ∃ys m',d D=some (.lst ys)/\ys.length<ge/\m'<m/\W (i+1) m' σ3 (upd d D (.lst (ys++[y])))):=by
 intro D I
 refine⟨λi m F H'=>m=n-i/\i<=n/\y4 H1 H'/\(∃a:List Addr,H' D=some (.lst (a.map V.ref))/\Paired (λb y=>H' b=some (g y)) a (ys.take i)/\(∀b∈a,b≠D)/\∀b∈a,H1 b=none)/\∃z,F=z::fr.map λj=>(σ[j]?).getD none,
  ⟨n,rfl,aG _,y0 I _,⟨[],z4,.nil,λ_ h=>(by cases h),λ_ h=>(by cases h)⟩,none,rfl⟩,?_⟩
 rintro i m F H' ⟨rfl,hi,l,⟨a,M,G,hne,A⟩,z,rfl⟩
 by_cases f:i<n
 .refine .inr ⟨L i H' f l,λx H2 S p C q fp=>?_⟩
  have B:ys[i]?=some ys[i]:=aa (by lia)
  obtain⟨e,R⟩:=E i H' x H2 _ f l S B
  subst e
  refine⟨_,R p C q fp,λv d ⟨O,b,P,s,hG⟩=>?_⟩
  subst P
  have r:a.length=i:=by rw[Paired.length G,aK];lia
  have K:=O _ _ M
  have t:b≠D:=Ne.symm (z9 M s)
  refine⟨a.map V.ref,n-(i+1),K,by rw[ae,r];lia,by lia,rfl,f,λc o e=>?_,⟨a++[b],by rw[z4,aJ];rfl,?_,λc u=>?_,λc u=>?_⟩,_,rfl⟩
  .rw[z6 (z9 e I)]
   exact O _ _ (l _ _ e)
  .rw[aT,B]
   refine Paired.snoc (K0 G λc u y e=>by rw[z6 (hne c u)];exact O _ _ e) ?_
   rw[z6 t]
   exact hG
  .rcases aH.mp u with w|w
   .exact hne c w
   .rw[aq.mp w];exact t
  .rcases aH.mp u with w|w
   .exact A c w
   .rw[aq.mp w];exact l.free s
 .have e:i=n:=by lia
  subst e
  refine .inl ⟨k H' l,fin D H' a I l M ?_ A hne⟩
  rw[aV (by lia)]at G
  exact G
abbrev zp8 (H:Hp) (ws:List Addr) (ps:List (Nat×Nat)):Prop:=Paired (λa (x:Nat×Nat)=>H a=some (.tup [.int (x.1:Int),.int (x.2:Int)])) ws ps
theorem zp8.same (h:zp8 H ws ps)(s:y4 H H'):zp8 H' ws ps:=Paired.imp' (λ_ _ e=>s _ _ e) h
theorem zp8.upd (h:zp8 H ws ps)(ha:∀xs,H a≠some (.tup xs)):zp8 (L2.upd H a o) ws ps:=Paired.imp' (λb t e=>by
 rw[z6 (λz=>by subst z;exact ha _ e)];exact e) h
theorem J6 {α β:Type}{F:α->β->Prop}:∀{as cs:List α} {bs ds:List β},Paired F as bs->Paired F cs ds->Paired F (as++cs) (bs++ds)
 | _,_,_,_,.nil,q=>q
 | _,_,_,_,.cons f r,q=>.cons f (J6 r q)
def kR (to:List (Nat×Nat))(bs:List Addr):List (Key×V):=(to.zip bs).map λp=>(Sum.inl (p.1.1:Int),V.ref p.2)
structure Z8 (cS:Addr) (n:Nat) (md:List (List Nat)) (H:Hp) (A:StA) (i:Nat) (s:StS):Prop where
 a:∃dx,H A.a=some (.ins cS dx [("place",.int i),("movers",.ref A.m),("line_to",.ref A.lt),("back_from",.ref A.bf),("waiting",.ref A.w),("looked_at",.int (s.lk:Int))])
 m:H A.m=some (.lst (tI s.mv))
 lt:H A.lt=some (.dK (kI s.to))
 bf:∃bs:List Addr,H A.bf=some (.dK (kR s.to bs))/\Paired (λ(x:Nat×Nat) b=>H b=some (.tup (tI (TM.bk n (md.getD x.2 []))))) s.to bs
 w:∃ws:List Addr,H A.w=some (.lst (ws.map V.ref))/\zp8 H ws s.wt
def M0:List Str:=["place","movers","line_to","back_from","waiting","looked_at"]
theorem ya3 (hd:H d=some u)(s:y4 (upd H d o) H'):y4 H (upd H' d u):=λb v h=>by
 by_cases e:b=d
 .subst e
  rw[z4,←hd,h]
 .rw[z6 e]
  exact s _ _ (by rw[z6 e];exact h)
def StS.putM (s:StS)(k:Nat):StS:={ s with mv:=s.mv++[k],wt:=s.wt++s.to.map λx=>(x.1,k) }
def yt4 (cS:Addr):Sp:=λvs H Q _=>∃(A:StA) (n:Nat) (md:List (List Nat)) (i k:Nat) (s:StS),vs=[.ref A.a,.int k]/\Z8 cS n md H A i s/\A.m≠A.w/\s.mv.length<1000000/\s.to.length<=1000000/\s.wt.length<=1000000 /\
 ∀H':Hp,w6 [A.m,A.w] H H'->Z8 cS n md H' A i (s.putM k)->Q .non H'
theorem zh1:x0 ["self","mover"] ["self","mover"] (y6 T4):=scq
theorem zg1 (F:Fun K "put_mover" "Step.put_mover" T4 f fd)(B:Blt mg)(cs:m9 K cS M0):u7 P w K mg base CX0 1 f fd ["self","mover"] (yt4 cS):=by
 refine F.ok zh1 (λvs H Q E h=>?_) (λav Ar outer s H vs Q E hr h=>?_)
 .obtain⟨A,n,md,i,k,s,rfl,_⟩:=h;rfl
 obtain⟨A,n,md,i,k,s,rfl,⟨⟨dx,ha⟩,L,T,⟨bs,R,ag⟩,⟨ws,hw,X⟩⟩,hne,ay,a',bb,q⟩:=h;have hz:=W5;have Y:ws.length=s.wt.length:=Paired.length X;refine⟨_,z7 (i5 (K1 PySem.F.plainAttrs_list PySem.F.slot_list_append PySem.F.type_list_append c3 (y9 (pv 0) rfl) (z0 (pv 1) z5)))
  (z8 (i5 (K1 PySem.F.plainAttrs_list PySem.F.slot_list_extend PySem.F.type_list_extend zz8 (y9 (pv 0) rfl) (z0 (yx4 (b6 [1] ["place","mover"] rfl (yx5 (y9 (pv 0) rfl)) (λ_ _ _ _=>P9 (z0 (pv 0) (z0 (pv 1) z5))))) z5)))),?_⟩
 refine exI rfl (p7 cs ha rfl ⟨.inl ⟨rfl,_,SqL.of L⟩,exI rfl ⟨A.m,_,_,rfl,rfl,L,by rw[x9];lia,?_⟩⟩);have am:A.a≠A.m:=l8 ha L (by intro z;cases z);have lm:A.lt≠A.m:=l8 T L (by intro z;cases z);have bm:A.bf≠A.m:=l8 R L (by intro z;cases z);have Z:∀xs,H A.m≠some (.tup xs):=λxs z=>by rw[L]at z;cases z
 have g:(upd H A.m (.lst (tI s.mv++[V.int k]))) A.a=some (.ins cS dx [("place",.int i),("movers",.ref A.m),("line_to",.ref A.lt),("back_from",.ref A.bf),("waiting",.ref A.w),("looked_at",.int (s.lk:Int))]):=by rw[z6 am];exact ha
 have U:(upd H A.m (.lst (tI s.mv++[V.int k]))) A.m=some (.lst (tI (s.mv++[k]))):=by rw[z4,zl0];rfl
 have c:(upd H A.m (.lst (tI s.mv++[V.int k]))) A.lt=some (.dK (kI s.to)):=by rw[z6 lm];exact T
 have l:(upd H A.m (.lst (tI s.mv++[V.int k]))) A.bf=some (.dK (kR s.to bs)):=by rw[z6 bm];exact R
 have d:(upd H A.m (.lst (tI s.mv++[V.int k]))) A.w=some (.lst (ws.map V.ref)):=by rw[z6 (Ne.symm hne)];exact hw
 have C:=zp8.upd (o:=.lst (tI s.mv++[V.int k])) X Z;have v:Paired (λ(x:Nat×Nat) b=>(upd H A.m (.lst (tI s.mv++[V.int k]))) b=some (.tup (tI (TM.bk n (md.getD x.2 []))))) s.to bs:=Paired.imp' (λx b e=>by rw[z6 (λz=>by subst z;exact Z _ e)];exact e) ag;have N:w6 [A.m,A.w] H (upd H A.m (.lst (tI s.mv++[V.int k]))):=w6.upd w6.refl (by simp) _;generalize upd H A.m (.lst (tI s.mv++[V.int k]))=H1 at g U c l d C v N ⊢;refine exI rfl (p7 cs g rfl ⟨.inl ⟨rfl,_,SqL.of d⟩,?_⟩);refine⟨A.lt,kI s.to,c,exI rfl (p7 cs g rfl ⟨A.lt,exI rfl ⟨c,λob=>?_⟩⟩)⟩;refine yp4 (λ(y:Nat×Nat)=>HO.tup [.int (y.1:Int),.int (y.2:Int)]) (s.to.map λx=>(x.1,k)) (n:=(kI s.to).length) (by rw[ae,J3]) (by rw[J3];lia) (λH2 I=>⟨I _ _ z4,af _⟩) (λj H2 hj I=>⟨I _ _ z4,hj⟩) ?_ ?_
 .rintro j H2 x H3 y hj I ⟨rfl,kk,vv,J,rfl⟩ hy;refine⟨rfl,λ_ _ _ _=>?_⟩;rw[al]at hy;unfold kI at J;rw[al]at J
  cases e:s.to[j]? with
  | none=>rw[e]at J;cases J
  | some p =>
   rw[e]at J hy
   cases J
   cases hy
   exact exI rfl (exI rfl ⟨(by show 2<=ge;lia),λr W=>⟨y0 W _,r,rfl,W,z4⟩⟩)
 .intro M H2 as hD I ah hP ai az;have t:=ya3 c I;have O:H1 M=none:=by
   cases e:H1 M with
   | none=>rfl
   | some u=>exact absurd hD (by rw[z6 (λz=>by subst z;rw[z4]at hD;cases hD),e];intro z;cases z)
  have ab:M≠A.lt:=λz=>by subst z;rw[c]at O;cases O
  refine⟨⟨ob,I _ _ z4⟩,?_⟩;have S:(upd H2 A.lt (.dK (kI s.to))) M=some (.lst (as.map V.ref)):=by rw[z6 ab];exact ah
  have D:zp8 (upd H2 A.lt (.dK (kI s.to))) as (s.to.map λx=>(x.1,k)):=K0 hP λb hb y e=>by
   rw[z6 (λz=>by
    have:=ai b hb
    rw[z,z4]at this
    cases this)]
   exact e
  generalize upd H2 A.lt (.dK (kI s.to))=H3 at t S D ⊢;refine⟨A.w,M,_,_,rfl,rfl,t _ _ d,S,?_,?_⟩
  .rw[ae,ae,Y,Paired.length D,ae];lia
  .have wa:A.a≠A.w:=l8 g d (by intro z;cases z);have wm:A.m≠A.w:=hne;have wl:A.lt≠A.w:=l8 c d (by intro z;cases z);have wb:A.bf≠A.w:=l8 l d (by intro z;cases z);have G:∀xs,H3 A.w≠some (.tup xs):=λxs z=>by rw[t _ _ d]at z;cases z
   refine q _ (w6.upd (w6.trans N (y4.frame t)) (by simp) _) ⟨⟨dx,by rw[z6 wa];exact t _ _ g⟩,by rw[z6 wm];exact t _ _ U,by rw[z6 wl];exact t _ _ c,⟨bs,by rw[z6 wb];exact t _ _ l,?_⟩,⟨ws++as,by rw[z4,aJ],?_⟩⟩
   .exact Paired.imp' (λx b e=>by
     have e':=t _ _ e
     rw[z6 (λz=>by subst z;exact G _ e')];exact e') v
   .exact J6 ((C.same t).upd G) (D.upd G)
def StS.putP (s:StS)(p k:Nat):StS:={ s with to:=s.to++[(p,k)],wt:=s.wt++s.mv.map λm=>(p,m) }
def xo4 (cS:Addr):Sp:=λvs H Q _=>∃(A:StA) (n:Nat) (md:List (List Nat)) (i p k:Nat) (s:StS) (tr:Addr) (t:List Nat),vs=[.ref A.a,.int p,.int k,.ref tr]/\Z8 cS n md H A i s/\H tr=some (.tup (tI t))/\md.getD k []=t/\TM.IsT n t/\n<=60/\atN s.to p=none/\A.m≠A.w/\A.lt≠A.bf/\s.mv.length<1000000/\s.to.length<1000000/\s.wt.length<=1000000 /\
 ∀H':Hp,w6 [A.lt,A.bf,A.w] H H'->Z8 cS n md H' A i (s.putP p k)->Q .non H'
theorem zh2:x0 ["self","place","line","turning"] ["self","place","line","turning"] (y6 X5):=scq
theorem xy2 {to:List (Nat×Nat)}{bs:List Addr}(h:to.length=bs.length):(kR to bs).length=to.length:=by
 unfold kR;rw[ae,List.length_zip,←h,Nat.min_self]
theorem yz4:∀{to:List (Nat×Nat)} {bs:List Addr},to.length=bs.length->∀{p:Nat},atN to p=none->V0 (kR to bs) (Sum.inl (p:Int))=none
 | [],[],_,p,_=>rfl
 | x::to,b::bs,hl,p,h=>by
  have hx:¬x.1=p:=λe=>by unfold atN at h;rw[cY (by simpa using e)]at h;cases h
  have h':atN to p=none:=by unfold atN at h ⊢;rwa [cZ (by simpa using hx)]at h
  have e:kR (x::to) (b::bs)=(Sum.inl (x.1:Int),V.ref b)::kR to bs:=rfl
  rw[e,g6 (λz=>hx (by have:=Sum.inl.inj z;lia))]
  exact yz4 (by simpa using hl) h'
theorem xt2 {to:List (Nat×Nat)}{bs:List Addr}(hl:to.length=bs.length)(h:atN to p=none):putK (kR to bs) (Sum.inl (p:Int)) (V.ref r)=kR (to++[(p,k)]) (bs++[r]):=by
 have e:=yz4 hl h;unfold putK;rw[U3,e];show kR to bs++[(Sum.inl (p:Int),V.ref r)]=_;unfold kR;rw[List.zip_append hl,aJ];rfl
theorem ye7 {α β:Type}{F:α->β->Prop}{as:List α}{bs:List β}{a:α}{b:β}(h:Paired F as bs)(f:F a b):Paired F (as++[a]) (bs++[b]):=J6 h (.cons f .nil)
theorem zg2 (F:Fun K "put_place" "Step.put_place" X5 f fd)(B:Blt mg)(cs:m9 K cS M0)(KB:p6 P w K mg base 1 "back" ["one"] (zu4 K)):u7 P w K mg base CX0 2 f fd ["self","place","line","turning"] (xo4 cS):=by
 refine F.ok zh2 (λvs H Q E h=>?_) (λar Ar outer sh H vs Q E hr h=>?_)
 .obtain⟨A,n,md,i,p,k,s,tr,t,rfl,_⟩:=h;rfl
 obtain⟨A,n,md,i,p,k,s,tr,t,rfl,⟨⟨dx,ha⟩,hm,ah,⟨bs,au,ag⟩,⟨ws,hw,am⟩⟩,ay,ax,hT,hn,hp,hne,O,bn,bq,bt,q⟩:=h;have hz:=W5;have an:ws.length=s.wt.length:=Paired.length am;have M:s.to.length=bs.length:=Paired.length ag;have hu:(Ar.deeper (PyProof.Rows.envOfC "Step.put_place" (y6 X5) sh.heap.objs.size f ar)).units+1<cLine:=by have:=hr.units;lia
 refine⟨_,z7 (A9 hu (y9 (pv 0) rfl) (pv 1) (pv 2) rfl)
  (z7 (A9 hu (y9 (pv 0) rfl) (pv 1) (r6 KB hr rfl (z0 (pv 3) z5)) rfl)
  (z8 (i5 (K1 PySem.F.plainAttrs_list PySem.F.slot_list_extend PySem.F.type_list_extend zz8 (y9 (pv 0) rfl) (z0 (b6 [1] ["mover","place"] rfl (Y8 (y9 (pv 0) rfl)) (λ_ _ _ _=>P9 (z0 (pv 1) (z0 (pv 0) z5)))) z5))))),?_⟩
 refine exI rfl (exI rfl (p7 cs ha rfl (exI rfl ⟨A.lt,exI rfl ⟨zm9.k (k:=Sum.inl (p:Int)) ah (by rw[J3];lia),?_⟩⟩)));rw[putK_new hp];have X:∀{b:Addr} {o:HO},H b=some o->o≠.dK (kI s.to)->(upd H A.lt (.dK (kI (s.to++[(p,k)])))) b=some o:=λ{b o} h d=>by rw[z6 (l8 h ah d)];exact h
 have C:=X ha (by intro z;cases z);have U:=X hm (by intro z;cases z);have R:=X ay (by intro z;cases z);have W:=X hw (by intro z;cases z);have l:(upd H A.lt (.dK (kI (s.to++[(p,k)])))) A.bf=some (.dK (kR s.to bs)):=by rw[z6 (Ne.symm O)];exact au
 have N:(upd H A.lt (.dK (kI (s.to++[(p,k)])))) A.lt=some (.dK (kI (s.to++[(p,k)]))):=z4;have S:zp8 (upd H A.lt (.dK (kI (s.to++[(p,k)])))) ws s.wt:=Paired.imp' (λx b e=>X e (by intro z;cases z)) am;have J:Paired (λ(x:Nat×Nat) b=>(upd H A.lt (.dK (kI (s.to++[(p,k)])))) b=some (.tup (tI (TM.bk n (md.getD x.2 []))))) s.to bs:=Paired.imp' (λx b e=>X e (by intro z;cases z)) ag;have ac:w6 [A.lt,A.bf,A.w] H (upd H A.lt (.dK (kI (s.to++[(p,k)])))):=w6.upd w6.refl (by simp) _;clear X;generalize upd H A.lt (.dK (kI (s.to++[(p,k)])))=H1 at C U R W l N S J ac ⊢;refine exI rfl ⟨tr,n,t,rfl,SqT.of R,hT,by lia,λr H2 b bp s2 hb ak=>?_⟩;have eb:b=TM.bk n t:=hb.uniq hT (TM.bk_back hT);subst eb;have I:=s2 _ _ l;refine exI rfl (p7 cs (s2 _ _ C) rfl (exI rfl ⟨A.bf,exI rfl ⟨zm9.k (k:=Sum.inl (p:Int)) I (by rw[xy2 M];lia),?_⟩⟩));rw[xt2 (k:=k) M hp];have Y:∀{b:Addr} {o:HO},H1 b=some o->b≠A.bf->(upd H2 A.bf (.dK (kR (s.to++[(p,k)]) (bs++[r])))) b=some o:=λ{b o} h d=>by rw[z6 d];exact s2 _ _ h
 have c:∀{b:Addr} {o:HO},H1 b=some o->o≠.dK (kR s.to bs)->b≠A.bf:=λ{b o} h d=>l8 h l d;have g:=Y C (c C (by intro z;cases z));have D:=Y U (c U (by intro z;cases z));have G:=Y W (c W (by intro z;cases z));have v:=Y N O;have u:(upd H2 A.bf (.dK (kR (s.to++[(p,k)]) (bs++[r])))) A.bf=some (.dK (kR (s.to++[(p,k)]) (bs++[r]))):=z4;have T:zp8 (upd H2 A.bf (.dK (kR (s.to++[(p,k)]) (bs++[r])))) ws s.wt:=Paired.imp' (λx b e=>Y e (c e (by intro z;cases z))) S;have aj:(upd H2 A.bf (.dK (kR (s.to++[(p,k)]) (bs++[r])))) r=some (.tup (tI (TM.bk n t))):=by rw[z6 (l8 ak I (by intro z;cases z))];exact ak
 have L:Paired (λ(x:Nat×Nat) b=>(upd H2 A.bf (.dK (kR (s.to++[(p,k)]) (bs++[r])))) b=some (.tup (tI (TM.bk n (md.getD x.2 []))))) (s.to++[(p,k)]) (bs++[r]) :=
  ye7 (Paired.imp' (λx b e=>Y e (c e (by intro z;cases z))) J) (by show _=some (HO.tup (tI (TM.bk n (md.getD k []))));rw[ax];exact aj)
 have ad:w6 [A.lt,A.bf,A.w] H (upd H2 A.bf (.dK (kR (s.to++[(p,k)]) (bs++[r])))):=w6.upd (w6.trans ac (y4.frame s2)) (by simp) _;clear Y c;generalize upd H2 A.bf (.dK (kR (s.to++[(p,k)]) (bs++[r])))=H3 at g D G v u T aj L ad ⊢;refine exI rfl (p7 cs g rfl ⟨.inl ⟨rfl,_,SqL.of G⟩,?_⟩);refine exI rfl (p7 cs g rfl ⟨A.m,rfl,⟨_,SqL.of D⟩,?_⟩);refine yz9 (λ(y:Nat×Nat)=>HO.tup [.int (y.1:Int),.int (y.2:Int)]) (s.mv.map λm=>(p,m)) (SqL.of D) (by rw[ae,x9]) (by rw[x9];lia) ?_ ?_
 .intro j H4 x y hx hy a _ _ _ _;obtain⟨m,aw,rfl⟩:=X7 hx;rw[al,aw]at hy
  cases hy
  exact exI rfl (exI rfl ⟨(by show 2<=ge;lia),λr' ai=>⟨y0 ai _,r',rfl,ai,z4⟩⟩)
 .intro Dl H4 as hD a av af bo;refine⟨A.w,Dl,_,_,rfl,rfl,a _ _ G,av,?_,?_⟩
  .rw[ae,ae,an,Paired.length af,ae];lia
  .have az:=a _ _ G;have Z:∀{b:Addr} {o:HO},H4 b=some o->b≠A.w->(upd H4 A.w (.lst (ws.map V.ref++as.map V.ref))) b=some o:=λ{b o} h d=>by rw[z6 d];exact h
   have nw:∀{b:Addr} {o:HO},H4 b=some o->o≠.lst (ws.map V.ref)->b≠A.w:=λ{b o} h d=>l8 h az d;refine q _ (w6.upd (w6.trans ad (y4.frame a)) (by simp) _) ⟨⟨dx,Z (a _ _ g) (nw (a _ _ g) (by intro z;cases z))⟩,Z (a _ _ D) hne,Z (a _ _ v) (nw (a _ _ v) (by intro z;cases z)),⟨bs++[r],Z (a _ _ u) (nw (a _ _ u) (by intro z;cases z)),Paired.imp' (λx b e=>Z (a _ _ e) (nw (a _ _ e) (by intro z;cases z))) L⟩,⟨ws++as,by rw[z4,aJ],?_⟩⟩;exact J6 (Paired.imp' (λx b e=>Z (a _ _ e) (nw (a _ _ e) (by intro z;cases z))) T) (Paired.imp' (λx b e=>Z e (nw e (by intro z;cases z))) af)
def xo0 (cS:Addr):Sp:=λvs H Q _=>∃(A:StA) (n:Nat) (md:List (List Nat)) (i:Nat) (s:StS),vs=[.ref A.a]/\Z8 cS n md H A i s/\s.lk<=s.wt.length/\s.wt.length<=1000000 /\
 (s.lk=s.wt.length->Q .non H)/\∀(x:Nat×Nat) (r:Addr) (H':Hp),s.wt[s.lk]?=some x->H' r=some (.tup [.int (x.1:Int),.int (x.2:Int)])->w6 [A.a] H H'->Z8 cS n md H' A i { s with lk:=s.lk+1 }->Q (.ref r) H'
theorem zh0:x0 ["self"] ["self"] (y6 T3):=scq
theorem zg0 (F:Fun K "next_pair" "Step.next_pair" T3 f fd)(B:Blt mg)(cs:m9 K cS M0):u7 P w K mg base CX0 1 f fd ["self"] (xo0 cS):=by
 refine F.ok zh0 (λW H Q E h=>?_) (λL X outer s H W Q E hr h=>?_)
 .obtain⟨A,n,S,i,s,rfl,_⟩:=h;rfl
 obtain⟨A,n,S,i,s,rfl,st,N,R,T,U⟩:=h;obtain⟨⟨dx,l⟩,O,y,⟨bs,u,v⟩,⟨G,I,j⟩⟩:=id st;have Y:=W5;have g:G.length=s.wt.length:=Paired.length j;refine⟨_,z7 (n4 (p5 P7 (y9 (pv 0) rfl) (w8 v1 rfl B.len i8 (z0 (y9 (pv 0) rfl) z5)) (o6 _)) (z8 (v0 ye9)) u4)
  (z7 (xd4 (pv 0) y8 xr5)
  (z8 (v0 (p9 p0 (y9 (pv 0) rfl) (o7 zj4 (y9 (pv 0) rfl) y8) (λ_ _=>rfl))))),?_⟩
 refine exI rfl (p7 cs l rfl (exI rfl (p7 cs l rfl ⟨A.w,exI rfl ⟨.inl (SqL.of I),rfl,_,rfl,xi4 (λc=>?_) (λc=>?_)⟩⟩)))
 .rw[c7,ae,g]at c;exact T (by have:=of_decide_eq_true c;lia)
 .rw[c7,ae,g]at c;have p:s.lk<s.wt.length:=by have:=of_decide_eq_false (cJ.mpr c);lia
  refine exI rfl ⟨A.a,cS,dx,_,_,rfl,l,cs.cls,(cs.no "looked_at" (by decide)),rfl,_,_,rfl,rfl,dx,_,l,(by show 6<1000;decide),?_⟩;have t:(upd H A.a (.ins cS dx (X4 "looked_at" (V.int ((s.lk:Int)+1)) [("place",.int i),("movers",.ref A.m),("line_to",.ref A.lt),("back_from",.ref A.bf),("waiting",.ref A.w),("looked_at",.int (s.lk:Int))]))) A.a=some (.ins cS dx [("place",.int i),("movers",.ref A.m),("line_to",.ref A.lt),("back_from",.ref A.bf),("waiting",.ref A.w),("looked_at",.int ((s.lk+1:Nat):Int))]):=by
   rw[z4,show((s.lk+1:Nat):Int)=(s.lk:Int)+1 by lia];rfl
  have fr:w6 [A.a] H (upd H A.a (.ins cS dx (X4 "looked_at" (V.int ((s.lk:Int)+1)) [("place",.int i),("movers",.ref A.m),("line_to",.ref A.lt),("back_from",.ref A.bf),("waiting",.ref A.w),("looked_at",.int (s.lk:Int))]))):=w6.upd w6.refl (by simp) _;generalize upd H A.a (.ins cS dx (X4 "looked_at" (V.int ((s.lk:Int)+1)) [("place",.int i),("movers",.ref A.m),("line_to",.ref A.lt),("back_from",.ref A.bf),("waiting",.ref A.w),("looked_at",.int (s.lk:Int))]))=H1 at t fr ⊢;have k:∀{b:Addr} {o:HO},H b=some o->o≠.ins cS dx [("place",.int i),("movers",.ref A.m),("line_to",.ref A.lt),("back_from",.ref A.bf),("waiting",.ref A.w),("looked_at",.int (s.lk:Int))]->H1 b=some o:=λ{b o} h d=>fr b o (by simpa using l8 h l d) h;have J:s.wt[s.lk]?=some s.wt[s.lk]:=aa p;obtain⟨r,C,D⟩:=l9 j s.lk _ J;have q:=k I (by intro z;cases z);have M:atI (G.map V.ref) ((s.lk:Nat):Int)=some (V.ref r):=o8 (by rw[al,C];rfl);refine exI rfl (p7 cs t rfl (exI rfl (p7 cs t rfl ⟨_,_,rfl,rfl,A.w,_,_,_,rfl,rfl,SqL.of q,?_,U _ r H1 J (k D (by intro z;cases z)) fr ⟨⟨dx,t⟩,k O (by intro z;cases z),k y (by intro z;cases z),⟨bs,k u (by intro z;cases z),Paired.imp' (λx b e=>k e (by intro z;cases z)) v⟩,⟨G,q,Paired.imp' (λx b e=>k e (by intro z;cases z)) j⟩⟩⟩)));rw[show((s.lk+1:Nat):Int)-1=((s.lk:Nat):Int) by lia];exact M
def yn1 (K:W.Frag):Sp:=λvs H Q _=>∃(a b:Addr) (n:Nat) (t by_:List Nat),vs=[.ref a,.ref b]/\SqT K H a (tI t)/\SqT K H b (tI by_)/\TM.IsT n t/\TM.IsT n by_/\n<=1000 /\
 ∀(r:Addr) (H':Hp) (c:List Nat),H r=none->y4 H H'->TM.Conj n t by_ c->H' r=some (.tup (tI c))->Q (.ref r) H'
theorem za2:x0 ["one","by","goes","place","to"] ["one","by"] (y6 zt6):=scq
theorem xc6 (D:Def K mg "turned" zt6 ["one","by"] f fd)(B:Blt mg):u7 P w K mg base CX0 1 f fd ["one","by"] (yn1 K):=by
 refine D.F.ok za2 (λS H Q E h=>?_) (λO A outer s H S Q E hr h=>?_)
 .obtain⟨a,b,n,t,d,rfl,_⟩:=h;rfl
 obtain⟨a,b,n,t,d,rfl,v,M,hT,hB,U,q⟩:=h;refine⟨_,z7 (u0 (i:=2) za2.nd rfl (Or.inl rfl) (u9 Q4 rfl B.list W1 (z0 (pv 0) z5)))
  (z7 (Z9 PassesOwn.never rfl (zs9 rfl B.enumerate (z0 (pv 0) z5)) (J9 rfl (i6 (t9 (i:=3) za2.nd rfl (Or.inl rfl)) (i6 (t9 (i:=4) za2.nd rfl (Or.inl rfl)) Q7)))
   (z8 (zd3 (p9 Y6 (pv 1) (pv 4) (λ_ _=>rfl)) (zs8 (pv 2) (p9 Y6 (pv 1) (pv 3) (λ_ _=>rfl)) A1))))
  (z8 (v0 (u9 l5 rfl B.tuple f9 (z0 (pv 2) z5))))),?_⟩
 refine exI rfl ⟨a,tI t,rfl,.inr v,λg N=>?_⟩;have s0:y4 H (upd H g (.lst (tI t))):=y0 N _;refine exI rfl ⟨a,rfl,⟨_,s0.seqT v⟩,L8 (xs:=tI t) (λi σ H2=>∃(c:List Nat) (J L:Option V),σ=[some (.ref a),some (.ref b),some (.ref g),J,L]/\y4 H H2/\H2 g=some (.lst (tI c))/\TM.Led n t d i c)
  ⟨t,none,none,rfl,s0,z4,TM.Led.start hT.length⟩ (λi σ H2 _ ⟨_,_,_,_,m,_⟩=>m.seqT v) ?_ ?_⟩
 .rintro i x σ H2 T R ⟨c,J,L,rfl,m,k,j⟩ o;obtain⟨y,C,rfl⟩:=X7 R;have l:i<n:=by have:=(ag.mp C).1;rwa [hT.length]at this
  have G:y<n:=hT.get_lt C;have u:g≠T:=z9 k o;have I:=m.trans (y0 o (.tup [V.int (i:Nat),V.int y]));have z:d.getD i 0<c.length:=by rw[j.len];exact hB.step_lt l
  refine⟨T,exI rfl ⟨SqT.of z4,rfl,_,_,rfl,_,_,rfl,rfl,?_⟩⟩;refine exI rfl (exI rfl ⟨b,_,_,_,rfl,rfl,I.seqT M,A2 (hB.get_step G),exI rfl (exI rfl (exI rfl ⟨b,_,_,_,rfl,rfl,I.seqT M,A2 (hB.get_step l),g,tI c,_,d.getD i 0,rfl,rfl,by rw[z6 u];exact k,by rw[x9];exact zf2 z,?_⟩))⟩);refine⟨c.set (d.getD i 0) (d.getD y 0),_,_,rfl,u8 I N _,by rw[z4,yg4],?_⟩;have e:t.getD i 0=y:=TM.getD_of C;have:=j.step hB l;rwa [e]at this
 .rintro σ H2 ⟨c,J,L,rfl,m,k,j⟩;rw[x9,hT.length]at j;refine exI rfl ⟨g,tI c,rfl,.inl ⟨SqL.of k,λr p=>?_⟩⟩;exact q r _ c (m.free p) (m.trans (y0 p _)) j.done z4
def kSq (K:W.Frag):Bool:=(["NoneType","bool","int","str","dict"].all λt=>W.kitAny K (.type t) [.type "list",.type "tuple"]==some false)&&["list","tuple"].all λt=>W.kitAny K (.type t) [.type "list",.type "tuple"]==some true
theorem we0 (h:kSq K=true)(d:PyData):W.kitAny K (.type (tyD d)) [.type "list",.type "tuple"]=some (yt0 d).isSome:=by
 unfold kSq at h;obtain⟨h1,h2⟩:=Bool.and_eq_true_iff.mp h;have a:∀t∈["NoneType","bool","int","str","dict"],W.kitAny K (.type t) [.type "list",.type "tuple"]=some false:=λt c=>eq_of_beq (bI.mp h1 t c);have b:∀t∈["list","tuple"],W.kitAny K (.type t) [.type "list",.type "tuple"]=some true:=λt c=>eq_of_beq (bI.mp h2 t c)
 cases d with
 | none=>exact a "NoneType" (by decide)
 | bool _=>exact a "bool" (by decide)
 | int _=>exact a "int" (by decide)
 | str _=>exact a "str" (by decide)
 | dict _=>exact a "dict" (by decide)
 | list _=>exact b "list" (by decide)
 | tuple _=>exact b "tuple" (by decide)
def wc2 (H:Hp)(a C:Addr)(n:Nat):Prop:=∃dx,H a=some (.ins C dx [("many",.int n)])
def zu8 (K:W.Frag):Sp:=λvs H Q _=>∃(x dx C:Addr) (n:Nat),vs=[.ref x,.int n]/\H x=some (.ins C dx [])/\m9 K C ["many"]/\Q .non (upd H x (.ins C dx [("many",.int n)]))
theorem zn9:x0 ["self","many"] ["self","many"] (y6 O0):=scq
theorem yj8 (F:Fun K "__init__" "Act.__init__" O0 f fd):u7 P w K mg base CX0 1 f fd ["self","many"] (zu8 K):=by
 refine F.ok zn9 (λd H Q E h=>?_) (λb A outer s H d Q E hr h=>?_)
 .obtain⟨x,dx,C,n,rfl,_⟩:=h;rfl
 obtain⟨x,dx,C,n,rfl,c,a,q⟩:=h;refine⟨_,z8 (W8 (pv 0) (pv 1) rfl),?_⟩;exact exI rfl (exI rfl ⟨x,C,dx,[],rfl,c,a.cls,a.no "many" aw,by decide,q⟩)
theorem wj5:decide (V.str "still"=V.str "told")=false:=by decide +kernel
theorem wj6:decide (V.str "told"=V.str "still")=false:=by decide +kernel
theorem wj3:decide (V.str "behind"=V.str "still")=false:=by decide +kernel
theorem wg0:decide (V.str "behind"=V.str "told")=false:=by decide +kernel
theorem wj2:decide (V.str "behind"=V.str "back")=false:=by decide +kernel
theorem wj4:decide (V.str "back"=V.str "still")=false:=by decide +kernel
theorem wg1:decide (V.str "back"=V.str "told")=false:=by decide +kernel
theorem c6.updL (h:c6 H as ls)(hr:∃xs,H r=some (.lst xs)):c6 (L2.upd H r o) as ls:=Paired.imp' (λb l e=>by
 obtain⟨xs,hx⟩:=hr
 rw[z6 (l8 e hx (by intro z;cases z))]
 exact e) h
structure xu9 (K:W.Frag) (w:gp) (mg:Str->Option Value) (d:Addr):Prop where
 gl:za6 mg "NUMBERS_OF" (.ref d)
 kd:xf3 K w d
 val:∀l:TM.Ln,∃t,W.nsIn K d (lnW l)=some (some (.int ((lnN l).length:Int) t))
def yc9:TM.Ln->Bool
 | .told _=>true
 | _=>false
theorem yq2 (l:TM.Ln):decide (V.str (lnW l)=V.str "told")=yc9 l:=by
 cases l with
 | still=>exact wj5
 | told k=>show decide (V.str "told"=V.str "told")=true;decide +kernel
 | behind i j=>exact wg0
 | back i=>exact wg1
theorem yp1 {l:TM.Ln}(h:l.Ok c p)(a:yc9 l=true):∀x∈lnN l,x<c:=by
 cases l with
 | still=>cases a
 | told k=>intro x b;rw[aq.mp b];exact h
 | behind i j=>cases a
 | back i=>cases a
theorem yp0 {l:TM.Ln}(h:l.Ok c p)(b:yc9 l=false):∀x∈lnN l,x<p:=by
 cases l with
 | still=>intro x a;cases a
 | told k=>cases b
 | behind i j =>
  intro x a;rcases ax.mp a with e|e
  .rw[e];exact h.1
  .rw[aq.mp e];exact h.2
 | back i=>intro x a;rw[aq.mp a];exact h
theorem xr8 (l:TM.Ln):(lnN l).length<=2:=by cases l <;> (show _<=2;simp[lnN])
theorem zp9 (n:Nat):(List.replicate n true).all id=true:=by
 induction n with
 | zero=>rfl
 | succ n ih=>rw[bK,dH,ih];rfl
def xo6:Sp:=λvs H Q _=>∃i:Int,vs=[.int i]/\Q (.bl true) H
theorem yo4 (a:p6 P w K mg base 1 "is_whole" ["thing"] N1):p6 P w K mg base 1 "is_whole" ["thing"] xo6:=by
 obtain⟨f,fd,G,r⟩:=a;exact⟨f,fd,G.imp λb H Q E ⟨i,e,q⟩=>⟨.int i,.int i,e,.int i,q⟩,r⟩
def ym6 (K:W.Frag):Sp:=λvs H Q _=>∃(b:Addr) (l:TM.Ln) (p c:Nat),vs=[.ref b,.int p,.int c]/\H b=some (.tup (lnV l))/\l.Ok c p/\∀H':Hp,y4 H H'->Q (.bl true) H'
theorem E6:x0 ["thing","ahead","count","word","numbers","bound"] ["thing","ahead","count"] (y6 zj9):=scq
theorem yr6 (D:Def K mg "is_line" zj9 ["thing","ahead","count"] f fd)(B:Blt mg)(u:p6 P w K mg base 1 "is_whole" ["thing"] N1)(k:xu9 K w mg C):u7 P w K mg base CX0 2 f fd ["thing","ahead","count"] (ym6 K):=by
 refine D.F.ok E6 (λX H Q E h=>?_) (λU A outer s H X Q E hr h=>?_)
 .obtain⟨b,l,p,c,rfl,_⟩:=h;rfl
 have T:=yo4 u;obtain⟨b,l,p,c,rfl,r,n,q⟩:=h;refine⟨_,z7 (n4 (PW.pt (B3 (Y7 (Z4 (w8 Y9 rfl B.isinstance n8 (z0 (pv 0) (z0 (Q6 (v:=.ty "tuple") rfl B.tuple f9 rfl) z5))))) (M7 (p5 P7 (w8 v1 rfl B.len i8 (z0 (pv 0) z5)) y8 (o6 _))))) (z8 (v0 Y3)) u4)
  (z7 (u0 (i:=3) E6.nd rfl (Or.inl rfl) (p9 Y6 (pv 0) y8 (λ_ _=>rfl)))
  (z7 (n4 (PW.pt (B3 (Y7 (Z4 (w8 Y9 rfl B.isinstance n8 (z0 (pv 3) (z0 (Q6 (v:=.ty "str") rfl B.str xx0 rfl) z5))))) (M7 (p5 xc9 (pv 3) (K2 k.gl rfl) rfl)))) (z8 (v0 Y3)) u4)
  (z7 (u0 (i:=4) E6.nd rfl (Or.inl rfl) (S9 xn5 (pv 0) (Q8 y8) I0))
  (z7 (n4 (p5 yw9 (w8 v1 rfl B.len i8 (z0 (pv 4) z5)) (xl2 (K2 k.gl rfl) (pv 3) (λ_ _=>rfl)) (o6 _)) (z8 (v0 Y3)) u4)
  (z7 (u0 (i:=5) E6.nd rfl (Or.inr rfl) (zs6 (p5 P7 (pv 3) W7 (o6 _)) (pv 2) (pv 1)))
  (z8 (v0 (w8 (P1 rfl) rfl B.all zh9 (z0 (b6 [5] ["number","bound"] rfl (zd2 (pv 4)) (λ_ _ _ _=>(zd1 (r6 T hr rfl (z0 (pv 0) z5)) (B2 (yk9 zs5 ya0 y8 (pv 0) (pv 1)))))) z5))))))))),?_⟩
 obtain⟨Z,a⟩:=k.val l;refine exI rfl ⟨_,_,_,_,rfl,D4.tup r,C6 zr5,exI rfl (o0 ?_)⟩;refine exI rfl ⟨b,exI rfl ⟨.inr (SqT.of r),rfl,_,rfl,?_⟩⟩;show if decide (V.int (((lnV l).length:Nat):Int)=V.int 0)=true then _ else _
 rw[decide_eq_false (λz=>by injection z with z;rw[yd4,av]at z;lia)];refine o0 (exI rfl (ixT (SqT.of r) (zo8 l) ?_));refine exI rfl ⟨_,_,_,_,rfl,D4.str _,C6 yq5,exI rfl (o0 ?_)⟩;refine exI rfl ⟨C,_,_,rfl,rfl,k.kd,a,exI rfl (o0 ?_)⟩;have m:P5 (lnV l) (some 1) none=tI (lnN l):=by rw[yd4];exact xx1 _ _
 refine exI rfl (exI rfl ⟨b,exI rfl ⟨SqT.of r,by rw[yd4];exact zi9 _ _,λg I=>?_⟩⟩);have O:=y0 I (.tup (P5 (lnV l) (some 1) none));have e:(upd H g (.tup (P5 (lnV l) (some 1) none))) g=some (.tup (tI (lnN l))):=by rw[z4,m]
 generalize upd H g (.tup (P5 (lnV l) (some 1) none))=Y at O e ⊢;refine exI rfl ⟨g,exI rfl ⟨.inr (SqT.of e),exI rfl ⟨C,_,V.int ((lnN l).length:Int),_,rfl,rfl,k.kd,a,⟨_,rfl⟩,rfl,_,rfl,?_⟩⟩⟩;show if (!decide (V.int (((tI (lnN l)).length:Nat):Int)=V.int ((lnN l).length:Int)))=true then _ else _
 rw[decide_eq_true (by rw[x9])];refine o0 ⟨_,rfl,rfl,_,rfl,?_⟩;show if decide (V.str (lnW l)=V.str "told")=true then _ else _
 rw[yq2];have W:=xr8 l;have key:∀(y:Nat),(∀x∈lnN l,x<y)->∀(j:Nat) (x:V),(tI (lnN l))[j]?=some x->∃z:Nat,x=V.int z/\z<y/\((List.replicate (lnN l).length true).map V.bl)[j]?=some (V.bl true):=λy G j x o=>by
  obtain⟨z,S,rfl⟩:=X7 o;refine⟨z,rfl,G z (au S),?_⟩;rw[al,bS,if_pos (ag.mp S).1];rfl
 cases ht:yc9 l
 .have M:=key p (yp0 n ht);refine o0 (exI rfl (exI rfl ⟨g,rfl,⟨_,SqT.of e⟩,L7 (SqT.of e) ((List.replicate (lnN l).length true).map V.bl) (by rw[ae,bo,x9]) (by rw[x9];exact small (by lia)) ?_ ?_⟩))
  .intro j H' x o s' _ _ _ _;obtain⟨z,rfl,L,J⟩:=M j x o;refine exI rfl (exI rfl (exI rfl (i9 (exI rfl ⟨_,_,rfl,rfl,_,rfl,?_⟩))));show if decide ((0:Int)<=(z:Int))=true then _ else _
   rw[decide_eq_true (by lia)];refine i9 (exI rfl ⟨_,_,rfl,rfl,y4.refl _,?_⟩);rw[J];show some (V.bl true)=some (V.bl (decide ((z:Int)<(p:Int))));rw[decide_eq_true (by lia)]
  intro N t _ R d;refine⟨N,exI rfl ⟨SqL.of d,?_⟩⟩;rw[zp9];exact q t (O.trans R)
 .have M:=key c (yp1 n ht);refine i9 (exI rfl (exI rfl ⟨g,rfl,⟨_,SqT.of e⟩,L7 (SqT.of e) ((List.replicate (lnN l).length true).map V.bl) (by rw[ae,bo,x9]) (by rw[x9];exact small (by lia)) ?_ ?_⟩))
  .intro j H' x o s' _ _ _ _;obtain⟨z,rfl,L,J⟩:=M j x o;refine exI rfl (exI rfl (exI rfl (i9 (exI rfl ⟨_,_,rfl,rfl,_,rfl,?_⟩))));show if decide ((0:Int)<=(z:Int))=true then _ else _
   rw[decide_eq_true (by lia)];refine i9 (exI rfl ⟨_,_,rfl,rfl,y4.refl _,?_⟩);rw[J];show some (V.bl true)=some (V.bl (decide ((z:Int)<(c:Int))));rw[decide_eq_true (by lia)]
  intro N t _ R d;refine⟨N,exI rfl ⟨SqL.of d,?_⟩⟩;rw[zp9];exact q t (O.trans R)
def zv0 (K:W.Frag):Sp:=λvs H Q _=>∃(a:Addr) (as:List Addr) (ls:List TM.Ln) (c:Nat),vs=[.ref a,.int c]/\H a=some (.lst (as.map V.ref))/\Z7 H as ls/\TM.Rec c ls/\ls≠[]/\ls.length<=5000000/\∀H':Hp,y4 H H'->Q (.bl true) H'
theorem yf8:x0 ["thing","count"] ["thing","count"] (y6 B7):=scq
theorem ye1 (D:Def K mg "is_recipe" B7 ["thing","count"] f fd)(B:Blt mg)(t:p6 P w K mg base 2 "is_line" ["thing","ahead","count"] (ym6 K)):u7 P w K mg base CX0 3 f fd ["thing","count"] (zv0 K):=by
 refine D.F.ok yf8 (λJ H Q E h=>?_) (λu A outer s H J Q E hr h=>?_)
 .obtain⟨a,g,ls,c,rfl,_⟩:=h;rfl
 obtain⟨a,g,ls,c,rfl,e,p,hR,hne,k,q⟩:=h;have C:0<ls.length:=cp.mpr hne;have d:(g.map V.ref).length=ls.length:=by rw[ae];exact Paired.length p
 refine⟨_,z7 (n4 (PW.pt (B3 (Y7 (Z4 (w8 Y9 rfl B.isinstance n8 (z0 (pv 0) (z0 (Q6 (v:=.ty "list") rfl B.list W1 rfl) z5))))) (M7 (p5 P7 (w8 v1 rfl B.len i8 (z0 (pv 0) z5)) y8 (o6 _))))) (z8 (v0 Y3)) u4)
  (z8 (v0 (w8 (P1 rfl) rfl B.all zh9 (z0 (yx2 2 [1] ["ahead","line","count"] rfl (zg3 rfl B.enumerate (z0 (pv 0) z5)) (λ_ _ _ _=>J9 rfl (i6 (t9 (i:=0) (show(["ahead","line","count"]:List Str).Nodup by decide +kernel) rfl (.inl (lookup_relabel_local rfl)) (.inr (lookup_relabel_local rfl))) (i6 (t9 (i:=1) (show(["ahead","line","count"]:List Str).Nodup by decide +kernel) rfl (.inl (lookup_relabel_local rfl)) (.inr (lookup_relabel_local rfl))) Q7))) (λ_ _ _ _=>r6 t hr rfl (z0 (pv 1) (z0 (pv 0) (z0 (pv 2) z5))))) z5)))),?_⟩
 refine exI rfl ⟨_,_,_,_,rfl,D4.lst e,C6 zf3,exI rfl (o0 ?_)⟩;refine exI rfl ⟨a,exI rfl ⟨.inl (SqL.of e),rfl,_,rfl,?_⟩⟩;show if decide (V.int (((g.map V.ref).length:Nat):Int)=V.int 0)=true then _ else _
 rw[decide_eq_false (λz=>by injection z with z;rw[d]at z;lia)];refine o0 (exI rfl ⟨a,rfl,⟨_,SqL.of e⟩,yz8 (SqL.of e) ((List.replicate ls.length true).map V.bl) (by rw[ae,bo,d]) (by rw[d];exact aD k (by decide)) ?_ ?_⟩)
 .intro i H' x G s' _ _ _ _;obtain⟨b,y,rfl⟩:=V8 G;obtain⟨l,r,j⟩:=p4 p i b y;refine exI rfl (exI rfl (exI rfl ⟨b,l,i,c,rfl,s' _ _ j,hR i l r,λo n=>⟨n,?_⟩⟩));rw[al,bS,if_pos (ag.mp r).1];rfl
 intro I o _ n m;refine⟨I,exI rfl ⟨SqL.of m,?_⟩⟩;rw[zp9];exact q o n
def zv1 (K:W.Frag):Sp:=λvs H Q _=>∃(b md mk:Addr) (l:TM.Ln) (ps mas:List Addr) (made ms:List (List Nat)) (n:Nat),vs=[.ref b,.ref md,.ref mk,.int n]/\H b=some (.tup (lnV l))/\H md=some (.lst (ps.map V.ref))/\c6 H ps made/\H mk=some (.lst (mas.map V.ref))/\c6 H mas ms/\(∀t∈made,TM.IsT n t)/\(∀t∈ms,TM.IsT n t)/\l.Ok ms.length made.length/\n<=100 /\
 ∀(r:Addr) (H':Hp),y4 H H'->H' r=some (.tup (tI (l.mk n ms made)))->Q (.ref r) H'
theorem zh3:x0 ["line","made","makers","many","word"] ["line","made","makers","many"] (y6 B8):=scq
theorem wg8:decide (V.str "still"=V.str "still")=true:=by decide +kernel
theorem wg9:decide (V.str "told"=V.str "told")=true:=by decide +kernel
theorem wg7:decide (V.str "back"=V.str "back")=true:=by decide +kernel
theorem yz2 {made:List (List Nat)}(h:c6 H ps made)(hT:∀t∈made,TM.IsT n t)(a:j<made.length):∃x t,ps[j]?=some x/\H x=some (.tup (tI t))/\TM.IsT n t/\made.getD j []=t:=by
 obtain⟨x,c,b⟩:=l9 h j _ (aa a);exact⟨x,_,c,b,hT _ (bw a),by rw[ah,aa a];rfl⟩
theorem ye2 (D:Def K mg "line_made" B8 ["line","made","makers","many"] f fd)(B:Blt mg)(Y:p6 P w K mg base 1 "still" ["many"] zh6)(X:p6 P w K mg base 1 "back" ["one"] (zu4 K))(W:p6 P w K mg base 1 "behind" ["one","other"] (K5 K)):u7 P w K mg base CX0 2 f fd ["line","made","makers","many"] (zv1 K):=by
 refine D.F.ok zh3 (λvs H Q E h=>?_) (λZ A outer s H vs Q E hr h=>?_)
 .obtain⟨b,md,mk,l,ps,R,made,S,n,rfl,_⟩:=h;rfl
 obtain⟨b,md,mk,l,ps,R,made,S,n,rfl,u,o,g,M,G,m,J,d,hn,q⟩:=h;refine⟨_,z7 (u0 (i:=4) zh3.nd rfl (Or.inl rfl) (p9 Y6 (pv 0) y8 (λ_ _=>rfl)))
  (z7 (n4 (p5 P7 (pv 4) W7 (o6 _)) (z8 (v0 (r6 Y hr rfl (z0 (pv 3) z5)))) u4)
  (z7 (n4 (p5 P7 (pv 4) W7 (o6 _)) (z8 (v0 (p9 p0 (pv 2) (p9 Y6 (pv 0) y8 (λ_ _=>rfl)) (λ_ _=>rfl)))) u4)
  (z7 (n4 (p5 P7 (pv 4) W7 (o6 _)) (z8 (v0 (r6 X hr rfl (z0 (p9 p0 (pv 1) (p9 Y6 (pv 0) y8 (λ_ _=>rfl)) (λ_ _=>rfl)) z5)))) u4)
  (z8 (v0 (r6 W hr rfl (z0 (p9 p0 (pv 1) (p9 Y6 (pv 0) y8 (λ_ _=>rfl)) (λ_ _=>rfl)) (z0 (p9 p0 (pv 1) (p9 Y6 (pv 0) y8 (λ_ _=>rfl)) (λ_ _=>rfl)) z5)))))))),?_⟩
 have y:atI (lnV l) 0=some (V.str (lnW l)):=zo8 l;refine exI rfl (ixT (SqT.of u) y ?_)
 cases l with
 | still =>
  refine⟨_,rfl,rfl,_,rfl,?_⟩;show if decide (V.str "still"=V.str "still")=true then _ else _
  rw[wg8];exact i9 (exI rfl ⟨n,rfl,by lia,λr H' _ s' h'=>q r H' s' h'⟩)
 | told k =>
  refine⟨_,rfl,rfl,_,rfl,?_⟩;show if decide (V.str "told"=V.str "still")=true then _ else _
  rw[wj6];refine o0 ⟨_,rfl,rfl,_,rfl,?_⟩;show if decide (V.str "told"=V.str "told")=true then _ else _
  rw[wg9];obtain⟨x,t,hx,O,hT,e⟩:=yz2 G J (show k<S.length from d);exact i9 (exI rfl (exI rfl (ixT (SqT.of u) (o8 (j:=1) rfl) (ixI (SqL.of M) (zj7 hx) (q x H (y4.refl _) (by show H x=some (.tup (tI (S.getD k [])));rw[e];exact O))))))
 | behind i j =>
  refine⟨_,rfl,rfl,_,rfl,?_⟩;show if decide (V.str "behind"=V.str "still")=true then _ else _
  rw[wj3];refine o0 ⟨_,rfl,rfl,_,rfl,?_⟩;show if decide (V.str "behind"=V.str "told")=true then _ else _
  rw[wg0];refine o0 ⟨_,rfl,rfl,_,rfl,?_⟩;show if decide (V.str "behind"=V.str "back")=true then _ else _
  rw[wj2];obtain⟨U,T,p,c,a,C⟩:=yz2 g m d.1;obtain⟨x2,t2,N,v,I,e2⟩:=yz2 g m d.2;exact o0 (exI rfl (exI rfl (ixT (SqT.of u) (o8 (j:=1) rfl) (ixI (SqL.of o) (zj7 p) (exI rfl (exI rfl (ixT (SqT.of u) (o8 (j:=2) rfl) (ixI (SqL.of o) (zj7 N) ⟨U,x2,T,t2,rfl,SqT.of c,SqT.of v,by rw[a.length];lia,λz hz=>by rw[I.length];exact a.lt hz,λr H' _ s' h'=>q r H' s' (by show H' r=some (.tup (tI (TM.comp (made.getD i []) (made.getD j []))));rw[C,e2];exact h')⟩))))))))
 | back i =>
  refine⟨_,rfl,rfl,_,rfl,?_⟩;show if decide (V.str "back"=V.str "still")=true then _ else _
  rw[wj4];refine o0 ⟨_,rfl,rfl,_,rfl,?_⟩;show if decide (V.str "back"=V.str "told")=true then _ else _
  rw[wg1];refine o0 ⟨_,rfl,rfl,_,rfl,?_⟩;show if decide (V.str "back"=V.str "back")=true then _ else _
  rw[wg7];obtain⟨U,T,p,c,a,C⟩:=yz2 g m (show i<made.length from d);exact i9 (exI rfl (exI rfl (ixT (SqT.of u) (o8 (j:=1) rfl) (ixI (SqL.of o) (zj7 p) ⟨U,n,T,rfl,SqT.of c,a,by lia,λr H' bk _ s' L h'=>q r H' s' (by show H' r=some (.tup (tI (TM.bkT n (made.getD i []))));rw[C,←L.uniq a (TM.bkT_back a)];exact h')⟩))))
def yn2 (K:W.Frag):Sp:=λvs H Q _=>∃(a m:Addr) (as mas:List Addr) (ls:List TM.Ln) (ms:List (List Nat)) (n:Nat),vs=[.ref a,.ref m,.int n]/\H a=some (.lst (as.map V.ref))/\Z7 H as ls/\H m=some (.lst (mas.map V.ref))/\c6 H mas ms/\TM.Rec ms.length ls/\ls≠[]/\(∀t∈ms,TM.IsT n t)/\n<=100/\ls.length<=5000000 /\
 ∀(r:Addr) (H':Hp) (bs:List Addr),H r=none->y4 H H'->H' r=some (.lst (bs.map V.ref))->c6 H' bs (TM.mkAll n ms ls)->Q (.ref r) H'
theorem zk6:x0 ["lines","makers","many","made","line"] ["lines","makers","many"] (y6 zt7):=scq
theorem xc7 (D:Def K mg "worked" zt7 ["lines","makers","many"] f fd)(B:Blt mg)(Z:p6 P w K mg base 3 "is_recipe" ["thing","count"] (zv0 K))(Y:p6 P w K mg base 2 "line_made" ["line","made","makers","many"] (zv1 K)):u7 P w K mg base CX0 4 f fd ["lines","makers","many"] (yn2 K):=by
 refine D.F.ok zk6 (λvs H Q E h=>?_) (λaa A outer s H vs Q E hr h=>?_)
 .obtain⟨a,m,v,g,ls,j,n,rfl,_⟩:=h;rfl
 obtain⟨a,m,v,g,ls,j,n,rfl,G,C,X,W,hR,hne,p,hn,M,q⟩:=h;refine⟨_,z7 (n4 (Y7 (Z4 (r6 Z hr rfl (z0 (pv 0) (z0 (w8 v1 rfl B.len i8 (z0 (pv 1) z5)) z5))))) (z8 K3) u4)
  (z7 (u0 (i:=3) zk6.nd rfl (Or.inl rfl) (Z2 z5))
  (z7 (Z9 PassesOwn.never rfl (Y8 (pv 0)) (t9 (i:=4) zk6.nd rfl (Or.inl rfl))
   (z8 (i5 (K1 PySem.F.plainAttrs_list PySem.F.slot_list_append PySem.F.type_list_append c3 (pv 3) (z0 (r6 Y hr rfl (z0 (pv 4) (z0 (pv 3) (z0 (pv 1) (z0 (pv 2) z5))))) z5)))))
  (z8 (v0 (pv 3))))),?_⟩
 have I:(v.map V.ref).length=ls.length:=by rw[ae];exact Paired.length C
 have N:(g.map V.ref).length=j.length:=by rw[ae];exact Paired.length W
 refine exI rfl (exI rfl ⟨m,exI rfl ⟨.inl (SqL.of X),a,v,ls,j.length,by rw[N];rfl,G,C,hR,hne,M,λH1 s1=>exI rfl (o0 ?_)⟩⟩);refine⟨(by show 0<=ge;decide),λr u=>?_⟩;have t:H r=none:=s1.free u;have s0:=s1.trans (y0 u (.lst []));refine exI rfl ⟨a,rfl,⟨_,SqL.of (s0 _ _ G)⟩,V5 (K:=K) (a:=a) (xs:=v.map V.ref) (λi σ H2=>∃(bs:List Addr) (T:Option V),σ=[some (.ref a),some (.ref m),some (.int n),some (.ref r),T]/\y4 H H2/\H2 r=some (.lst (bs.map V.ref))/\c6 H2 bs (TM.mkAll n j (ls.take i)))
  ⟨[],none,rfl,s0,z4,.nil⟩ (λi σ H2 _ ⟨_,_,_,s,_⟩=>SqL.of (s _ _ G)) ?_ ?_⟩
 .rintro i y σ H2 hi ⟨bs,T,rfl,k,h2,c⟩;obtain⟨b,hb,rfl⟩:=V8 hi;obtain⟨l,L,J⟩:=p4 C i b hb;have ac:i<ls.length:=(ag.mp L).1;have O:=hR i l L;have d:(TM.mkAll n j (ls.take i)).length=i:=by rw[TM.mkAll_len,aK];lia
  have o:bs.length=i:=by rw[Paired.length c,d]
  refine exI rfl ⟨.inl ⟨rfl,_,SqL.of h2⟩,exI rfl (exI rfl (exI rfl (exI rfl ⟨b,r,m,l,bs,g,_,j,n,rfl,k _ _ J,h2,c,k _ _ X,W.same k,TM.mkAll_isT (hR.take i) rfl p,p,by rw[d];exact O,hn,λx H3 S U=>?_⟩)))⟩;have e:=S _ _ h2;have R:x≠r:=l8 U e (by intro z;cases z);refine⟨r,_,_,rfl,rfl,e,by rw[ae,o];exact bC (show i<=5000000 by lia) (by decide),?_⟩;refine⟨bs++[x],exI rfl ⟨u8 (k.trans S) t _,by rw[z4,aJ];rfl,?_⟩⟩;rw[TM.take_snocL L,TM.mkAll_snoc];exact Paired.snoc ((c.same S).updL ⟨_,e⟩) (by rw[z6 R];exact U)
 .rintro σ H2 ⟨bs,T,rfl,k,h2,c⟩;rw[I,aV (af _)]at c;exact exI rfl (q r H2 bs t k h2 c)
def yg1 (K:W.Frag):Sp:=λvs H Q _=>∃(a:Addr) (l:TM.Ln),vs=[.ref a]/\H a=some (.tup (lnV l))/\∀(r:Addr) (H':Hp),H r=none->y4 H H'->H' r=some (.tup (tI l.refs))->Q (.ref r) H'
theorem zt9:x0 ["line"] ["line"] (y6 L0):=scq
def xz0:TM.Ln->Bool
 | .behind _ _=>true
 | .back _=>true
 | _=>false
theorem xi0 (l:TM.Ln):inV (V.str (lnW l)) [V.str "behind",V.str "back"]=xz0 l:=by
 cases l with
 | still=>show inV (V.str "still") [V.str "behind",V.str "back"]=false;decide +kernel
 | told k=>show inV (V.str "told") [V.str "behind",V.str "back"]=false;decide +kernel
 | behind i j=>show inV (V.str "behind") [V.str "behind",V.str "back"]=true;decide +kernel
 | back i=>show inV (V.str "back") [V.str "behind",V.str "back"]=true;decide +kernel
theorem zs4 (D:Def K mg "lines_named" L0 ["line"] f fd)(B:Blt mg):u7 P w K mg base CX0 1 f fd ["line"] (yg1 K):=by
 refine D.F.ok zt9 (λm H Q E h=>?_) (λe A outer s H m Q E hr h=>?_)
 .obtain⟨a,l,rfl,_⟩:=h;rfl
 obtain⟨a,l,rfl,d,q⟩:=h;refine⟨_,z8 (v0 (zs6 (p5 xc8 (p9 Y6 (pv 0) y8 (λ_ _=>rfl)) (P9 (z0 W7 (z0 W7 z5))) rfl) (S9 xn5 (pv 0) (Q8 y8) I0) (P9 z5))),?_⟩;refine exI rfl (ixT (SqT.of d) (zo8 l) ⟨(by show 2<=ge;decide),λp g=>?_⟩);have s1:=y0 g (.tup [V.str "behind",V.str "back"]);refine⟨p,exI rfl ⟨.inr (SqT.of z4),rfl,rfl,_,rfl,?_⟩⟩;show if inV (V.str (lnW l)) [V.str "behind",V.str "back"]=true then _ else _
 rw[xi0];generalize upd H p (.tup [V.str "behind",V.str "back"])=H1 at s1 ⊢;have c:=s1 _ _ d
 cases l with
 | still=>exact o0 ⟨(by show 0<=ge;decide),λr b=>q r _ (s1.free b) (s1.trans (y0 b _)) z4⟩
 | told k=>exact o0 ⟨(by show 0<=ge;decide),λr b=>q r _ (s1.free b) (s1.trans (y0 b _)) z4⟩
 | behind i j =>
  refine i9 (exI rfl (exI rfl ⟨a,exI rfl ⟨SqT.of c,zi9 _ _,λr b=>?_⟩⟩));exact q r _ (s1.free b) (s1.trans (y0 b _)) (by rw[z4];exact congrArg (λz=>some (HO.tup z)) (xx1 _ _))
 | back i =>
  refine i9 (exI rfl (exI rfl ⟨a,exI rfl ⟨SqT.of c,zi9 _ _,λr b=>?_⟩⟩));exact q r _ (s1.free b) (s1.trans (y0 b _)) (by rw[z4];exact congrArg (λz=>some (HO.tup z)) (xx1 _ _))
noncomputable def nbs (ls:List TM.Ln):List Bool:=(List.range ls.length).map (TM.nb ls)
def ym8 (K:W.Frag):Sp:=λvs H Q _=>∃(a:Addr) (as:List Addr) (ls:List TM.Ln) (c:Nat),vs=[.ref a]/\H a=some (.lst (as.map V.ref))/\Z7 H as ls/\TM.Rec c ls/\ls≠[]/\ls.length<=5000000 /\
 ∀(r:Addr) (H':Hp),H r=none->y4 H H'->H' r=some (.lst ((nbs ls).map V.bl))->Q (.ref r) H'
theorem za1:x0 ["lines","needs","number","named"] ["lines"] (y6 zt5):=scq
structure Ndd (ls:List TM.Ln) (m:Nat) (bs:List Bool):Prop where
 len:bs.length=ls.length
 iff:∀q,q<ls.length->(bs[q]?=some true↔q=ls.length-1∨∃p l,m<=p/\TM.nb ls p=true/\ls[p]?=some l/\q∈l.refs)
theorem Ndd.here {ls:List TM.Ln}(hR:TM.Rec c ls)(h:Ndd ls (m+1) bs)(d:m<ls.length):bs[m]?=some (TM.nb ls m):=by
 have b:m<bs.length:=by rw[h.len];exact d
 have key:bs[m]?=some true↔TM.nb ls m=true:=by
  rw[h.iff m d];constructor
  .rintro (e|⟨p,l,_,h2,a,f⟩)
   .rw[e];exact TM.nb_last
   .exact TM.nb_step h2 a f
  .intro g;rcases (TM.nb_iff.mp g).from_above with e|⟨r,l,h1,h2,a⟩
   .exact .inl e
   .exact .inr ⟨r,l,(hR r l h2).lt a,TM.nb_iff.mpr h1,h2,a⟩
 rw[aa b]at key ⊢
 cases e1:bs[m] <;> cases e2:TM.nb ls m <;> rw[e1,e2]at key <;> simp at key <;> rfl
theorem Ndd.skip (h:Ndd ls (m+1) bs)(b:TM.nb ls m=false):Ndd ls m bs:=by
 refine⟨h.len,λq c=>?_⟩;rw[h.iff q c];constructor
 .rintro (e|⟨p,l,h1,h2⟩)
  .exact .inl e
  .exact .inr ⟨p,l,by lia,h2⟩
 .rintro (e|⟨p,l,h1,h2,a⟩)
  .exact .inl e
  .by_cases e:p=m
   .subst e;rw[b]at h2;cases h2
   .exact .inr ⟨p,l,by lia,h2,a⟩
theorem xc5 (D:Def K mg "needed" zt5 ["lines"] f fd)(B:Blt mg)(KN:p6 P w K mg base 1 "lines_named" ["line"] (yg1 K)):u7 P w K mg base CX0 2 f fd ["lines"] (ym8 K):=by
 refine D.F.ok za1 (λvs H Q E h=>?_) (λbk A outer s H vs Q E hr h=>?_)
 .obtain⟨a,L,ls,c,rfl,_⟩:=h;rfl
 obtain⟨a,L,ls,c,rfl,ha,hP,hR,hne,bw,q⟩:=h;have bv:0<ls.length:=cp.mpr hne;have d:(L.map V.ref).length=ls.length:=by rw[ae];exact Paired.length hP
 refine⟨_,z7 (u0 (i:=1) za1.nd rfl (Or.inl rfl) (o7 xk9 (Z2 (z0 Y3 z5)) (w8 v1 rfl B.len i8 (z0 (pv 0) z5))))
  (z7 (zd3 Y3 (zs8 (pv 1) (zs7 ze5 y8) A1))
  (z7 (Z9 PassesOwn.never rfl (xd2 rfl B.range (z0 (o7 zj4 (w8 v1 rfl B.len i8 (z0 (pv 0) z5)) y8) (z0 (zs7 ze5 y8) (z0 (zs7 ze5 y8) z5)))) (t9 (i:=2) za1.nd rfl (Or.inl rfl))
   (z8 (n4 (yl3 (p9 p0 (pv 1) (pv 2) (λ_ _=>rfl)) (λ_=>rfl)) (z8 (Z9 PassesOwn.never rfl (zd2 (r6 KN hr rfl (z0 (p9 p0 (pv 0) (pv 2) (λ_ _=>rfl)) z5))) (t9 (i:=3) za1.nd rfl (Or.inl rfl))
     (z8 (zd3 Y3 (zs8 (pv 1) (pv 3) A1))))) u4)))
  (z8 (v0 (pv 1))))),?_⟩
 refine⟨(by show 1<=ge;decide),λon ax=>?_⟩;have s1:=y0 ax (.lst [V.bl false]);have e1:(upd H on (.lst [V.bl false])) on=some (.lst [V.bl false]):=z4;generalize upd H on (.lst [V.bl false])=H1 at s1 e1 ⊢;refine exI rfl ⟨a,exI rfl ⟨.inl (SqL.of (s1 _ _ ha)),on,_,[V.bl false],rfl,rfl,e1,by lia,by rw[d];lia,?_,λr Z=>?_⟩⟩
 .rw[d];exact aD (show [V.bl false].length*((ls.length:Nat):Int).toNat<=5000000 by simp only[av,bO];lia) (by decide)
 have U:(List.replicate (((L.map V.ref).length:Nat):Int).toNat [V.bl false]).flatten=(List.replicate ls.length false).map V.bl:=by
  rw[d,bG]
  induction ls.length with
  | zero=>rfl
  | succ k ih=>rw[bK,cX,ih,bK,aN];rfl
 rw[U];have N:H r=none:=s1.free Z;have s2:=s1.trans (y0 Z (.lst ((List.replicate ls.length false).map V.bl)));have e2:(upd H1 r (.lst ((List.replicate ls.length false).map V.bl))) r=some (.lst ((List.replicate ls.length false).map V.bl)):=z4;generalize upd H1 r (.lst ((List.replicate ls.length false).map V.bl))=H2 at s2 e2 ⊢;have aq:ixN ((List.replicate ls.length false).map V.bl).length (-1)=some (ls.length-1):=by
  rw[ae,bo];unfold ixN;rw[if_neg (by decide),if_pos (by lia)];congr 1;lia
 refine exI rfl (exI rfl ⟨r,_,_,ls.length-1,rfl,rfl,e2,aq,?_⟩);have x:((List.replicate ls.length false).map V.bl).set (ls.length-1) (V.bl true)=((List.replicate ls.length false).set (ls.length-1) true).map V.bl:=by rw[fS]
 rw[x];have s3:y4 H (upd H2 r (.lst (((List.replicate ls.length false).set (ls.length-1) true).map V.bl))):=u8 s2 N _;have e3:(upd H2 r (.lst (((List.replicate ls.length false).set (ls.length-1) true).map V.bl))) r=some (.lst (((List.replicate ls.length false).set (ls.length-1) true).map V.bl)):=z4;generalize upd H2 r (.lst (((List.replicate ls.length false).set (ls.length-1) true).map V.bl))=H3 at s3 e3 ⊢;have d0:Ndd ls ls.length ((List.replicate ls.length false).set (ls.length-1) true):=by
  refine⟨by rw[bt,bo],λq u=>?_⟩;by_cases M:q=ls.length-1
  .subst M;rw[bB (by rw[bo];exact u)];simp
  .rw[br (Ne.symm M),bS,if_pos u];constructor
   .intro z;cases z
   .rintro (z|⟨p,l,h1,_,I,_⟩)
    .exact absurd z M
    .have:=(ag.mp I).1;lia
 refine exI rfl ⟨a,exI rfl ⟨.inl (SqL.of (s3 _ _ ha)),_,_,rfl,rfl,_,rfl,_,rfl,_,_,rfl,⟨by rw[d];lia,by rw[d];lia,by decide,by decide⟩,yp8 (lo:=(((L.map V.ref).length:Nat):Int)-1) (n:=((((L.map V.ref).length:Nat):Int)-1-(-1)).toNat) (λi σ S=>∃(bs:List Bool) (v2 J:Option V),σ=[some (.ref a),some (.ref r),v2,J]/\y4 H S/\S r=some (.lst (bs.map V.bl))/\Ndd ls (ls.length-i) bs)
  ⟨_,none,none,rfl,s3,e3,d0⟩ ?_ ?_⟩⟩
 .rintro i σ S hi ⟨bs,v2,J,rfl,R,t,G⟩;have bu:i<ls.length:=by rw[d]at hi;lia
  have em:(((L.map V.ref).length:Nat):Int)-1-(i:Int)=((ls.length-1-i:Nat):Int):=by rw[d];lia
  rw[em];have ak:ls.length-i=(ls.length-1-i)+1:=by lia
  rw[ak]at G;have hm:ls.length-1-i<ls.length:=by lia
  have T:ls.length-(i+1)=ls.length-1-i:=by lia
  have hb:=G.here hR hm;generalize hmm:ls.length-1-i=m at *;refine exI rfl (exI rfl (ixI (v:=V.bl (TM.nb ls m)) (SqL.of t) (o8 (by rw[al,hb];rfl)) ⟨TM.nb ls m,rfl,?_⟩))
  cases hbm:TM.nb ls m with
  | false =>
   refine o0 ⟨bs,_,_,rfl,R,t,?_⟩;rw[T];exact G.skip hbm
  | true =>
   refine i9 ?_;have C:ls[m]?=some ls[m]:=aa hm;obtain⟨b,ap,W⟩:=l9 hP m _ C;generalize hlq:ls[m]=l at C W;have aw:=hR m l C;refine exI rfl (exI rfl (ixI (SqL.of (R _ _ ha)) (zj7 ap) ⟨b,l,rfl,R _ _ W,λtp H5 a' s5 X=>?_⟩));have az:r≠tp:=z9 t a';refine⟨tp,rfl,⟨_,SqT.of X⟩,yc5 (K:=K) (a:=tp) (xs:=tI l.refs) (λj σ O=>∃(bs:List Bool) (J:Option V),σ=[some (.ref a),some (.ref r),some (.int m),J]/\y4 H O/\O tp=some (.tup (tI l.refs))/\O r=some (.lst (bs.map V.bl))/\bs.length=ls.length/\∀q,q<ls.length->(bs[q]?=some true↔(q=ls.length-1∨∃p l,m+1<=p/\TM.nb ls p=true/\ls[p]?=some l/\q∈l.refs)∨q∈l.refs.take j))
    ⟨bs,J,rfl,R.trans s5,X,s5 _ _ t,G.len,λq u=>by rw[G.iff q u];simp⟩ (λj σ O _ ⟨_,_,_,_,h,_⟩=>SqT.of h) ?_ ?_⟩
   .rintro j y σ O hy ⟨bs,J,rfl,s6,ab,h6,g,o⟩;obtain⟨p,hp,rfl⟩:=X7 hy;have Y:p<ls.length:=dw (aw.lt (au hp)) hm;refine exI rfl (exI rfl ⟨r,_,_,p,rfl,rfl,h6,by rw[ae];exact zf2 (by rw[g];exact Y),?_⟩);have x:(bs.map V.bl).set p (V.bl true)=(bs.set p true).map V.bl:=by rw[fS]
    rw[x];refine⟨bs.set p true,exI rfl ⟨u8 s6 N _,by rw[z6 (Ne.symm az)];exact ab,z4,by rw[bt];exact g,λq u=>?_⟩⟩;rw[aT,hp];by_cases M:q=p
    .subst M;rw[bB (by rw[g];exact Y)];simp
    .rw[br (Ne.symm M),o q u];simp[M]
   .rintro σ O ⟨bs,J,rfl,s6,ab,h6,g,o⟩;rw[x9,aV (af _)]at o;refine⟨bs,_,_,rfl,s6,h6,?_⟩;rw[T];refine⟨g,λq u=>?_⟩;rw[o q u];constructor
    .rintro ((z|⟨p,l',h1,h2⟩)|z)
     .exact .inl z
     .exact .inr ⟨p,l',by lia,h2⟩
     .exact .inr ⟨m,l,af _,hbm,C,z⟩
    .rintro (z|⟨p,l',h1,h2,I,t⟩)
     .exact .inl (.inl z)
     .by_cases ep:p=m
      .subst ep;rw[C]at I
       cases I
       exact .inr t
      .exact .inl (.inr ⟨p,l',by lia,h2,I,t⟩)
 .rintro σ S ⟨bs,v2,J,rfl,R,t,G⟩;have en:ls.length-((((L.map V.ref).length:Nat):Int)-1-(-1)).toNat=0:=by rw[d];lia
  rw[en]at G;have aj:bs=nbs ls:=by
   unfold nbs;apply cI;intro q;by_cases u:q<ls.length
   .rw[al,aZ u];have ay:q<bs.length:=by rw[G.len];exact u
    have key:bs[q]?=some true↔TM.nb ls q=true:=by
     rw[G.iff q u];constructor
     .rintro (e|⟨p,l,_,h2,I,t⟩)
      .rw[e];exact TM.nb_last
      .exact TM.nb_step h2 I t
     .intro hb;rcases (TM.nb_iff.mp hb).from_above with e|⟨r,l,h1,h2,I⟩
      .exact .inl e
      .exact .inr ⟨r,l,aG _,TM.nb_iff.mpr h1,h2,I⟩
    rw[aa ay]at key ⊢;simp only[cz]
    cases e1:bs[q] <;> cases e2:TM.nb ls q <;> rw[e1,e2]at key <;> simp at key <;> rfl
   .rw[aQ (by rw[G.len];lia),aQ (by rw[ae,aU];lia)]
  rw[aj]at t;exact exI rfl (q r S N R t)
def ya6 (K:W.Frag):Sp:=λvs H Q _=>∃(a d:Addr) (l:TM.Ln) (kvs:List (Key×V)) (g:Nat->Nat),vs=[.ref a,.ref d]/\H a=some (.tup (lnV l))/\H d=some (.dK kvs)/\(∀r∈l.refs,V0 kvs (Sum.inl (r:Int):Key)=some (V.int (g r:Int))) /\
 ∀(r:Addr) (H':Hp),y4 H H'->H' r=some (.tup (lnV (l.ren g)))->Q (.ref r) H'
theorem D3:x0 ["line","places","named"] ["line","places"] (y6 O6):=scq
theorem ys5 {l:TM.Ln}(h:l.refs≠[])(g:Nat->Nat):V.str (lnW l)::tI (l.refs.map g)=lnV (l.ren g):=by
 cases l with
 | still=>exact absurd rfl h
 | told k=>exact absurd rfl h
 | behind i j=>rfl
 | back i=>rfl
theorem xm3 {l:TM.Ln}(h:l.refs=[])(g:Nat->Nat):l.ren g=l:=by
 cases l with
 | still=>rfl
 | told k=>rfl
 | behind i j=>cases h
 | back i=>cases h
theorem xm2 (l:TM.Ln):l.refs.length<=2:=by cases l <;> (show _<=2;simp[TM.Ln.refs])
theorem zn8 (D:Def K mg "line_renamed" O6 ["line","places"] f fd)(B:Blt mg)(N:p6 P w K mg base 1 "lines_named" ["line"] (yg1 K)):u7 P w K mg base CX0 2 f fd ["line","places"] (ya6 K):=by
 refine D.F.ok D3 (λvs H Q E h=>?_) (λO A outer s H vs Q E hr h=>?_)
 .obtain⟨a,d,l,kvs,g,rfl,_⟩:=h;rfl
 obtain⟨a,d,l,kvs,g,rfl,o,S,X,q⟩:=h;have W:=yv9 hr;have U:=xm2 l;refine⟨_,z7 (N8 (i:=2) [1] ["number","places"] D3.nd rfl rfl rfl (zd2 (r6 N hr rfl (z0 (pv 0) z5))) (λ_ _ _ _=>N6 W (pv 1) (pv 0) (λ_ _=>rfl)))
  (z8 (v0 (zs6 (yl3 (pv 2) (λ_=>rfl)) (u9 l5 rfl B.tuple f9 (z0 (o7 xz4 (Z2 (z0 (p9 Y6 (pv 0) y8 (λ_ _=>rfl)) z5)) (pv 2)) z5)) (pv 0)))),?_⟩
 refine exI rfl ⟨a,l,rfl,o,λtp H1 _ s1 m=>?_⟩;refine⟨tp,rfl,⟨_,SqT.of m⟩,L7 (SqT.of m) (tI (l.refs.map g)) (by rw[x9,x9,ae]) (by rw[x9];exact small (by lia)) ?_ ?_⟩
 .intro i H' x Y s' _ _ _ _;obtain⟨r,j,rfl⟩:=X7 Y;refine exI rfl (exI rfl ⟨d,V.int (g r:Int),rfl,?_,y4.refl _,?_⟩)
  .have h1:=X r (au j);have h2:=U5.k (k:=Sum.inl (r:Int)) (s' _ _ (s1 _ _ S));rw[h1]at h2;exact h2
  .exact ya8 (by rw[al,j];rfl)
 intro L H2 _ Z c;have b:=s1.trans Z;have v:∃k,xq3 K (V.ref L) H2 k/\k=!(l.refs.isEmpty):=⟨_,.inl ⟨_,SqL.of c,rfl⟩,by cases l.refs <;> rfl⟩;obtain⟨k,T,J⟩:=v;refine exI rfl ⟨k,T,?_⟩;by_cases e:l.refs=[]
 .rw[J,e];refine o0 (exI rfl (q a H2 b ?_));rw[xm3 e];exact b _ _ o
 .have R:l.refs.isEmpty=false:=by
   cases h:l.refs with
   | nil=>exact absurd h e
   | cons x y=>rfl
  rw[J,R];refine i9 (exI rfl (ixT (SqT.of (b _ _ o)) (zo8 l) ⟨(by show 1<=ge;decide),λn p=>?_⟩));have z:=y0 p (.lst [V.str (lnW l)]);have G:(upd H2 n (.lst [V.str (lnW l)])) n=some (.lst [V.str (lnW l)]):=z4;generalize upd H2 n (.lst [V.str (lnW l)])=C at z G ⊢;refine exI rfl ⟨n,L,_,_,rfl,rfl,G,z _ _ c,?_,λp2 t=>?_⟩
  .rw[x9,ae];exact aD (show [V.str (lnW l)].length+l.refs.length<=1000 by simp only[av,bO];lia) (by decide)
  have M:=y0 t (.lst ([V.str (lnW l)]++tI (l.refs.map g)));have I:(upd C p2 (.lst ([V.str (lnW l)]++tI (l.refs.map g)))) p2=some (.lst (lnV (l.ren g))):=by rw[z4,←ys5 e g];rfl
  generalize upd C p2 (.lst ([V.str (lnW l)]++tI (l.refs.map g)))=H4 at M I ⊢;exact⟨p2,exI rfl (.inl ⟨SqL.of I,λr u=>q r _ (b.trans (z.trans (M.trans (y0 u _)))) z4⟩)⟩
def ya7 (K:W.Frag):Sp:=λvs H Q _=>∃(a:Addr) (as:List Addr) (ls:List TM.Ln) (c:Nat),vs=[.ref a]/\H a=some (.lst (as.map V.ref))/\Z7 H as ls/\TM.Rec c ls/\ls≠[]/\ls.length<=5000000 /\
 ∀(r:Addr) (H':Hp) (bs:List Addr),H r=none->y4 H H'->H' r=some (.lst (bs.map V.ref))->Z7 H' bs (TM.stay ls)->Q (.ref r) H'
theorem O8:x0 ["lines","staying","places","number","is_needed"] ["lines"] (y6 zk0):=scq
theorem Z7.updTr (h:Z7 H as ls)(hr:∃xs,H r=some (.lst xs)):Z7 (L2.upd H r o) as ls:=Paired.imp' (λb l e=>by
 obtain⟨xs,hx⟩:=hr
 rw[z6 (l8 e hx (by intro z;cases z))]
 exact e) h
theorem yr7 (D:Def K mg "trimmed" zk0 ["lines"] f fd)(B:Blt mg)(KN:p6 P w K mg base 2 "needed" ["lines"] (ym8 K))(KR:p6 P w K mg base 2 "line_renamed" ["line","places"] (ya6 K)):u7 P w K mg base CX0 3 f fd ["lines"] (ya7 K):=by
 refine D.F.ok O8 (λvs H Q E h=>?_) (λbo A outer s H vs Q E hr h=>?_)
 .obtain⟨a,as,ls,c,rfl,_⟩:=h;rfl
 obtain⟨a,as,ls,c,rfl,ha,hP,hR,hne,ax,q⟩:=h;have hu:=yv9 hr;refine⟨_,z7 (u0 (i:=1) O8.nd rfl (Or.inl rfl) (Z2 z5))
  (z7 (u0 (i:=2) O8.nd rfl (Or.inl rfl) yl0)
  (z7 (Z9 PassesOwn.never rfl (zg3 rfl B.enumerate (z0 (r6 KN hr rfl (z0 (pv 0) z5)) z5)) (J9 rfl (i6 (t9 (i:=3) O8.nd rfl (Or.inl rfl)) (i6 (t9 (i:=4) O8.nd rfl (Or.inl rfl)) Q7)))
   (z8 (n4 (Z4 (pv 4)) (z7 (A9 hu (pv 2) (pv 3) (w8 v1 rfl B.len i8 (z0 (pv 1) z5)) rfl)
    (z8 (i5 (K1 PySem.F.plainAttrs_list PySem.F.slot_list_append PySem.F.type_list_append c3 (pv 1) (z0 (r6 KR hr rfl (z0 (p9 p0 (pv 0) (pv 3) (λ_ _=>rfl)) (z0 (pv 2) z5))) z5))))) u4)))
  (z8 (v0 (pv 1))))),?_⟩
 refine⟨(by show 0<=ge;decide),λr J=>?_⟩;intro d hd;have rd:r≠d:=z9 z4 hd;have Z:H d=none:=by
  have:=hd;rwa [z6 (Ne.symm rd)]at this
 have s0:y4 H (upd (upd H r (.lst [])) d (.dK [])):=u8 (y0 J _) Z _;have er:(upd (upd H r (.lst [])) d (.dK [])) r=some (.lst (([]:List Addr).map V.ref)):=by rw[z6 rd,z4];rfl
 have ed:(upd (upd H r (.lst [])) d (.dK [])) d=some (.dK []):=z4;generalize upd (upd H r (.lst [])) d (.dK [])=H1 at s0 er ed ⊢;refine exI rfl ⟨a,as,ls,c,rfl,s0 _ _ ha,hP.same s0,hR,hne,ax,λn1 H2 ac s2 ad=>?_⟩;have aq:=s2 _ _ er;have ao:=s2 _ _ ed;have ay:r≠n1:=z9 er ac;have av:d≠n1:=z9 ed ac;have ah:((nbs ls).map V.bl).length=ls.length:=by unfold nbs;rw[ae,ae,aU]
 have az:=s0.trans s2;refine⟨n1,rfl,⟨_,SqL.of ad⟩,L8 (xs:=(nbs ls).map V.bl) (λi σ o=>∃(kvs:List (Key×V)) (bs:List Addr) (v3 v4:Option V),σ=[some (.ref a),some (.ref r),some (.ref d),v3,v4]/\y4 H o/\o n1=some (.lst ((nbs ls).map V.bl))/\o r=some (.lst (bs.map V.ref))/\Z7 o bs (TM.few (TM.nb ls) ls i)/\o d=some (.dK kvs)/\kvs.length<=i/\∀x:Nat,x<i->TM.nb ls x=true->V0 kvs (Sum.inl (x:Int):Key)=some (V.int (TM.pos (TM.nb ls) x:Int)))
  ⟨[],[],none,none,rfl,az,ad,aq,.nil,ao,af _,λx n=>absurd n (bR _)⟩ (λi σ o _ ⟨_,_,_,_,_,_,h,_⟩=>SqL.of h) ?_ ?_⟩
 .rintro i x σ o T n ⟨kvs,bs,v3,v4,rfl,s3,R,v,j,O,aw,I⟩ hT;have hi:i<ls.length:=by rw[←ah];exact(ag.mp n).1
  have ex:x=V.bl (TM.nb ls i):=by
   unfold nbs at n;rw[al,al,aZ hi]at n;exact(Option.some.inj n).symm
  subst ex;have N:=y0 hT (.tup [V.int (i:Nat),V.bl (TM.nb ls i)]);refine⟨T,exI rfl ⟨SqT.of z4,rfl,_,_,rfl,_,_,rfl,rfl,?_⟩⟩;generalize upd o T (.tup [V.int (i:Nat),V.bl (TM.nb ls i)])=M at N ⊢;have s4:=s3.trans N;have C:=N _ _ v;have y:=N _ _ O;have S:=N _ _ R;have t:=j.same N;have X:bs.length=TM.pos (TM.nb ls) i:=by rw[Paired.length j,TM.few_len]
  have bp:=TM.pos_le (TM.nb ls) i;refine exI rfl (exI rfl ?_)
  cases hb:TM.nb ls i with
  | false =>
   refine o0 ⟨kvs,bs,_,_,rfl,s4,S,C,?_,y,by lia,λx n g=>?_⟩
   .rw[TM.few_succ,hb];simpa using t
   .by_cases e:x=i
    .subst e;rw[hb]at g;cases g
    .exact I x (by lia) g
  | true =>
   refine i9 ?_;refine exI rfl ⟨r,exI rfl ⟨.inl (SqL.of C),exI rfl (exI rfl ⟨d,exI rfl ⟨zm9.k (k:=Sum.inl (i:Int)) y (bC (show kvs.length<=5000000 by lia) (by decide)),?_⟩⟩)⟩⟩;rw[ae,X];have U:(upd M d (.dK (putK kvs (Sum.inl (i:Int)) (V.int (TM.pos (TM.nb ls) i:Int))))) d=some (.dK (putK kvs (Sum.inl (i:Int)) (V.int (TM.pos (TM.nb ls) i:Int)))):=z4;have s5:y4 H (upd M d (.dK (putK kvs (Sum.inl (i:Int)) (V.int (TM.pos (TM.nb ls) i:Int))))):=u8 s4 Z _;have W:(upd M d (.dK (putK kvs (Sum.inl (i:Int)) (V.int (TM.pos (TM.nb ls) i:Int))))) r=some (.lst (bs.map V.ref)):=by rw[z6 rd];exact C
   have ar:(upd M d (.dK (putK kvs (Sum.inl (i:Int)) (V.int (TM.pos (TM.nb ls) i:Int))))) n1=some (.lst ((nbs ls).map V.bl)):=by rw[z6 (Ne.symm av)];exact S
   have Y:Z7 (upd M d (.dK (putK kvs (Sum.inl (i:Int)) (V.int (TM.pos (TM.nb ls) i:Int))))) bs (TM.few (TM.nb ls) ls i):=Paired.imp' (λb l e=>by rw[z6 (l8 e y (by intro z;cases z))];exact e) t;have bi:=N3 kvs (Sum.inl (i:Int):Key) (V.int (TM.pos (TM.nb ls) i:Int));have u:∀x:Nat,x<i+1->TM.nb ls x=true->V0 (putK kvs (Sum.inl (i:Int)) (V.int (TM.pos (TM.nb ls) i:Int))) (Sum.inl (x:Int):Key)=some (V.int (TM.pos (TM.nb ls) x:Int)):=λx n g=>by
    rw[xp7];by_cases e:x=i
    .subst e;rw[if_pos rfl]
    .rw[if_neg λz=>e (by injection z with z;lia)];exact I x (by lia) g
   generalize putK kvs (Sum.inl (i:Int)) (V.int (TM.pos (TM.nb ls) i:Int))=L at *;generalize upd M d (.dK L)=H5 at *;have m:ls[i]?=some ls[i]:=aa hi;obtain⟨b,au,p⟩:=l9 hP i _ m;generalize hlq:ls[i]=l at m p;refine exI rfl ⟨.inl ⟨rfl,_,SqL.of W⟩,exI rfl (exI rfl (ixI (SqL.of (s5 _ _ ha)) (zj7 au) (exI rfl ⟨b,d,l,L,TM.pos (TM.nb ls),rfl,s5 _ _ p,U,λx n=>?_,λln H6 s6 ab=>?_⟩)))⟩
   .exact u x (cK ((hR i l m).lt n)) (TM.nb_step hb m n)
   have G:=s6 _ _ W;refine⟨r,_,_,rfl,rfl,G,by rw[ae,X];exact bC (show _<=5000000 by lia) (by decide),?_⟩;have ai:ln≠r:=l8 ab G (by intro z;cases z);refine⟨L,bs++[ln],_,_,rfl,u8 (s5.trans s6) J _,by rw[z6 (Ne.symm ay)];exact s6 _ _ ar,by rw[z4,aJ];rfl,?_,by rw[z6 (Ne.symm rd)];exact s6 _ _ U,by lia,u⟩;rw[TM.few_succ,if_pos hb,TM.getD_ln m];exact Paired.snoc ((Y.same s6).updTr ⟨_,G⟩) (by rw[z6 ai];exact ab)
 .rintro σ o ⟨kvs,bs,v3,v4,rfl,s3,R,v,j,O,aw,I⟩;rw[ah]at j;exact exI rfl (q r o bs J s3 v j)
structure u5 (cC cB cS:Addr) (n:Nat) (H:Hp) (A:ChA) (S:ChS):Prop where
 nd:A.all.Nodup
 c:∃dx,H A.c=some (.ins cC dx [("book",.ref A.b),("steps",.ref A.l)])
 bk:U6 cB H A S
 l:H A.l=some (.lst (A.st.map λs=>V.ref s.a))
 len:A.st.length=n/\S.st.length=n
 st:∀i a s,A.st[i]?=some a->S.st[i]?=some s->Z8 cS n S.md H a i s
def Z1:List Str:=["book","steps"]
theorem Z8.same (h:Z8 cS n md H A i s)(k:y4 H H'):Z8 cS n md H' A i s :=
 ⟨h.a.imp λ_ e=>k _ _ e,k _ _ h.m,k _ _ h.lt,h.bf.imp λ_ e=>⟨k _ _ e.1,Paired.imp' (λ_ _ z=>k _ _ z) e.2⟩,h.w.imp λ_ e=>⟨k _ _ e.1,e.2.same k⟩⟩
theorem u5.same (h:u5 cC cB cS n H A S)(k:y4 H H'):u5 cC cB cS n H' A S :=
 ⟨h.nd,h.c.imp λ_ e=>k _ _ e,h.bk.same k,k _ _ h.l,h.len,λi a s ha hs=>(h.st i a s ha hs).same k⟩
def P0 (n:Nat)(md:List (List Nat)):List StS->Nat->List Nat->List Nat->Option (List Nat)
 | [],_,_,acc=>some acc
 | s::r,j,x,acc=>match atN s.to (x.getD j 0) with
  | none=>none
  | some k=>if x.getD j 0=j then P0 n md r (j+1) x acc else P0 n md r (j+1) (TM.beh x (TM.bk n (md.getD k []))) (acc++[k])
structure ChS.Well (n:Nat) (S:ChS):Prop where
 md:∀t∈S.md,TM.IsT n t
 to:∀s∈S.st,∀x∈s.to,x.1<n/\x.2<S.md.length
 mv:∀s∈S.st,∀k∈s.mv,k<S.md.length
theorem V2 {α:Type}{l:List (Nat×α)}{k:α}(h:atN l p=some k):(p,k)∈l:=by
 unfold atN at h
 cases e:l.find? (λx=>decide (x.1=p)) with
 | none=>rw[e]at h;cases h
 | some x =>
  rw[e]at h;have h1:=List.find?_some e;have h2:=List.mem_of_find?_eq_some e;have a:x.1=p:=by simpa using h1
  have b:x.2=k:=by simpa using h
  rw[←a,←b];exact h2
theorem ChS.Well.at {S:ChS}(h:S.Well n)(hk:k<S.md.length):TM.IsT n (S.md.getD k []):=h.md _ (au (W2 [] hk))
theorem E9 {F:Nat×Nat->Addr->Prop}:∀{to:List (Nat×Nat)} {bs:List Addr},Paired F to bs->∀{p k:Nat},atN to p=some k->∃b,V0 (kR to bs) (Sum.inl (p:Int))=some (V.ref b)/\F (p,k) b
 | _,_,.nil,p,k,h=>by cases h
 | x::to,b::bs,.cons f r,p,k,h=>by
  by_cases hx:x.1=p
  .have e:atN (x::to) p=some x.2:=by unfold atN;rw[cY (by simpa using hx)];rfl
   rw[e]at h
   have c:x.2=k:=Option.some.inj h
   refine⟨b,d9 (p:=(Sum.inl (x.1:Int),V.ref b)) (by show(Sum.inl (x.1:Int):Key)=_;rw[hx]),?_⟩
   rw[←hx,←c]
   exact f
  .have e:atN (x::to) p=atN to p:=by unfold atN;rw[cZ (by simpa using hx)]
   rw[e]at h
   obtain⟨a,h1,h2⟩:=E9 r h
   refine⟨a,?_,h2⟩
   rw[←h1]
   exact g6 (p:=(Sum.inl (x.1:Int),V.ref b)) λz=>hx (by have:=Sum.inl.inj z;lia)
def yg2 (cC cB cS:Addr):Sp:=λvs H Q _=>∃(A:ChA) (S:ChS) (n lv:Nat) (tr:Addr) (x:List Nat),vs=[.ref A.c,.ref tr,.int lv]/\u5 cC cB cS n H A S/\S.Well n/\H tr=some (.tup (tI x))/\TM.IsT n x/\lv<=n/\n<=60 /\
 (P0 n S.md (S.st.drop lv) lv x []=none->∀H':Hp,y4 H H'->Q .non H')/\∀(ls:List Nat) (r:Addr) (H':Hp),P0 n S.md (S.st.drop lv) lv x []=some ls->H r=none->y4 H H'->H' r=some (.lst (tI ls))->Q (.ref r) H'
theorem c5:x0 ["self","turning","level","lines","here","step","to"] ["self","turning","level"] (y6 U1):=scq
theorem yh5 {xs:List V}(a:k<=xs.length):P5 xs (some (k:Int)) none=xs.drop k:=by
 unfold P5;rw[HT.sIx_none,HT.sIx_nat,dP a,aV (by rw[bH];exact af _)]
theorem zn3 (F:Fun K "sifted" "Chain.sifted" U1 f fd)(B:Blt mg)(cc:m9 K cC Z1)(cs:m9 K cS M0)(KB:p6 P w K mg base 1 "behind" ["one","other"] (K5 K)):u7 P w K mg base CX0 2 f fd ["self","turning","level"] (yg2 cC cB cS):=by
 refine F.ok c5 (λvs H Q E h=>?_) (λas Ar outer sh H vs Q E hr h=>?_)
 .obtain⟨A,S,n,d,tr,x,rfl,_⟩:=h;rfl
 obtain⟨A,S,n,d,tr,x,rfl,u,wl,bg,hx,ba,hn,q1,q2⟩:=h;have hz:=W5;have hu:(Ar.deeper (PyProof.Rows.envOfC "Chain.sifted" (y6 U1) sh.heap.objs.size f as)).units+1<cLine:=by have:=hr.units;lia
 obtain⟨dx,hc⟩:=u.c;refine⟨_,z7 (u0 (i:=3) c5.nd rfl (Or.inl rfl) (Z2 z5))
  (z7 (u0 (i:=4) c5.nd rfl (Or.inl rfl) (pv 1))
  (z7 (Z9 PassesOwn.never rfl (Y8 (S9 za3 (y9 (pv 0) rfl) (Q8 (pv 2)) I0)) (t9 (i:=5) c5.nd rfl (Or.inl rfl))
   (z7 (u0 (i:=6) c5.nd rfl (Or.inl rfl) (p9 Y6 (pv 4) (y9 (pv 5) rfl) (λ_ _=>rfl)))
   (z7 (n4 (zt3 (A7 hu (pv 6) (y9 (pv 5) rfl))) (z8 (v0 ye9)) u4)
   (z8 (n4 (p5 yw9 (pv 6) (y9 (pv 5) rfl) (o6 _))
    (z7 (i5 (K1 PySem.F.plainAttrs_list PySem.F.slot_list_append PySem.F.type_list_append c3 (pv 3) (z0 (N6 hu (y9 (pv 5) rfl) (pv 6) (λ_ _=>rfl)) z5)))
    (z8 (u0 (i:=4) c5.nd rfl (Or.inl rfl) (r6 KB hr rfl (z0 (pv 4) (z0 (N6 hu (y9 (pv 5) rfl) (pv 6) (λ_ _=>rfl)) z5)))))) u4)))))
  (z8 (v0 (pv 3))))),?_⟩
 refine i4 λN L=>⟨(by show 0<=ge;lia),λl hl=>L _ _ ?_⟩;clear L N;have s0:=y0 hl (.lst []);have el:(upd H l (.lst [])) l=some (.lst (tI [])):=z4;generalize upd H l (.lst [])=H1 at s0 el ⊢;refine i4 λN L=>exI rfl (L _ _ ?_);clear L N;have U:(A.st.map λs=>V.ref s.a).length=n:=by rw[ae];exact u.len.1
 refine i4 λN L=>exI rfl (p7 cc (s0 _ _ hc) rfl (exI rfl (exI rfl ⟨A.l,exI rfl ⟨SqL.of (s0 _ _ u.l),λp hp=>?_⟩⟩)));rw[yh5 (by rw[U];exact ba)];have s1:=s0.trans (y0 hp (.lst ((A.st.map λs=>V.ref s.a).drop d)));have ep:(upd H1 p (.lst ((A.st.map λs=>V.ref s.a).drop d))) p=some (.lst ((A.st.map λs=>V.ref s.a).drop d)):=z4;have ah:=y0 hp (.lst ((A.st.map λs=>V.ref s.a).drop d)) _ _ el;generalize upd H1 p (.lst ((A.st.map λs=>V.ref s.a).drop d))=H2 at s1 ep ah ⊢;have bc:p≠l:=λz=>by
  subst z;rw[el]at hp
  cases hp
 have I:∀j,j<n->∃a s,A.st[j]?=some a/\S.st[j]?=some s:=λj Y=>⟨_,_,aa (by rw[u.len.1];exact Y),aa (by rw[u.len.2];exact Y)⟩;refine⟨p,rfl,⟨_,SqL.of ep⟩,V5 (xs:=(A.st.map λs=>V.ref s.a).drop d) (λi σ q=>∃(ls:List Nat) (W:Addr) (y:List Nat) (v5 v6:Option V),σ=[some (.ref A.c),some (.ref tr),some (.int d),some (.ref l),some (.ref W),v5,v6]/\y4 H q/\q p=some (.lst ((A.st.map λs=>V.ref s.a).drop d))/\q l=some (.lst (tI ls))/\q W=some (.tup (tI y))/\TM.IsT n y/\P0 n S.md (S.st.drop (d+i)) (d+i) y ls=P0 n S.md (S.st.drop d) d x []/\ls.length<=i)
  ⟨[],tr,x,none,none,rfl,s1,ep,ah,s1 _ _ bg,hx,rfl,af _⟩ (λi σ q _ ⟨_,_,_,_,_,_,_,D,_⟩=>SqL.of D) ?_ ?_⟩
 .clear L;rintro i v σ q hv ⟨ls,W,y,v5,v6,rfl,ss,D,t,C,hy,m,a'⟩;rw[eE,al]at hv;have Y:d+i<n:=by
   cases e:A.st[d+i]? with
   | none=>rw[e]at hv;cases hv
   | some a=>have:=(ag.mp e).1;rwa [u.len.1]at this
  obtain⟨a,s,hA,hs⟩:=I (d+i) Y;rw[hA]at hv
  cases hv
  have st:=(u.st _ _ _ hA hs).same ss;obtain⟨bz,J⟩:=st.a;obtain⟨bs,cb,cd⟩:=st.bf;have be:s∈S.st:=au hs;have X:S.st.drop (d+i)=s::S.st.drop (d+i+1):=by
   have:=bV (l:=S.st) (i:=d+i) (by rw[u.len.2];exact Y);rw[this];congr 1;exact Option.some.inj ((aa (by rw[u.len.2];exact Y)).symm.trans hs)
  rw[X,P0]at m;refine i4 λM G=>exI rfl (exI rfl (p7 cs J rfl (ixT (SqT.of C) (A2 (hy.get_step Y)) (G _ _ ?_))));clear G M;refine i4 λM G=>exI rfl (exI rfl (p7 cs J rfl ⟨a.lt,exI rfl ⟨U5.k (k:=Sum.inl ((y.getD (d+i) 0:Nat):Int)) st.lt,exI rfl ?_⟩⟩));rw[T9]
  cases ea:atN s.to (y.getD (d+i) 0) with
  | none =>
   clear G;rw[ea]at m;refine i9 ?_;exact q1 m.symm q ss
  | some k =>
   rw[ea]at m;dsimp only at m;refine o0 (G _ _ ?_);clear G M;have hk:k<S.md.length:=(wl.to s be _ (V2 ea)).2;have ak:=wl.at hk;refine exI rfl (exI rfl (p7 cs J rfl ⟨rfl,_,rfl,?_⟩));rw[c7];by_cases Z:y.getD (d+i) 0=d+i
   .rw[decide_eq_true (by rw[Z])];rw[if_pos Z]at m;exact o0 ⟨ls,W,y,_,_,rfl,ss,D,t,C,hy,m,by lia⟩
   .rw[decide_eq_false (by lia)];rw[if_neg Z]at m;refine i9 ?_;have g1:U5 q a.lt (kV (Sum.inl ((y.getD (d+i) 0:Nat):Int))) (some (V.int k)):=by
     have g:=U5.k (k:=Sum.inl ((y.getD (d+i) 0:Nat):Int)) st.lt;rwa [T9,ea]at g
    refine i4 λM G=>exI rfl ⟨.inl ⟨rfl,_,SqL.of t⟩,exI rfl (p7 cs J rfl (exI rfl ⟨a.lt,exI rfl ⟨g1,l,_,_,rfl,rfl,t,by rw[x9];lia,G _ _ ?_⟩⟩))⟩;clear G M;have kk:∀{b:Addr} {o:HO},H b=some o->(upd q l (.lst (tI ls++[V.int k]))) b=some o:=λ{b o} h=>by rw[z6 (z9 h hl)];exact ss _ _ h
    have ab:y4 H (upd q l (.lst (tI ls++[V.int k]))):=λb o h=>kk h;have R:(upd q l (.lst (tI ls++[V.int k]))) l=some (.lst (tI (ls++[k]))):=by rw[z4,zl0];rfl
    have T:(upd q l (.lst (tI ls++[V.int k]))) p=some (.lst ((A.st.map λs=>V.ref s.a).drop d)):=by rw[z6 bc];exact D
    have O:(upd q l (.lst (tI ls++[V.int k]))) W=some (.tup (tI y)):=by rw[z6 (l8 C t (by intro z;cases z))];exact C
    generalize upd q l (.lst (tI ls++[V.int k]))=H4 at ab R T O ⊢;have ap:=(u.st _ _ _ hA hs).same ab;obtain⟨bq,am⟩:=ap.a;obtain⟨bw,ai,aj⟩:=ap.bf;obtain⟨bb,bi,ay⟩:=E9 aj ea;have g2:U5 H4 a.bf (kV (Sum.inl ((y.getD (d+i) 0:Nat):Int))) (some (V.ref bb)):=by
     have g:=U5.k (k:=Sum.inl ((y.getD (d+i) 0:Nat):Int)) ai;rwa [bi]at g
    refine exI rfl (exI rfl (p7 cs am rfl (exI rfl ⟨a.bf,exI rfl ⟨g2,W,bb,y,exI rfl ⟨SqT.of O,SqT.of ay,by rw[hy.length];lia,λz bj=>by rw[ak.bk.length];exact hy.lt bj,λr H5 cg s5 bd=>?_⟩⟩⟩)));exact⟨ls++[k],r,_,_,_,rfl,ab.trans s5,s5 _ _ T,s5 _ _ R,bd,hy.beh ak.bk,m,by rw[ao,aW];lia⟩
 .rintro σ q ⟨ls,W,y,v5,v6,rfl,ss,D,t,C,hy,m,a'⟩;rw[bH,U,show d+(n-d)=n by lia,cD (by rw[u.len.2];exact af _),P0]at m;exact L _ _ (exI rfl (q2 ls l q m.symm hl ss t))
def za4 (cC cB cS:Addr):Sp:=λvs H Q _=>∃(A:ChA) (S:ChS) (n lv:Nat) (tr:Addr) (x:List Nat),vs=[.ref A.c,.ref tr,.int lv]/\u5 cC cB cS n H A S/\S.Well n/\H tr=some (.tup (tI x))/\TM.IsT n x/\lv<=n/\n<=60 /\
 ∀H':Hp,y4 H H'->Q (.bl (P0 n S.md (S.st.drop lv) lv x []).isSome) H'
theorem zt8:x0 ["self","turning","level"] ["self","turning","level"] (y6 M8):=scq
theorem zs0 (F:Fun K "holds" "Chain.holds" M8 f fd)(B:Blt mg)(k:m9 K cC Z1)(j:b9 P w K mg base 2 cC "sifted" ["self","turning","level"] (yg2 cC cB cS)):u7 P w K mg base CX0 3 f fd ["self","turning","level"] (za4 cC cB cS):=by
 refine F.ok zt8 (λu H Q E h=>?_) (λl y outer sh H u Q E hr h=>?_)
 .obtain⟨A,S,n,g,i,x,rfl,_⟩:=h;rfl
 obtain⟨A,S,n,g,i,x,rfl,d,v,b,t,a,o,q⟩:=h;obtain⟨dx,m⟩:=d.c;refine⟨_,z8 (v0 (J7 xs8 (Z3 k.cls j hr (pv 0) (z0 (pv 1) (z0 (pv 2) z5))) ye9 (o6 _))),?_⟩;refine exI rfl (Z6 m rfl (exI rfl (exI rfl ⟨A,S,n,g,i,x,rfl,d,v,b,t,a,o,λe H' s'=>⟨rfl,?_⟩,λls r H' e p s' s=>⟨rfl,?_⟩⟩)))
 .have:=q H' s';rw[e]at this;exact this
 .have:=q H' s';rw[e]at this;exact this
theorem ChA.head_ne {A:ChA}(h:A.all.Nodup){i:Nat}{a:StA}(e:A.st[i]?=some a)(f:x∈[A.c,A.b,A.ll,A.lm,A.d,A.l])(g:y∈a.all):x≠y:=by
 unfold ChA.all at h;exact(bz.mp h).2.2 x f y (cu.mpr ⟨a.all,az.mpr ⟨a,au e,rfl⟩,g⟩)
theorem ChA.step_nd {A:ChA}(h:A.all.Nodup){i:Nat}{a:StA}(b:A.st[i]?=some a):a.all.Nodup:=by
 unfold ChA.all at h;exact(List.pairwise_flatten.mp (bz.mp h).2.1).1 a.all (az.mpr ⟨a,au b,rfl⟩)
theorem ChA.step_ne {A:ChA}(h:A.all.Nodup){i j:Nat}{a b:StA}(o:A.st[i]?=some a)(s:A.st[j]?=some b)(e:i≠j)(k:x∈a.all)(l:y∈b.all):x≠y:=by
 unfold ChA.all at h;have p:=(List.pairwise_flatten.mp (bz.mp h).2.1).2;have c:(A.st.map StA.all)[i]?=some a.all:=by rw[al,o];rfl
 have d:(A.st.map StA.all)[j]?=some b.all:=by rw[al,s];rfl
 obtain⟨m,f⟩:=ag.mp c;obtain⟨n,g⟩:=ag.mp d;rcases Nat.lt_or_gt_of_ne e with q|q
 .have r:=bg.mp p i j m n q;rw[f,g]at r;exact r x k y l
 .have r:=bg.mp p j i n m q;rw[f,g]at r;exact Ne.symm (r y l x k)
theorem ChA.head_nd {A:ChA}(h:A.all.Nodup):[A.c,A.b,A.ll,A.lm,A.d,A.l].Nodup:=by
 unfold ChA.all at h;exact(bz.mp h).1
theorem Z8.frame {f:List (List Nat)}{a:StA}{i:Nat}{s:StS}(h:Z8 cS n f H a i s)(fr:w6 F H H')(c:∀x∈F,x∉a.all/\∀xs,H x≠some (.tup xs)):Z8 cS n f H' a i s:=by
 have k:∀{b:Addr} {o:HO},H b=some o->b∈a.all->H' b=some o:=λ{b o} e g=>fr b o (λz=>(c b z).1 g) e;have d:∀{b:Addr} {xs:List V},H b=some (.tup xs)->H' b=some (.tup xs):=λ{b xs} e=>fr b _ (λz=>(c b z).2 xs e) e;exact⟨h.a.imp λ_ e=>k e (by simp[StA.all]),k h.m (by simp[StA.all]),k h.lt (by simp[StA.all]),h.bf.imp λ_ e=>⟨k e.1 (by simp[StA.all]),Paired.imp' (λ_ _ z=>d z) e.2⟩,h.w.imp λ_ e=>⟨k e.1 (by simp[StA.all]),Paired.imp' (λ_ _ z=>d z) e.2⟩⟩
theorem Z8.more {d c:List (List Nat)}{a:StA}{s:StS}(h:Z8 cS n d H a i s)(o:∀x∈s.to,c.getD x.2 []=d.getD x.2 []):Z8 cS n c H a i s:=by
 obtain⟨m,k,j,⟨bs,e,g⟩,q⟩:=h;refine⟨m,k,j,⟨bs,e,?_⟩,q⟩;have all:∀{to:List (Nat×Nat)} {bs:List Addr},(∀x∈to,c.getD x.2 []=d.getD x.2 [])->Paired (λ(x:Nat×Nat) b=>H b=some (.tup (tI (TM.bk n (d.getD x.2 []))))) to bs->Paired (λ(x:Nat×Nat) b=>H b=some (.tup (tI (TM.bk n (c.getD x.2 []))))) to bs:=by
  intro to bs l p
  induction p with
  | nil=>exact .nil
  | cons f _ ih=>exact .cons (by rw[l _ aw];exact f) (ih λx h=>l x (ar _ h))
 exact all o g
theorem u5.book {A:ChA}{S S':ChS}(h:u5 cC cB cS n H A S)(fr:w6 [A.ll,A.lm,A.d] H H')(bk:U6 cB H' A S')(j:S'.st=S.st)(o:∀s∈S.st,∀x∈s.to,S'.md.getD x.2 []=S.md.getD x.2 []):u5 cC cB cS n H' A S':=by
 obtain⟨v,f,_⟩:=h.bk.ll;obtain⟨w,g,_⟩:=h.bk.lm;have t:=h.bk.d;obtain⟨dx,k⟩:=h.c;have m:=ChA.head_nd h.nd;simp only[aS,ax,aY,not_or,or_false]at m;have B:∀x∈[A.ll,A.lm,A.d],∀xs,H x≠some (.tup xs):=λx b xs z=>by
  rcases ax.mp b with e|b
  .rw[e,f]at z;cases z
  .rcases ax.mp b with e|b
   .rw[e,g]at z;cases z
   .rw[aq.mp b,t]at z;cases z
 refine⟨h.nd,⟨dx,fr _ _ (λz=>by
   rcases ax.mp z with e|z
   .exact l8 k f (by intro q;cases q) e
   .rcases ax.mp z with e|z
    .exact l8 k g (by intro q;cases q) e
    .exact l8 k t (by intro q;cases q) (aq.mp z)) k⟩,bk,fr _ _ ?_ h.l,⟨h.len.1,by rw[j];exact h.len.2⟩,λi a s r p=>?_⟩
 .intro z;rcases ax.mp z with e|z
  .exact m.2.2.1.2.2 e.symm
  .rcases ax.mp z with e|z
   .exact m.2.2.2.1.2 e.symm
   .exact m.2.2.2.2.1 (aq.mp z).symm
 .rw[j]at p;refine((h.st i a s r p).more (o s (au p))).frame fr λx b=>⟨λu=>?_,B x b⟩;refine ChA.head_ne h.nd r (x:=x) (y:=x) ?_ u rfl;simp at b ⊢;rcases b with e|e|e <;> simp[e]
theorem u5.step {A:ChA}{S:ChS}{p:StA}(h:u5 cC cB cS n H A S)(m:A.st[j]?=some p)(k:∀x∈F,x∈p.all/\∀xs,H x≠some (.tup xs))(fr:w6 F H H')(st:Z8 cS n S.md H' p j s'):u5 cC cB cS n H' A { S with st:=S.st.set j s' }:=by
 have g:∀{b:Addr} {o:HO},H b=some o->b∈[A.c,A.b,A.ll,A.lm,A.d,A.l]->H' b=some o:=λ{b o} e t=>fr b o (λz=>ChA.head_ne h.nd m t (k b z).1 rfl) e;have r:∀{b:Addr} {xs:List V},H b=some (.tup xs)->H' b=some (.tup xs):=λ{b xs} e=>fr b _ (λz=>(k b z).2 xs e) e;obtain⟨dx,u⟩:=h.c;refine⟨h.nd,⟨dx,g u (by simp)⟩,⟨h.bk.b.imp λ_ e=>g e (by simp),h.bk.ll.imp λ_ e=>⟨g e.1 (by simp),Paired.imp' (λ_ _ z=>r z) e.2⟩,h.bk.lm.imp λ_ e=>⟨g e.1 (by simp),Paired.imp' (λ_ _ z=>r z) e.2⟩,g h.bk.d (by simp),h.bk.len⟩,g h.l (by simp),⟨h.len.1,by show(S.st.set j s').length=n;rw[bt];exact h.len.2⟩,λi a s hi f=>?_⟩;have f:(S.st.set j s')[i]?=some s:=f;by_cases e:i=j
 .subst e;rw[m]at hi
  cases hi
  rw[bB (by rw[h.len.2,←h.len.1];exact(ag.mp m).1)]at f
  cases f
  exact st
 .rw[br (Ne.symm e)]at f;exact(h.st i a s hi f).frame fr λx q=>⟨λv=>ChA.step_ne h.nd hi m e v (k x q).1 rfl,(k x q).2⟩
structure ChS.Fine (n:Nat) (S:ChS):Prop where
 wl:S.Well n
 md0:S.md.getD 0 []=List.range n
 pos:0<S.md.length
 lnl:S.ln.length=S.md.length
def ChS.atS (S:ChS)(j:Nat):StS:=S.st.getD j ⟨[],[],[],0⟩
def ChS.found (n:Nat)(S:ChS)(j p m:Nat):ChS×Bool :=
 let s:=S.atS j
 let k:=(atN s.to p).getD 0
 let t:=TM.beh (S.md.getD k []) (S.md.getD m [])
 match atN s.to (t.getD j 0) with
 | none=>({ (S.putB k m).2 with st:=S.st.set j (s.putP (t.getD j 0) (S.putB k m).1) },false)
 | some k2=>if (P0 n S.md (S.st.drop (j+1)) (j+1) (TM.beh t (TM.bk n (S.md.getD k2 []))) []).isSome then(S,false)
  else
   let S1:=(S.putB k m).2
   let S2:=(S1.putK n k2).2
   let S3:=(S2.putB (S.putB k m).1 (S1.putK n k2).1).2
   ({ S3 with st:=S.st.set (j+1) ((S.atS (j+1)).putM (S2.putB (S.putB k m).1 (S1.putK n k2).1).1) },true)
structure M4 (n:Nat) (S S':ChS) (k:Nat) (t:List Nat):Prop where
 st:S'.st=S.st
 md:∃l,S'.md=S.md++l
 fine:S'.Fine n
 lt:k<S'.md.length
 at':S'.md.getD k []=t
 len:S'.ln.length<=S.ln.length+1
theorem e9 {α:Type}{l m:List α}{d:α}(h:i<l.length):(l++m).getD i d=l.getD i d:=by
 rw[ah,ah,aE h]
theorem ChS.Fine.put {S:ChS}(f:S.Fine n)(e:TM.IsT n t):M4 n S (S.put l t) S.ln.length t:=by
 have a:(S.put l t).md=S.md++[t]:=rfl;refine⟨rfl,⟨[t],rfl⟩,⟨⟨λx b=>?_,λs c x b=>?_,λs c k d=>?_⟩,?_,?_,?_⟩,?_,?_,?_⟩
 .rw[a]at b;rcases aH.mp b with h|h
  .exact f.wl.md x h
  .rw[aq.mp h];exact e
 .have:=f.wl.to s c x b;rw[a,ao];exact⟨this.1,by lia⟩
 .have:=f.wl.mv s c k d;rw[a,ao];lia
 .rw[a,e9 f.pos];exact f.md0
 .rw[a,ao];have:=f.pos;lia
 .show(S.ln++[l]).length=(S.md++[t]).length;rw[ao,ao,f.lnl];rfl
 .rw[a,ao,f.lnl];show S.md.length<S.md.length+1;lia
 .rw[a,f.lnl,ah,aI (af _),bQ];rfl
 .show(S.ln++[l]).length<=_;rw[ao];exact af _
theorem M4.refl {S:ChS}(f:S.Fine n)(hk:k<S.md.length):M4 n S S k (S.md.getD k []):=⟨rfl,⟨[],(bu _).symm⟩,f,hk,rfl,bU _⟩
theorem ChS.Fine.putB {S:ChS}(f:S.Fine n)(hi:i<S.md.length)(c:j<S.md.length):M4 n S (S.putB i j).2 (S.putB i j).1 (TM.beh (S.md.getD i []) (S.md.getD j [])):=by
 have d:=f.wl.at hi;have e:=f.wl.at c;unfold ChS.putB;by_cases a:i=0
 .rw[if_pos a];have r:=M4.refl f c;rw[a,f.md0,TM.still_beh e];exact r
 .rw[if_neg a];by_cases b:j=0
  .rw[if_pos b];have r:=M4.refl f hi;rw[b,f.md0,TM.beh_still d];exact r
  .rw[if_neg b];exact f.put (d.beh e)
def xf4 (n:Nat)(S:ChS)(i:Nat):TM.Ln->List Nat->Prop
 | .still,t=>t=List.range n
 | .told k,t=>t=S.src k
 | .back a,t=>a<i/\t=TM.bk n (S.md.getD a [])
 | .behind a b,t=>a<i/\b<i/\t=TM.beh (S.md.getD a []) (S.md.getD b [])
def ChS.Mks (n:Nat)(S:ChS):Prop:=∀(i:Nat) (l:TM.Ln) (t:List Nat),S.ln[i]?=some l->S.md[i]?=some t->xf4 n S i l t
theorem xf4.more {S S':ChS}(h:xf4 n S i l t)(hi:i<=S.md.length)(d:S'.src=S.src)(c:∃m,S'.md=S.md++m):xf4 n S' i l t:=by
 obtain⟨m,c⟩:=c
 cases l with
 | still=>exact h
 | told k=>exact h.trans (by rw[d])
 | back a=>exact⟨h.1,by rw[c,e9 (aM h.1 hi)];exact h.2⟩
 | behind a b=>exact⟨h.1,h.2.1,by rw[c,e9 (aM h.1 hi),e9 (aM h.2.1 hi)];exact h.2.2⟩
theorem ChS.Mks.put {S:ChS}(h:S.Mks n)(f:S.ln.length=S.md.length)(hl:xf4 n S S.md.length l t):(S.put l t).Mks n:=by
 intro i a b h1 h2;have h1:(S.ln++[l])[i]?=some a:=h1;have h2:(S.md++[t])[i]?=some b:=h2;by_cases c:i<S.md.length
 .rw[aE (by lia)]at h1;rw[aE c]at h2;exact(h i a b h1 h2).more (bp c) rfl ⟨[t],rfl⟩
 .have hi:i<(S.md++[t]).length:=(ag.mp h2).1;rw[ao,aW]at hi;have e:i=S.md.length:=by lia
  subst e;rw[aI (by lia),show S.md.length-S.ln.length=0 by lia]at h1;rw[aI (af _),bQ]at h2
  cases h1
  cases h2
  exact hl.more (af _) rfl ⟨[t],rfl⟩
structure ChS.Backs (n:Nat) (S:ChS):Prop where
 bk:∀i k,atN S.bl i=some k->i<S.md.length/\k<S.md.length/\S.md.getD k []=TM.bk n (S.md.getD i [])
 mks:S.Mks n
theorem ChS.Backs.of {S S':ChS}(b:S.Backs n)(hl:S'.ln=S.ln)(a:S'.md=S.md)(c:S'.bl=S.bl)(d:S'.src=S.src):S'.Backs n:=by
 refine⟨λi k h=>?_,λi l t h1 h2=>?_⟩
 .rw[c]at h;rw[a];exact b.bk i k h
 .rw[hl]at h1;rw[a]at h2;exact(b.mks i l t h1 h2).more (bp (ag.mp h2).1) d ⟨[],by rw[a,bu]⟩
theorem ChS.putB_src {S:ChS}(i j:Nat):(S.putB i j).2.src=S.src:=by
 unfold ChS.putB;by_cases a:i=0
 .rw[if_pos a]
 .rw[if_neg a];by_cases b:j=0
  .rw[if_pos b]
  .rw[if_neg b];rfl
theorem ChS.putK_src {S:ChS}(n i:Nat):(S.putK n i).2.src=S.src:=by
 unfold ChS.putK
 cases e:atN S.bl i with
 | some k=>rfl
 | none=>rfl
theorem ChS.Backs.putB {S:ChS}(b:S.Backs n)(f:S.ln.length=S.md.length)(g:k<S.md.length)(i:m<S.md.length):(S.putB k m).2.Backs n/\(S.putB k m).2.bl=S.bl:=by
 unfold ChS.putB;by_cases c:k=0
 .rw[if_pos c];exact⟨b,rfl⟩
 .rw[if_neg c];by_cases d:m=0
  .rw[if_pos d];exact⟨b,rfl⟩
  .rw[if_neg d];refine⟨⟨λj l h=>?_,b.mks.put f ⟨g,i,rfl⟩⟩,rfl⟩;obtain⟨h1,h2,e⟩:=b.bk j l h;have a:(S.put (.behind k m) (TM.beh (S.md.getD k []) (S.md.getD m []))).md=S.md++[TM.beh (S.md.getD k []) (S.md.getD m [])]:=rfl;refine⟨by rw[a,ao];lia,by rw[a,ao];lia,?_⟩;rw[a,e9 h2,e9 h1,e]
theorem ChS.Fine.putK {S:ChS}(f:S.Fine n)(b:S.Backs n)(hi:i<S.md.length):M4 n S (S.putK n i).2 (S.putK n i).1 (TM.bk n (S.md.getD i []))/\(S.putK n i).2.Backs n:=by
 unfold ChS.putK
 cases e:atN S.bl i with
 | some k =>
  obtain⟨h1,h2,g⟩:=b.bk i k e;rw[←g];exact⟨M4.refl f h2,b⟩
 | none =>
  have m:=f.put (l:=.back i) (f.wl.at hi).bk;have j:=b.mks.put f.lnl (l:=.back i) (t:=TM.bk n (S.md.getD i [])) ⟨hi,rfl⟩;refine⟨⟨m.st,m.md,⟨⟨m.fine.wl.md,m.fine.wl.to,m.fine.wl.mv⟩,m.fine.md0,m.fine.pos,m.fine.lnl⟩,m.lt,m.at',m.len⟩,⟨λc d h=>?_,j⟩⟩;have h:atN (S.bl++[(i,S.ln.length)]) c=some d:=h;have a:(S.put (.back i) (TM.bk n (S.md.getD i []))).md=S.md++[TM.bk n (S.md.getD i [])]:=rfl;show c<(S.put (.back i) (TM.bk n (S.md.getD i []))).md.length/\d<(S.put (.back i) (TM.bk n (S.md.getD i []))).md.length/\(S.put (.back i) (TM.bk n (S.md.getD i []))).md.getD d []=TM.bk n ((S.put (.back i) (TM.bk n (S.md.getD i []))).md.getD c []);by_cases o:c=i
  .subst o;rw[zq0 e]at h
   cases h
   refine⟨by rw[a,ao];lia,m.lt,?_⟩;rw[m.at',a,e9 hi]
  .have h':atN S.bl c=some d:=by
    unfold atN at h ⊢;rw[eK]at h
    cases q:S.bl.find? (λx=>decide (x.1=c)) with
    | some x=>rw[q]at h;exact h
    | none =>
     rw[q]at h;simp[Ne.symm o]at h
   obtain⟨h1,h2,g⟩:=b.bk c d h';refine⟨by rw[a,ao];lia,by rw[a,ao];lia,?_⟩;rw[a,e9 h2,e9 h1,g]
structure ChS.Few (S:ChS):Prop where
 ln:S.ln.length<9999000
 bl:S.bl.length<9999000
 st:∀s∈S.st,s.mv.length<100000/\s.to.length<=60/\s.wt.length<=900000
def yy3 (cC cB cS:Addr):Sp:=λvs H Q _=>∃(A:ChA) (S:ChS) (n j p m k:Nat),vs=[.ref A.c,.int j,.int p,.int m]/\u5 cC cB cS n H A S/\S.Fine n/\S.Backs n/\S.Few/\n<=60/\j<n/\atN (S.atS j).to p=some k/\m<S.md.length /\
 ∀H':Hp,w6 A.all H H'->u5 cC cB cS n H' A (S.found n j p m).1->Q (.bl (S.found n j p m).2) H'
theorem l4:x0 ["self","level","place","mover","step","line","made","to","ahead"] ["self","level","place","mover"] (y6 Z0):=scq
theorem ChS.atS_of {S:ChS}(h:S.st[j]?=some s):S.atS j=s:=by unfold ChS.atS;rw[ah,h];rfl
theorem w6.all {A:ChA}(h:w6 F H H')(hF:∀x∈F,x∈[A.c,A.b,A.ll,A.lm,A.d,A.l]):w6 A.all H H':=h.more λx hx=>by unfold ChA.all;exact aR _ (hF x hx)
theorem w6.allS {A:ChA}{j:Nat}{a:StA}(h:w6 F H H')(ha:A.st[j]?=some a)(hF:∀x∈F,x∈a.all):w6 A.all H H':=h.more λx hx=>by
 unfold ChA.all
 exact aF _ (cu.mpr ⟨a.all,az.mpr ⟨a,au ha,rfl⟩,hF x hx⟩)
theorem B0 (F:Fun K "found_mover" "Chain.found_mover" Z0 f fd)(B:Blt mg)(O:m9 K cC Z1)(cb:m9 K cB zb5)(cs:m9 K cS M0)(KB:p6 P w K mg base 1 "behind" ["one","other"] (K5 K))
  (ct:b9 P w K mg base 2 cS "put_place" ["self","place","line","turning"] (xo4 cS)) (ab:b9 P w K mg base 2 cB "put_behind" ["self","one","other"] (xo2 cB)) (cq:b9 P w K mg base 2 cB "put_back" ["self","one"] (xo3 cB)) (cr:b9 P w K mg base 1 cS "put_mover" ["self","mover"] (yt4 cS)) (MH:b9 P w K mg base 3 cC "holds" ["self","turning","level"] (za4 cC cB cS)):u7 P w K mg base CX0 4 f fd ["self","level","place","mover"] (yy3 cC cB cS):=by
 refine F.ok l4 (λvs H Q E h=>?_) (λc' Ar outer sh H vs Q E hr h=>?_)
 .obtain⟨A,S,n,j,p,m,k,rfl,_⟩:=h;rfl
 obtain⟨A,S,n,j,p,m,k,rfl,G,M,cy,few,hn,hj,hp,hm,q⟩:=h;have hz:=W5;have hu:(Ar.deeper (PyProof.Rows.envOfC "Chain.found_mover" (y6 Z0) sh.heap.objs.size f c')).units+1<cLine:=by have:=hr.units;lia
 refine⟨_,z7 (u0 (i:=4) l4.nd rfl (Or.inl rfl) (p9 p0 (y9 (pv 0) rfl) (pv 1) (λ_ _=>rfl)))
  (z7 (u0 (i:=5) l4.nd rfl (Or.inl rfl) (N6 hu (y9 (pv 4) rfl) (pv 2) (λ_ _=>rfl)))
  (z7 (u0 (i:=6) l4.nd rfl (Or.inl rfl) (r6 KB hr rfl (z0 (p9 p0 (y9 (y9 (pv 0) rfl) rfl) (pv 5) (λ_ _=>rfl)) (z0 (p9 p0 (y9 (y9 (pv 0) rfl) rfl) (pv 3) (λ_ _=>rfl)) z5))))
  (z7 (u0 (i:=7) l4.nd rfl (Or.inl rfl) (p9 Y6 (pv 6) (pv 1) (λ_ _=>rfl)))
  (z7 (n4 (zt3 (A7 hu (pv 7) (y9 (pv 4) rfl)))
   (z7 (i5 (Z3 cs.cls ct hr (pv 4) (z0 (pv 7) (z0 (Z3 cb.cls ab hr (y9 (pv 0) rfl) (z0 (pv 5) (z0 (pv 3) z5))) (z0 (pv 6) z5))))) (z8 (v0 Y3))) u4)
  (z7 (n4 (Z4 (Z3 O.cls MH hr (pv 0) (z0 (r6 KB hr rfl (z0 (pv 6) (z0 (N6 hu (y9 (pv 4) rfl) (pv 7) (λ_ _=>rfl)) z5))) (z0 (o7 R4 (pv 1) y8) z5)))) (z8 (v0 Y3)) u4)
  (z7 (u0 (i:=8) l4.nd rfl (Or.inl rfl) (Z3 cb.cls ab hr (y9 (pv 0) rfl) (z0 (pv 5) (z0 (pv 3) z5))))
  (z7 (i5 (Z3 cs.cls cr hr (p9 p0 (y9 (pv 0) rfl) (o7 R4 (pv 1) y8) (λ_ _=>rfl)) (z0 (Z3 cb.cls ab hr (y9 (pv 0) rfl) (z0 (pv 8) (z0 (Z3 cb.cls cq hr (y9 (pv 0) rfl) (z0 (N6 hu (y9 (pv 4) rfl) (pv 7) (λ_ _=>rfl)) z5)) z5))) z5)))
  (z8 (v0 Y3))))))))),?_⟩
 obtain⟨ff,hc⟩:=G.c;obtain⟨fe,hb⟩:=G.bk.b;obtain⟨ca,bt,bv⟩:=G.bk.lm;obtain⟨a,u⟩:∃a,A.st[j]?=some a:=⟨_,aa (by rw[G.len.1];exact hj)⟩;obtain⟨s,L⟩:∃s,S.st[j]?=some s:=⟨_,aa (by rw[G.len.2];exact hj)⟩;have ag:s∈S.st:=au L;rw[ChS.atS_of L]at hp;have st:=G.st j a s u L;obtain⟨fg,U⟩:=st.a;have hk:k<S.md.length:=(M.wl.to s ag _ (V2 hp)).2;have tk:=M.wl.at hk;have tm:=M.wl.at hm;obtain⟨ak,db,dm⟩:=l9 bv k _ (W2 [] hk);obtain⟨am,dc,dn⟩:=l9 bv m _ (W2 [] hm);have gk:atI (ca.map V.ref) ((k:Nat):Int)=some (V.ref ak):=o8 (by rw[al,db];rfl);have gm:atI (ca.map V.ref) ((m:Nat):Int)=some (V.ref am):=o8 (by rw[al,dc];rfl);have ga:atI (A.st.map λs=>V.ref s.a) ((j:Nat):Int)=some (V.ref a.a):=o8 (by rw[al,u];rfl);have g1:U5 H a.lt (kV (Sum.inl (p:Int))) (some (V.int k)):=by
  have g:=U5.k (k:=Sum.inl (p:Int)) st.lt;rwa [T9,hp]at g
 refine i4 λN o=>exI rfl (p7 O hc rfl (exI rfl (ixI (SqL.of G.l) ga (o _ _ ?_))));clear o N;refine i4 λN o=>exI rfl (p7 cs U rfl (exI rfl ⟨a.lt,exI rfl ⟨g1,o _ _ ?_⟩⟩));clear o N;refine i4 λN o=>exI rfl (p7 O hc rfl (p7 cb hb rfl (exI rfl (ixI (SqL.of bt) gk (exI rfl (p7 O hc rfl (p7 cb hb rfl (exI rfl (ixI (SqL.of bt) gm ⟨ak,am,_,_,rfl,SqT.of dm,SqT.of dn,by rw[tk.length];lia,λx d=>by rw[tm.length];exact tk.lt d,λtr H1 ep s1 v=>o _ _ ?_⟩)))))))));clear o N;have tT:TM.IsT n (TM.beh (S.md.getD k []) (S.md.getD m [])):=tk.beh tm;have v:H1 tr=some (.tup (tI (TM.beh (S.md.getD k []) (S.md.getD m [])))):=v;obtain⟨R,I⟩:∃R,R=S.found n j p m:=⟨_,rfl⟩;rw[←I]at q;unfold ChS.found at I;simp only[ChS.atS_of L,hp,cn]at I;have y:=M.putB hk hm;have ce:=ChA.head_nd G.nd;simp only[aS,ax,aY,not_or,or_false]at ce;have W:A.ll≠A.lm:=ce.2.2.1.1;have ai:=ChA.step_nd G.nd u;simp only[StA.all,aS,ax,aY,not_or,or_false]at ai;have mw:a.m≠a.w:=ai.2.1.2.2;have b':a.lt≠a.bf:=ai.2.2.1.1;have fw:=few.st s ag;have en:=few.ln;have eo:=few.bl;have C:=G.same s1;generalize htt:TM.beh (S.md.getD k []) (S.md.getD m [])=t at tT v I y;refine i4 λN o=>exI rfl (exI rfl (ixT (SqT.of v) (A2 (tT.get_step hj)) (o _ _ ?_)));clear o N;refine i4 λN o=>exI rfl (exI rfl (p7 cs (s1 _ _ U) rfl ⟨a.lt,exI rfl ⟨U5.k (k:=Sum.inl ((t.getD j 0:Nat):Int)) (s1 _ _ st.lt),exI rfl ?_⟩⟩));rw[T9];have cd:∀(S':ChS),(∃l,S'.md=S.md++l)->∀s∈S.st,∀x∈s.to,S'.md.getD x.2 []=S.md.getD x.2 []:=λS' ⟨l,e⟩ s L x d=>by rw[e,e9 (M.wl.to s L x d).2]
 cases ea:atN s.to (t.getD j 0) with
 | none =>
  clear o;rw[ea]at I;dsimp only at I;rw[I]at q;refine i9 ?_;refine exI rfl (Z6 (s1 _ _ U) rfl (exI rfl (exI rfl (p7 O (s1 _ _ hc) rfl (Z6 (s1 _ _ hb) rfl (exI rfl (exI rfl ⟨A,S,n,k,m,rfl,C.bk,W,hk,hm,M.wl.md,hn,by lia,λH2 ad cu=>?_⟩)))))));have ay:u5 cC cB cS n H2 A (S.putB k m).2:=C.book (ad.more λx d=>by simp at d ⊢;rcases d with e|e <;> simp[e]) cu y.st (cd _ y.md);have dl:(S.putB k m).2.st[j]?=some s:=by rw[y.st];exact L
  have X:=ay.st j a s u dl;have bz:H2 tr=some (.tup (tI t)):=ad _ _ (λz=>by
   obtain⟨fp,bs,_⟩:=C.bk.ll
   obtain⟨et,bu,_⟩:=C.bk.lm
   rcases ax.mp z with e|z
   .exact l8 v bs (by intro q;cases q) e
   .exact l8 v bu (by intro q;cases q) (aq.mp z)) v
  refine exI rfl ⟨a,n,(S.putB k m).2.md,j,t.getD j 0,(S.putB k m).1,s,tr,t,rfl,X,bz,y.at',tT,hn,ea,mw,b',by lia,by lia,by lia,λH3 bc dt=>?_⟩;have nt:∀x∈[a.lt,a.bf,a.w],x∈a.all/\∀xs,H2 x≠some (.tup xs):=λx d=>by
   obtain⟨fb,bn,_⟩:=X.bf;obtain⟨dw,ah,_⟩:=X.w;rcases ax.mp d with e|d
   .rw[e];exact⟨by simp[StA.all],λxs z=>by rw[X.lt]at z;cases z⟩
   .rcases ax.mp d with e|d
    .rw[e];exact⟨by simp[StA.all],λxs z=>by rw[bn]at z;cases z⟩
    .rw[aq.mp d];exact⟨by simp[StA.all],λxs z=>by rw[ah]at z;cases z⟩
  have r:=ay.step u nt bc dt;rw[y.st]at r;refine q H3 ?_ r;exact w6.trans (y4.frame s1) (w6.trans (ad.all λx d=>by simp at d ⊢;rcases d with e|e <;> simp[e]) (bc.allS u λx d=>(nt x d).1))
 | some k2 =>
  rw[ea]at I;dsimp only at I;refine o0 (o _ _ ?_);clear o N;have di:k2<S.md.length:=(M.wl.to s ag _ (V2 ea)).2;have ck:=M.wl.at di;obtain⟨fa,bm,bo⟩:=(C.st j a s u L).bf;obtain⟨bb,dp,df⟩:=E9 bo ea;have g2:U5 H1 a.bf (kV (Sum.inl ((t.getD j 0:Nat):Int))) (some (V.ref bb)):=by
   have g:=U5.k (k:=Sum.inl ((t.getD j 0:Nat):Int)) bm;rwa [dp]at g
  refine i4 λN o=>exI rfl (Z6 (s1 _ _ hc) rfl (exI rfl (exI rfl (p7 cs (s1 _ _ U) rfl (exI rfl ⟨a.bf,exI rfl ⟨g2,tr,bb,t,exI rfl ⟨SqT.of v,SqT.of df,by rw[tT.length];lia,λx d=>by rw[ck.bk.length];exact tT.lt d,λxr H2 eq s2 dq=>?_⟩⟩⟩)))));refine exI rfl ⟨_,_,rfl,rfl,A,S,n,j+1,xr,TM.beh t (TM.bk n (S.md.getD k2 [])),?_,C.same s2,M.wl,dq,tT.beh ck.bk,by lia,hn,λH3 s3=>?_⟩
  .show [V.ref A.c,V.ref xr,V.int ((j:Int)+1)]=_;rw[show((j+1:Nat):Int)=(j:Int)+1 by lia]
  refine exI rfl ?_;have r:=(C.same s2).same s3;have cg:=s1.trans (s2.trans s3)
  cases hi:(P0 n S.md (S.st.drop (j+1)) (j+1) (TM.beh t (TM.bk n (S.md.getD k2 []))) []).isSome with
  | true =>
   clear o;rw[hi,if_pos rfl]at I;rw[I]at q;exact i9 (q H3 (y4.frame cg) r)
  | false =>
   rw[hi,if_neg (by decide)]at I;rw[I]at q;refine o0 (o _ _ ?_);clear o N;have bq:j+1<n:=by
    rcases cF (j+1) n with h|h
    .exact h
    .rw[cD (by rw[G.len.2];exact h),P0]at hi
     cases hi
   obtain⟨a1,J⟩:∃a,A.st[j+1]?=some a:=⟨_,aa (by rw[G.len.1];exact bq)⟩;obtain⟨s',T⟩:∃s,S.st[j+1]?=some s:=⟨_,aa (by rw[G.len.2];exact bq)⟩;rw[ChS.atS_of T]at q;have bx:s'∈S.st:=au T;have fh:=few.st s' bx;have Z:=ChA.step_nd G.nd J;simp only[StA.all,aS,ax,aY,not_or,or_false]at Z;have aw:(S.putB k m).2.Backs n:=(cy.putB M.lnl hk hm).1;have cz:(S.putB k m).2.bl=S.bl:=by
    unfold ChS.putB;by_cases e1:k=0
    .rw[if_pos e1]
    .rw[if_neg e1];by_cases e2:m=0
     .rw[if_pos e2]
     .rw[if_neg e2];rfl
   obtain⟨l1,dj⟩:=y.md;have Y:k2<(S.putB k m).2.md.length:=by rw[dj,ao];lia
   obtain⟨mk,ed⟩:=y.fine.putK aw Y;obtain⟨l2,br⟩:=mk.md;have er:=y.len;have es:=mk.len;have bi:(S.putB k m).1<((S.putB k m).2.putK n k2).2.md.length:=by rw[br,ao];have:=y.lt;lia
   have m3:=mk.fine.putB bi mk.lt;obtain⟨l3,dk⟩:=m3.md;obtain⟨ei,dg⟩:=r.c;obtain⟨eg,de⟩:=r.bk.b;refine i4 λN o=>exI rfl (p7 O dg rfl (Z6 de rfl (exI rfl (exI rfl ⟨A,S,n,k,m,rfl,r.bk,W,hk,hm,M.wl.md,hn,by lia,λH4 bd cv=>o _ _ ?_⟩))));clear o N;have D:u5 cC cB cS n H4 A (S.putB k m).2:=r.book (bd.more λx d=>by simp at d ⊢;rcases d with e|e <;> simp[e]) cv y.st (cd _ y.md);obtain⟨ej,ae⟩:=D.c;obtain⟨eh,bj⟩:=D.bk.b;have cj:=D.st (j+1) a1 s' J (by rw[y.st];exact T);obtain⟨ee,af⟩:=cj.a;have ci:=D.st j a s u (by rw[y.st];exact L);obtain⟨fc,bw⟩:=ci.a;have da:atI (A.st.map λs=>V.ref s.a) ((j:Int)+1)=some (V.ref a1.a):=by
    rw[show(j:Int)+1=((j+1:Nat):Int) by lia];exact o8 (by rw[al,J];rfl)
   have g4:U5 H4 a.lt (kV (Sum.inl ((t.getD j 0:Nat):Int))) (some (V.int k2)):=by
    have g:=U5.k (k:=Sum.inl ((t.getD j 0:Nat):Int)) ci.lt;rwa [T9,ea]at g
   refine i4 λN o=>exI rfl (p7 O ae rfl (exI rfl ⟨_,_,rfl,rfl,ixI (SqL.of D.l) da (Z6 af rfl ?_)⟩));refine exI rfl (p7 O ae rfl (Z6 bj rfl (exI rfl (exI rfl (p7 O ae rfl (Z6 bj rfl (exI rfl (p7 cs bw rfl (exI rfl ⟨a.lt,exI rfl ⟨g4,A,(S.putB k m).2,n,k2,rfl,D.bk,W,Y,y.fine.wl.md,hn,by lia,by rw[cz];lia,λH5 be cw=>?_⟩⟩)))))))));have az:u5 cC cB cS n H5 A ((S.putB k m).2.putK n k2).2:=D.book be cw mk.st (λs L x d=>by rw[br,e9 (y.fine.wl.to s L x d).2]);refine⟨A,((S.putB k m).2.putK n k2).2,n,(S.putB k m).1,((S.putB k m).2.putK n k2).1,rfl,az.bk,W,bi,mk.lt,mk.fine.wl.md,hn,by lia,λH6 bg cx=>?_⟩;have a':u5 cC cB cS n H6 A (((S.putB k m).2.putK n k2).2.putB (S.putB k m).1 ((S.putB k m).2.putK n k2).1).2:=az.book (bg.more λx d=>by simp at d ⊢;rcases d with e|e <;> simp[e]) cx m3.st (λs L x d=>by rw[dk,e9 (mk.fine.wl.to s L x d).2]);have e6:(((S.putB k m).2.putK n k2).2.putB (S.putB k m).1 ((S.putB k m).2.putK n k2).1).2.st=S.st:=by rw[m3.st,mk.st,y.st]
   have aj:=a'.st (j+1) a1 s' J (by rw[e6];exact T);refine⟨a1,n,_,j+1,(((S.putB k m).2.putK n k2).2.putB (S.putB k m).1 ((S.putB k m).2.putK n k2).1).1,s',rfl,aj,Z.2.1.2.2,by lia,by lia,by lia,λH7 bh du=>o _ _ ?_⟩;clear o N;have nt:∀x∈[a1.m,a1.w],x∈a1.all/\∀xs,H6 x≠some (.tup xs):=λx d=>by
    obtain⟨dw,ah,_⟩:=aj.w;rcases ax.mp d with e|d
    .rw[e];exact⟨by simp[StA.all],λxs z=>by rw[aj.m]at z;cases z⟩
    .rw[aq.mp d];exact⟨by simp[StA.all],λxs z=>by rw[ah]at z;cases z⟩
   have ba:=a'.step J nt bh du;rw[e6]at ba;refine q H7 ?_ ba;exact w6.trans (y4.frame cg) (w6.trans (bd.all λx d=>by simp at d ⊢;rcases d with e|e <;> simp[e]) (w6.trans (be.all λx d=>by simp at d ⊢;rcases d with e|e|e <;> simp[e]) (w6.trans (bg.all λx d=>by simp at d ⊢;rcases d with e|e <;> simp[e]) (bh.allS J λx d=>(nt x d).1))))
def ChS.chn (S:ChS):TM.Chn where
 mv j s:=∃k∈(S.atS j).mv,S.md.getD k []=s
 ring j:=(S.atS j).to.map Prod.fst
 up j p:=S.md.getD ((atN (S.atS j).to p).getD 0) []
theorem V3 {l:List (Nat×Nat)}:atN l p=none↔p∉l.map Prod.fst:=by
 unfold atN;rw[Option.map_eq_none_iff,List.find?_eq_none];constructor
 .intro h z;obtain⟨x,a,e⟩:=az.mp z;exact h x a (by simpa using e)
 .intro h x a e;exact h (az.mpr ⟨x,a,by simpa using e⟩)
theorem J0 {l:List (Nat×Nat)}(h:atN l p=some k):p∈l.map Prod.fst:=az.mpr ⟨_,V2 h,rfl⟩
theorem ChS.chn_up {S:ChS}(h:atN (S.atS j).to p=some k):S.chn.up j p=S.md.getD k []:=by
 show S.md.getD ((atN (S.atS j).to p).getD 0) []=_;rw[h];rfl
theorem ChS.drop_at {S:ChS}(h:j<S.st.length):S.st.drop j=S.atS j::S.st.drop (j+1):=by
 rw[bV h,ChS.atS_of (aa h)]
theorem yf9 {S:ChS}(b:S.st.length=n)(ok:S.chn.Ok n):∀(d:Nat) (x acc:List Nat),d<=n->TM.IsT n x->((P0 n S.md (S.st.drop (n-d)) (n-d) x acc).isSome=true↔S.chn.Sif n d x)
 | 0,x,acc,_,_=>by
  rw[cE,cD (by lia),P0]
  exact⟨λ_=>trivial,λ_=>rfl⟩
 | d+1,x,acc,hd,hx=>by
  have hj:n-(d+1)<n:=by lia
  have e:n-(d+1)+1=n-d:=by lia
  rw[ChS.drop_at (by lia),P0,TM.Chn.Sif]
  cases ea:atN (S.atS (n-(d+1))).to (x.getD (n-(d+1)) 0) with
  | none =>
   have a:x.getD (n-(d+1)) 0∉S.chn.ring (n-(d+1)):=V3.mp ea
   exact⟨λh=>(by cases h),λh=>absurd h.1 a⟩
  | some k =>
   have a:x.getD (n-(d+1)) 0∈S.chn.ring (n-(d+1)):=J0 ea
   have g:=ok.upT hj a
   have f:=ChS.chn_up ea
   dsimp only
   rw[e]
   by_cases c:x.getD (n-(d+1)) 0=n-(d+1)
   .rw[if_pos c]
    have i:TM.beh x (TM.bk n (S.chn.up (n-(d+1)) (x.getD (n-(d+1)) 0)))=x:=by
     rw[c,ok.upOwn _ hj,TM.bk_still,TM.beh_still hx]
    rw[i,yf9 b ok d x acc (by lia) hx]
    exact⟨λh=>⟨a,h⟩,λh=>h.2⟩
   .rw[if_neg c,f,yf9 b ok d _ _ (by lia) (hx.beh (by rw[f]at g;exact g.bk))]
    exact⟨λh=>⟨a,h⟩,λh=>h.2⟩
structure ChS.Inv (n:Nat) (S:ChS):Prop where
 fine:S.Fine n
 bks:S.Backs n
 len:S.st.length=n
 ok:S.chn.Ok n
 lk:∀j,(S.atS j).lk<=(S.atS j).wt.length
 wl:∀j,(S.atS j).wt.length=(S.atS j).to.length*(S.atS j).mv.length
 wt:∀j p m,p∈(S.atS j).to.map Prod.fst->m∈(S.atS j).mv->(p,m)∈(S.atS j).wt
 wt':∀j,∀x∈(S.atS j).wt,x.1∈(S.atS j).to.map Prod.fst/\x.2∈(S.atS j).mv
 good:∀j,∀x∈(S.atS j).wt.take (S.atS j).lk,S.chn.Good n j x.1 (S.md.getD x.2 [])
 ind:∀j,TM.Indep n ((S.atS j).mv.map λk=>S.md.getD k [])
def ChS.Done (S:ChS)(j:Nat):Prop:=(S.atS j).lk=(S.atS j).wt.length
theorem ChS.Inv.shut {S:ChS}(h:S.Inv n)(d:S.Done j):S.chn.Shut n j:=by
 intro p b s c;obtain⟨m,a,rfl⟩:=c;refine h.good j (p,m) ?_;rw[d,bD];exact h.wt j p m b a
theorem ChS.Inv.holds {S:ChS}(h:S.Inv n)(f:j<=n)(d:∀i,j<=i->i<n->S.Done i)(b:TM.IsT n x)(c:TM.Fix j x):(P0 n S.md (S.st.drop j) j x []).isSome=true↔TM.Grp n (S.chn.mv j) x:=by
 have e:n-(n-j)=j:=by lia
 have h1:=yf9 h.len h.ok (n-j) x [] (by lia) b;have h2:=h.ok.sift (d:=n-j) (by lia) b (by rw[e];exact c) (λi hi a=>h.shut (d i (by lia) a));rw[e]at h1 h2;exact h1.trans h2
theorem ChS.Inv.few {S:ChS}(b:n<=60)(h:S.Inv n)(j:Nat):(S.atS j).mv.length<=354:=by
 have q:=TM.indep_few b (l:=(S.atS j).mv.map λk=>S.md.getD k []) (λs c=>by
  obtain⟨k,a,e⟩:=az.mp c
  exact h.ok.mvT j s ⟨k,a,e⟩) (h.ind j)
 rwa [ae]at q
theorem ChS.Inv.ring {S:ChS}(h:S.Inv n)(a:j<n):(S.atS j).to.length<=n:=by
 have q:=TM.nodup_below (M:=n) (h.ok.nd j a) λx b=>h.ok.lt j x a b;have e:(S.chn.ring j).length=(S.atS j).to.length:=ae _;lia
theorem ChS.atS_set {S S':ChS}(e:S'.st=S.st.set i s')(hi:i<S.st.length)(h:Nat):S'.atS h=if h=i then s' else S.atS h:=by
 unfold ChS.atS;rw[e,ah,ah,List.getElem?_set];by_cases q:h=i
 .subst q;rw[if_pos rfl,if_pos hi,if_pos rfl];rfl
 .rw[if_neg (Ne.symm q),if_neg q]
theorem ChS.atS_mem {S:ChS}(h:j<S.st.length):S.atS j∈S.st:=by
 rw[ChS.atS_of (aa h)];exact bw h
theorem ChS.atS_out {S:ChS}(h:¬j<S.st.length):S.atS j=⟨[],[],[],0⟩:=by
 unfold ChS.atS;rw[ah,aQ (by lia)];rfl
theorem ChS.Fine.mvlt {S:ChS}(f:S.Fine n)(h:k∈(S.atS j).mv):k<S.md.length:=by
 by_cases q:j<S.st.length
 .exact f.wl.mv _ (ChS.atS_mem q) k h
 .rw[ChS.atS_out q]at h;cases h
theorem ChS.Fine.tolt {S:ChS}(f:S.Fine n){x:Nat×Nat}(h:x∈(S.atS j).to):x.1<n/\x.2<S.md.length:=by
 by_cases q:j<S.st.length
 .exact f.wl.to _ (ChS.atS_mem q) x h
 .rw[ChS.atS_out q]at h;cases h
theorem ChS.Fine.set {S a:ChS}(m:M4 n S a k t){s':StS}(d:∀x∈s'.to,x.1<n/\x.2<a.md.length)(b:∀k∈s'.mv,k<a.md.length):ChS.Fine n { a with st:=S.st.set i s' }:=by
 have f:=m.fine;refine⟨⟨f.wl.md,λs c=>?_,λs c=>?_⟩,f.md0,f.pos,f.lnl⟩
 .rcases fg c with h|h
  .exact f.wl.to s (by rw[m.st];exact h)
  .rw[h];exact d
 .rcases fg c with h|h
  .exact f.wl.mv s (by rw[m.st];exact h)
  .rw[h];exact b
theorem M4.at_ {S a:ChS}(m:M4 n S a k t)(h:i<S.md.length):a.md.getD i []=S.md.getD i []:=by
 obtain⟨l,e⟩:=m.md;rw[e,e9 h]
theorem M4.lift {S a:ChS}(m:M4 n S a k t)(h:i<S.md.length):i<a.md.length:=by
 obtain⟨l,e⟩:=m.md;rw[e,ao];lia
theorem M4.chn {S b S':ChS}(f:S.Fine n)(m:M4 n S b k t)(e:S'.md=b.md):((S'.atS h).mv=(S.atS h).mv->S'.chn.mv h=S.chn.mv h)/\((S'.atS h).to=(S.atS h).to->S'.chn.ring h=S.chn.ring h/\S'.chn.up h=S.chn.up h):=by
 refine⟨λq=>?_,λq=>⟨?_,?_⟩⟩
 .funext s;show(∃k∈(S'.atS h).mv,S'.md.getD k []=s)=(∃k∈(S.atS h).mv,S.md.getD k []=s);rw[q,e];refine propext ⟨λ⟨k,a,z⟩=>⟨k,a,?_⟩,λ⟨k,a,z⟩=>⟨k,a,?_⟩⟩
  .rw[←m.at_ (f.mvlt a)];exact z
  .rw[m.at_ (f.mvlt a)];exact z
 .show(S'.atS h).to.map Prod.fst=_;rw[q];rfl
 .funext p;show S'.md.getD ((atN (S'.atS h).to p).getD 0) []=S.md.getD ((atN (S.atS h).to p).getD 0) [];rw[q,e]
  cases ea:atN (S.atS h).to p with
  | none=>exact m.at_ f.pos
  | some k=>exact m.at_ (f.tolt (V2 ea)).2
def ChS.look (S:ChS)(j:Nat):ChS:={ S with st:=S.st.set j { S.atS j with lk:=(S.atS j).lk+1 } }
theorem ChS.look_at {S:ChS}(hj:j<S.st.length)(h:Nat):(S.look j).atS h=if h=j then { S.atS j with lk:=(S.atS j).lk+1 } else S.atS h:=ChS.atS_set (S':=S.look j) rfl hj h
theorem ChS.look_mv {S:ChS}(a:j<S.st.length)(h:Nat):((S.look j).atS h).mv=(S.atS h).mv/\((S.look j).atS h).to=(S.atS h).to/\((S.look j).atS h).wt=(S.atS h).wt:=by
 rw[ChS.look_at a];by_cases q:h=j
 .subst q;rw[if_pos rfl];exact⟨rfl,rfl,rfl⟩
 .rw[if_neg q];exact⟨rfl,rfl,rfl⟩
theorem ChS.look_chn {S:ChS}(a:j<S.st.length):(S.look j).chn=S.chn:=by
 have h1:∀h,((S.look j).atS h).mv=(S.atS h).mv:=λh=>(ChS.look_mv a h).1;have h2:∀h,((S.look j).atS h).to=(S.atS h).to:=λh=>(ChS.look_mv a h).2.1;have b:(S.look j).md=S.md:=rfl;unfold ChS.chn;simp only[h1,h2,b]
theorem ChS.Inv.look {S:ChS}(h:S.Inv n)(k:j<n){x:Nat×Nat}(f:(S.atS j).wt[(S.atS j).lk]?=some x)(g:S.chn.Good n j x.1 (S.md.getD x.2 [])):(S.look j).Inv n:=by
 have b:j<S.st.length:=by rw[h.len];exact k
 have c:=(ag.mp f).1;have e:=λi=>ChS.look_mv (S:=S) b i;have d:=ChS.look_chn (S:=S) b;refine⟨?_,h.bks.of rfl rfl rfl rfl,by show(S.st.set _ _).length=n;rw[bt];exact h.len,by rw[d];exact h.ok,λi=>?_,λi=>by rw[(e i).1,(e i).2.1,(e i).2.2];exact h.wl i,λi=>by rw[(e i).1,(e i).2.1,(e i).2.2];exact h.wt i,λi=>by rw[(e i).1,(e i).2.1,(e i).2.2];exact h.wt' i,λi y a=>?_,λi=>by rw[(e i).1];exact h.ind i⟩
 .have m:=M4.refl h.fine h.fine.pos;exact ChS.Fine.set m (λy a=>h.fine.tolt a) (λy a=>h.fine.mvlt a)
 .rw[ChS.look_at b];by_cases q:i=j
  .subst q;rw[if_pos rfl];exact c
  .rw[if_neg q];exact h.lk i
 .rw[d];show S.chn.Good n i y.1 (S.md.getD y.2 []);rw[ChS.look_at b]at a;by_cases q:i=j
  .subst q;rw[if_pos rfl]at a;have a:y∈(S.atS i).wt.take ((S.atS i).lk+1):=a;rw[aT,f]at a;rcases aH.mp a with z|z
   .exact h.good i y z
   .obtain rfl:y=x:=by simpa using z
    exact g
  .rw[if_neg q]at a;exact h.good i y a
theorem yo8 {p q k:Nat}(h:p≠q):atN (l++[(q,k)]) p=atN l p:=by
 unfold atN;rw[eK]
 cases e:l.find? (λx=>decide (x.1=p)) with
 | some x=>rfl
 | none=>simp[Ne.symm h]
theorem zf7 {S S2:ChS}(f:S.Fine n)(m:M4 n S S2 k t)(j:Nat):((S.atS j).mv.map λk=>S2.md.getD k [])=((S.atS j).mv.map λk=>S.md.getD k []):=bT λx hx=>m.at_ (f.mvlt hx)
theorem ChS.Inv.place {S S2:ChS}{t:List Nat}(h:S.Inv n)(D:j<n)(m:M4 n S S2 k t)(b:S2.Backs n)(E:atN (S.atS j).to q=none)(u:q<n)(G:TM.Grp n (S.chn.mv j) t)(H:t.getD j 0=q) :
  ChS.Inv n { S2 with st:=S.st.set j ((S.atS j).putP q k) }/\TM.Chn.MoreP n S.chn (ChS.chn { S2 with st:=S.st.set j ((S.atS j).putP q k) }) j q t:=by
 obtain⟨S',d⟩:∃S',S'=({ S2 with st:=S.st.set j ((S.atS j).putP q k) }:ChS):=⟨_,rfl⟩;rw[←d];have v:S'.st=S.st.set j ((S.atS j).putP q k):=by rw[d]
 have c:S'.md=S2.md:=by rw[d]
 have B:j<S.st.length:=by rw[h.len];exact D
 have A:=λi=>ChS.atS_set v B i;have s:∀i,(S'.atS i).mv=(S.atS i).mv:=λi=>by
  rw[A i];by_cases e:i=j
  .subst e;rw[if_pos rfl];rfl
  .rw[if_neg e]
 have l:S'.atS j=(S.atS j).putP q k:=by rw[A j,if_pos rfl]
 have o:∀i,i≠j->S'.atS i=S.atS i:=λi e=>by rw[A i,if_neg e]
 have C:TM.Chn.MoreP n S.chn S'.chn j q t:=by
  refine⟨D,V3.mp E,u,G,H,funext λi=>(m.chn h.fine c).1 (s i),?_,λi e=>((m.chn h.fine c).2 (by rw[o i e])).1,λp f=>?_,?_,λi e=>((m.chn h.fine c).2 (by rw[o i e])).2⟩
  .show(S'.atS j).to.map Prod.fst=(S.atS j).to.map Prod.fst++[q];rw[l];show((S.atS j).to++[(q,k)]).map Prod.fst=_;rw[aJ];rfl
  .show S'.md.getD ((atN (S'.atS j).to p).getD 0) []=S.md.getD ((atN (S.atS j).to p).getD 0) [];rw[l];show S'.md.getD ((atN ((S.atS j).to++[(q,k)]) p).getD 0) []=_;rw[yo8 f,c]
   cases e:atN (S.atS j).to p with
   | none=>exact m.at_ h.fine.pos
   | some k'=>exact m.at_ (h.fine.tolt (V2 e)).2
  .show S'.md.getD ((atN (S'.atS j).to q).getD 0) []=t;rw[l];show S'.md.getD ((atN ((S.atS j).to++[(q,k)]) q).getD 0) []=t;rw[zq0 E,c];exact m.at'
 refine⟨⟨?_,?_,?_,C.ok h.ok,λi=>?_,λi=>?_,λi p y f r=>?_,λi x a=>?_,λi x a=>?_,λi=>?_⟩,C⟩
 .rw[d];refine ChS.Fine.set m (λx a=>?_) (λx a=>m.lift (h.fine.mvlt a));rcases aH.mp a with z|z
  .exact⟨(h.fine.tolt z).1,m.lift (h.fine.tolt z).2⟩
  .rw[aq.mp z];exact⟨u,m.lt⟩
 .rw[d];exact b.of rfl rfl rfl rfl
 .rw[v,bt];exact h.len
 .by_cases e:i=j
  .subst e;rw[l];have:=h.lk i;show(S.atS i).lk<=((S.atS i).wt++_).length;rw[ao];lia
  .rw[o i e];exact h.lk i
 .by_cases e:i=j
  .subst e;rw[l];have:=h.wl i;show((S.atS i).wt++(S.atS i).mv.map λm=>(q,m)).length=((S.atS i).to++[(q,k)]).length*(S.atS i).mv.length;rw[ao,ae,ao,aW,dX,dh,this]
  .rw[o i e];exact h.wl i
 .by_cases e:i=j
  .subst e;rw[l]at f r ⊢;have f:p∈((S.atS i).to++[(q,k)]).map Prod.fst:=f;rw[aJ]at f;show(p,y)∈(S.atS i).wt++(S.atS i).mv.map λm=>(q,m);rcases aH.mp f with z|z
   .exact aR _ (h.wt i p y z r)
   .have z:p=q:=aq.mp z;rw[z];exact aF _ (az.mpr ⟨y,r,rfl⟩)
  .rw[o i e]at f r ⊢;exact h.wt i p y f r
 .by_cases e:i=j
  .subst e;rw[l]at a ⊢;have a:x∈(S.atS i).wt++(S.atS i).mv.map λm=>(q,m):=a;show x.1∈((S.atS i).to++[(q,k)]).map Prod.fst/\x.2∈(S.atS i).mv;rw[aJ];rcases aH.mp a with z|z
   .exact⟨aR _ (h.wt' i x z).1,(h.wt' i x z).2⟩
   .obtain⟨y,r,rfl⟩:=az.mp z;exact⟨aF _ (by simp),r⟩
  .rw[o i e]at a ⊢;exact h.wt' i x a
 .have w:x∈(S.atS i).wt.take (S.atS i).lk:=by
   by_cases e:i=j
   .subst e;rw[l]at a;have a:x∈((S.atS i).wt++(S.atS i).mv.map λm=>(q,m)).take (S.atS i).lk:=a;rwa [bL (h.lk i)]at a
   .rwa [o i e]at a
  have F:=h.wt' i x (ci w);have g:=C.good (i:=i) F.1 (h.good i x w);rw[c,m.at_ (h.fine.mvlt F.2)];exact g
 .rw[s i,c,zf7 h.fine m];exact h.ind i
theorem ChS.Inv.mover {S S2:ChS}(h:S.Inv n)(hi:i<n)(m:M4 n S S2 k t)(b:S2.Backs n)(L:TM.IsT n t)(K:TM.Fix i t)(F:∀g,g+1=i->TM.Grp n (S.chn.mv g) t)(J:¬TM.Grp n (S.chn.mv i) t) :
  ChS.Inv n { S2 with st:=S.st.set i ((S.atS i).putM k) }/\TM.Chn.MoreM n S.chn (ChS.chn { S2 with st:=S.st.set i ((S.atS i).putM k) }) i t:=by
 obtain⟨S',d⟩:∃S',S'=({ S2 with st:=S.st.set i ((S.atS i).putM k) }:ChS):=⟨_,rfl⟩;rw[←d];have u:S'.st=S.st.set i ((S.atS i).putM k):=by rw[d]
 have c:S'.md=S2.md:=by rw[d]
 have D:i<S.st.length:=by rw[h.len];exact hi
 have C:=λg=>ChS.atS_set u D g;have r:∀g,(S'.atS g).to=(S.atS g).to:=λg=>by
  rw[C g];by_cases e:g=i
  .subst e;rw[if_pos rfl];rfl
  .rw[if_neg e]
 have f:S'.atS i=(S.atS i).putM k:=by rw[C i,if_pos rfl]
 have j:∀g,g≠i->S'.atS g=S.atS g:=λg e=>by rw[C g,if_neg e]
 have E:TM.Chn.MoreM n S.chn S'.chn i t:=by
  refine⟨hi,L,K,F,λg s=>?_,funext λg=>((m.chn h.fine c).2 (r g)).1,funext λg=>((m.chn h.fine c).2 (r g)).2⟩;by_cases e:g=i
  .subst e;show(∃o∈(S'.atS g).mv,S'.md.getD o []=s)↔((∃o∈(S.atS g).mv,S.md.getD o []=s)∨(g=g/\s=t));rw[f,c];constructor
   .rintro⟨o,A,z⟩;rcases aH.mp A with y|y
    .exact .inl ⟨o,y,by rw[←m.at_ (h.fine.mvlt y)];exact z⟩
    .rw[aq.mp y,m.at']at z;exact .inr ⟨rfl,z.symm⟩
   .rintro (⟨o,A,z⟩|⟨_,z⟩)
    .exact⟨o,aR _ A,by rw[m.at_ (h.fine.mvlt A)];exact z⟩
    .exact⟨k,aF _ (by simp),by rw[m.at',z]⟩
  .rw[(m.chn h.fine c).1 (by rw[j g e])];exact⟨.inl,λz=>z.elim id λy=>absurd y.1 e⟩
 refine⟨⟨?_,?_,?_,E.ok h.ok,λg=>?_,λg=>?_,λg p B l q=>?_,λg x a=>?_,λg x a=>?_,λg=>?_⟩,E⟩
 .rw[d];refine ChS.Fine.set m (λx a=>⟨(h.fine.tolt a).1,m.lift (h.fine.tolt a).2⟩) (λx a=>?_);rcases aH.mp a with z|z
  .exact m.lift (h.fine.mvlt z)
  .rw[aq.mp z];exact m.lt
 .rw[d];exact b.of rfl rfl rfl rfl
 .rw[u,bt];exact h.len
 .by_cases e:g=i
  .subst e;rw[f];have:=h.lk g;show(S.atS g).lk<=((S.atS g).wt++_).length;rw[ao];lia
  .rw[j g e];exact h.lk g
 .by_cases e:g=i
  .subst e;rw[f];have:=h.wl g;show((S.atS g).wt++(S.atS g).to.map λx=>(x.1,k)).length=(S.atS g).to.length*((S.atS g).mv++[k]).length;rw[ao,ae,ao,aW,Nat.mul_add,fA,this]
  .rw[j g e];exact h.wl g
 .by_cases e:g=i
  .subst e;rw[f]at l q ⊢;have l:p∈(S.atS g).to.map Prod.fst:=l;have q:B∈(S.atS g).mv++[k]:=q;show(p,B)∈(S.atS g).wt++(S.atS g).to.map λx=>(x.1,k);rcases aH.mp q with z|z
   .exact aR _ (h.wt g p B l z)
   .rw[aq.mp z];obtain⟨y,w,e⟩:=az.mp l;exact aF _ (az.mpr ⟨y,w,by rw[e]⟩)
  .rw[j g e]at l q ⊢;exact h.wt g p B l q
 .by_cases e:g=i
  .subst e;rw[f]at a ⊢;have a:x∈(S.atS g).wt++(S.atS g).to.map λx=>(x.1,k):=a;show x.1∈(S.atS g).to.map Prod.fst/\x.2∈(S.atS g).mv++[k];rcases aH.mp a with z|z
   .exact⟨(h.wt' g x z).1,aR _ (h.wt' g x z).2⟩
   .obtain⟨y,w,rfl⟩:=az.mp z;exact⟨az.mpr ⟨y,w,rfl⟩,by simp⟩
  .rw[j g e]at a ⊢;exact h.wt' g x a
 .have v:x∈(S.atS g).wt.take (S.atS g).lk:=by
   by_cases e:g=i
   .subst e;rw[f]at a;have a:x∈((S.atS g).wt++(S.atS g).to.map λx=>(x.1,k)).take (S.atS g).lk:=a;rwa [bL (h.lk g)]at a
   .rwa [j g e]at a
  have I:=h.wt' g x (ci v);have G:=E.good h.ok (h.good g x v);rw[c,m.at_ (h.fine.mvlt I.2)];exact G
 .by_cases e:g=i
  .subst e;rw[f,c];show TM.Indep n (((S.atS g).mv++[k]).map λk=>S2.md.getD k []);rw[aJ,zf7 h.fine m];show TM.Indep n (_++[S2.md.getD k []]);rw[m.at'];refine(h.ind g).snoc λz=>J ?_;refine TM.Grp.mono (h.ok.mvT g) (λs H=>TM.Grp.of (h.ok.mvT g) ?_) z;obtain⟨y,w,e⟩:=az.mp H;exact⟨y,w,e⟩
  .rw[j g e,c,zf7 h.fine m];exact h.ind g
theorem ChS.putK_bl {S:ChS}(i:Nat):(S.putK n i).2.bl.length<=S.bl.length+1:=by
 unfold ChS.putK
 cases e:atN S.bl i with
 | some k=>exact bU _
 | none =>
  show(S.bl++[_]).length<=_;rw[ao];exact af _
theorem ChS.atS_st {S a:ChS}(e:a.st=S.st)(j:Nat):a.atS j=S.atS j:=by unfold ChS.atS;rw[e]
theorem ChS.Inv.grow {S a:ChS}(h:S.Inv n)(m:M4 n S a k t)(b:a.Backs n):a.Inv n/\a.chn=S.chn:=by
 have c:=λj=>ChS.atS_st m.st j;have d:a.chn=S.chn:=by
  have h1:a.chn.mv=S.chn.mv:=funext λj=>(m.chn h.fine rfl).1 (by rw[c j]);have h2:a.chn.ring=S.chn.ring:=funext λj=>((m.chn h.fine rfl).2 (by rw[c j])).1;have f:a.chn.up=S.chn.up:=funext λj=>((m.chn h.fine rfl).2 (by rw[c j])).2;show TM.Chn.mk a.chn.mv a.chn.ring a.chn.up=TM.Chn.mk S.chn.mv S.chn.ring S.chn.up;rw[h1,h2,f]
 refine⟨⟨m.fine,b,by rw[m.st];exact h.len,by rw[d];exact h.ok,λj=>by rw[c j];exact h.lk j,λj=>by rw[c j];exact h.wl j,λj=>by rw[c j];exact h.wt j,λj=>by rw[c j];exact h.wt' j,λj x e=>?_,λj=>by rw[c j,zf7 h.fine m];exact h.ind j⟩,d⟩;rw[c j]at e;rw[d,m.at_ (h.fine.mvlt (h.wt' j x (ci e)).2)];exact h.good j x e
def ChS.looks (S:ChS):Nat:=(S.st.map StS.lk).sum
theorem zp5 {l:List StS}:∀{j:Nat} {a s:StS},l[j]?=some s->((l.set j a).map StS.lk).sum+s.lk=(l.map StS.lk).sum+a.lk:=by
 induction l with
 | nil=>intro j a s h;cases h
 | cons x r ih =>
  intro j a s h
  cases j with
  | zero =>
   obtain rfl:x=s:=by simpa using h
   simp only[List.set_cons_zero,aN,fk];lia
  | succ j =>
   have h':r[j]?=some s:=by simpa using h
   have:=ih (a:=a) h';simp only[List.set_cons_succ,aN,fk];lia
theorem ChS.get_at {S:ChS}(h:j<S.st.length):S.st[j]?=some (S.atS j):=by rw[ChS.atS_of (aa h)];exact aa h
theorem ChS.look_looks {S:ChS}(h:j<S.st.length):(S.look j).looks=S.looks+1:=by
 have q:=zp5 (a:={ S.atS j with lk:=(S.atS j).lk+1 }) (ChS.get_at h);unfold ChS.looks ChS.look;dsimp only at q ⊢;lia
structure ChS.Next (n:Nat) (S S':ChS) (j:Nat) (b:Bool):Prop where
 inv:S'.Inv n
 looks:S'.looks=S.looks+1
 done:∀i,j<i->i<n->(b=true->i≠j+1)->S.Done i->S'.Done i
 more:b=true->j+1<n
 mv0:S'.chn.mv 0=S.chn.mv 0
 src:S'.src=S.src
 ln:S'.ln.length<=S.ln.length+3
 bl:S'.bl.length<=S.bl.length+1
theorem ChS.Inv.found {S:ChS}{x:Nat×Nat}(h:S.Inv n)(r:j<n)(P:(S.atS j).wt[(S.atS j).lk]?=some x)(d:∀i,j<i->i<n->S.Done i):ChS.Next n S ((S.found n j x.1 x.2).1.look j) j (S.found n j x.1 x.2).2:=by
 have f:j<S.st.length:=by rw[h.len];exact r
 have hw:=h.wt' j x (au P);have F:x.1∈S.chn.ring j:=hw.1;have U:S.chn.mv j (S.md.getD x.2 []):=⟨x.2,hw.2,rfl⟩;have I:=h.fine.mvlt hw.2;obtain⟨k,hk⟩:∃k,atN (S.atS j).to x.1=some k:=by
  cases e:atN (S.atS j).to x.1 with
  | none=>exact absurd F (V3.mp e)
  | some k=>exact⟨k,rfl⟩
 have O:k<S.md.length:=(h.fine.tolt (V2 hk)).2;have H:S.chn.up j x.1=S.md.getD k []:=ChS.chn_up hk;have hu:=h.ok.upT r F;have ad:=h.ok.mvT j _ U;have b:=h.fine.putB O I;obtain⟨W,L⟩:=h.bks.putB h.fine.lnl O I;have et:(TM.beh (S.md.getD k []) (S.md.getD x.2 [])).getD j 0=(S.md.getD x.2 []).getD x.1 0:=by
  rw[←H,TM.beh_get hu r,h.ok.upTo j _ r F]
 have gt:TM.Grp n (S.chn.mv j) (TM.beh (S.md.getD k []) (S.md.getD x.2 [])):=by
  rw[←H];exact .mul (h.ok.upG j _ r F) U
 have tT:TM.IsT n (TM.beh (S.md.getD k []) (S.md.getD x.2 [])):=gt.isT (h.ok.mvT j);obtain⟨R,o⟩:∃R,R=S.found n j x.1 x.2:=⟨_,rfl⟩;rw[←o];unfold ChS.found at o;simp only[hk,cn,et]at o
 cases ea:atN (S.atS j).to ((S.md.getD x.2 []).getD x.1 0) with
 | none =>
  rw[ea]at o;dsimp only at o;have ac:(S.md.getD x.2 []).getD x.1 0<n:=ad.step_lt (h.ok.lt j _ r F);obtain⟨J,w⟩:=h.place r b W ea ac gt et;have g:=w.new h.ok F U (by rw[H]);rw[o];dsimp only;generalize hS':({ (S.putB k x.2).2 with st:=S.st.set j ((S.atS j).putP ((S.md.getD x.2 []).getD x.1 0) (S.putB k x.2).1) }:ChS)=S' at J w g;have m:S'.st=S.st.set j ((S.atS j).putP ((S.md.getD x.2 []).getD x.1 0) (S.putB k x.2).1):=by rw[←hS']
  have E:S'.md=(S.putB k x.2).2.md:=by rw[←hS']
  have at':=λi=>ChS.atS_set m f i;have Z:S'.atS j=(S.atS j).putP ((S.md.getD x.2 []).getD x.1 0) (S.putB k x.2).1:=by rw[at' j,if_pos rfl]
  have l:j<S'.st.length:=by rw[m,bt];exact f
  have af:(S'.atS j).wt[(S'.atS j).lk]?=some x:=by
   rw[Z];show((S.atS j).wt++_)[(S.atS j).lk]?=some x;rw[aE (ag.mp P).1];exact P
  refine⟨J.look r af (by rw[E,b.at_ I];exact g),?_,λi hi u _ M=>?_,λz=>(by cases z),?_,(by show S'.src=_;rw[←hS'];exact ChS.putB_src _ _),?_,?_⟩
  .rw[ChS.look_looks l];have q:=zp5 (a:=(S.atS j).putP ((S.md.getD x.2 []).getD x.1 0) (S.putB k x.2).1) (ChS.get_at f);have q2:((S.atS j).putP ((S.md.getD x.2 []).getD x.1 0) (S.putB k x.2).1).lk=(S.atS j).lk:=rfl;unfold ChS.looks;rw[m];lia
  .unfold ChS.Done;rw[ChS.look_at l,if_neg (by lia),at' i,if_neg (by lia)];exact M
  .rw[ChS.look_chn l,w.emv]
  .show S'.ln.length<=_;have:=b.len;rw[←hS'];show(S.putB k x.2).2.ln.length<=_;lia
  .show S'.bl.length<=_;rw[←hS'];show(S.putB k x.2).2.bl.length<=_;rw[L];lia
 | some k2 =>
  rw[ea]at o;dsimp only at o;have hq:(S.md.getD x.2 []).getD x.1 0∈S.chn.ring j:=J0 ea;have C:S.chn.up j ((S.md.getD x.2 []).getD x.1 0)=S.md.getD k2 []:=ChS.chn_up ea;have N:k2<S.md.length:=(h.fine.tolt (V2 ea)).2;obtain⟨sg,sf⟩:=h.ok.schreier r F U hq;rw[H,C]at sg sf;have Q:=sg.isT (h.ok.mvT j);have hh:=h.holds (j:=j+1) (by lia) (λi hi u=>d i (by lia) u) Q sf
  cases hi:(P0 n S.md (S.st.drop (j+1)) (j+1) (TM.beh (TM.beh (S.md.getD k []) (S.md.getD x.2 [])) (TM.bk n (S.md.getD k2 []))) []).isSome with
  | true =>
   rw[hi,if_pos rfl]at o;rw[o];dsimp only;have g:S.chn.Good n j x.1 (S.md.getD x.2 []):=⟨hq,by rw[H,C];exact hh.mp hi⟩;refine⟨h.look r P g,ChS.look_looks f,λi hi u _ M=>?_,λz=>(by cases z),?_,rfl,?_,?_⟩
   .unfold ChS.Done;rw[ChS.look_at f,if_neg (by lia)];exact M
   .rw[ChS.look_chn f]
   .exact cw _ _
   .exact bU _
  | false =>
   rw[hi,if_neg (by decide)]at o;rw[o];dsimp only;have ng:¬TM.Grp n (S.chn.mv (j+1)) (TM.beh (TM.beh (S.md.getD k []) (S.md.getD x.2 [])) (TM.bk n (S.md.getD k2 []))):=λz=>by
    rw[hh.mpr z]at hi;cases hi
   have D:j+1<n:=by
    rcases cF (j+1) n with q|q
    .exact q
    .rw[cD (by rw[h.len];exact q),P0]at hi
     cases hi
   obtain⟨mk,b2⟩:=b.fine.putK W (b.lift N);have A:=ChS.putK_bl (n:=n) (S:=(S.putB k x.2).2) k2;have K:=mk.fine.putB (mk.lift b.lt) mk.lt;have t:(((S.putB k x.2).2.putK n k2).2.putB (S.putB k x.2).1 ((S.putB k x.2).2.putK n k2).1).2.src=S.src:=by rw[ChS.putB_src,ChS.putK_src,ChS.putB_src]
   obtain⟨X,B⟩:=b2.putB mk.fine.lnl (mk.lift b.lt) mk.lt;obtain⟨ah,Y⟩:=h.grow b W;obtain⟨G,c⟩:=ah.grow mk b2;rw[Y]at c;rw[mk.at_ b.lt,b.at',mk.at',b.at_ N]at K;generalize hS2:((S.putB k x.2).2.putK n k2).2=S2 at K X B G c mk A o t;generalize hS3:S2.putB (S.putB k x.2).1 ((S.putB k x.2).2.putK n k2).1=S3 at K X B o t;have T:S2.st=S.st:=by rw[mk.st,b.st]
   have V:=λi=>ChS.atS_st T i;obtain⟨J,w⟩:=G.mover D K X Q sf (λg hg=>by
    obtain rfl:g=j:=by lia
    rw[c];exact sg) (by rw[c];exact ng)
   rw[V,T]at J w;have g:=w.new G.ok (j:=j) (p:=x.1) (s:=S.md.getD x.2 []) (by rw[c];exact hq) (by rw[c,H,C]);generalize hS':({ S3.2 with st:=S.st.set (j+1) ((S.atS (j+1)).putM S3.1) }:ChS)=S' at J w g;have v:j+1<S.st.length:=by rw[h.len];exact D
   have m:S'.st=S.st.set (j+1) ((S.atS (j+1)).putM S3.1):=by rw[←hS']
   have E:S'.md=S3.2.md:=by rw[←hS']
   have at':=λi=>ChS.atS_set m v i;have l:j<S'.st.length:=by rw[m,bt];exact f
   have Z:S'.atS j=S.atS j:=by rw[at' j,if_neg (by lia)]
   refine⟨J.look r (by rw[Z];exact P) (by rw[E,K.at_ (mk.lift (b.lift I)),mk.at_ (b.lift I),b.at_ I];exact g),?_,λi hi u hne M=>?_,λ_=>D,?_,(by show S'.src=_;rw[←hS'];exact t),?_,?_⟩
   .rw[ChS.look_looks l];have q:=zp5 (a:=(S.atS (j+1)).putM S3.1) (ChS.get_at v);have q2:((S.atS (j+1)).putM S3.1).lk=(S.atS (j+1)).lk:=rfl;unfold ChS.looks;rw[m];lia
   .unfold ChS.Done;rw[ChS.look_at l,if_neg (by lia),at' i,if_neg (hne rfl)];exact M
   .rw[ChS.look_chn l,←c];funext s;exact propext ((w.emv 0 s).trans ⟨λz=>z.elim id λy=>absurd y.1 (by lia),.inl⟩)
   .show S'.ln.length<=_;have:=b.len;have:=mk.len;have:=K.len;rw[←hS'];show S3.2.ln.length<=_;lia
   .show S'.bl.length<=_;rw[←hS'];show S3.2.bl.length<=_;rw[B];rw[L]at A;exact A
theorem ChS.look_putB {S:ChS}(j k m:Nat):(S.look j).putB k m=((S.putB k m).1,(S.putB k m).2.look j):=by
 unfold ChS.putB;by_cases a:k=0
 .rw[if_pos a,if_pos a]
 .rw[if_neg a,if_neg a];by_cases b:m=0
  .rw[if_pos b,if_pos b]
  .rw[if_neg b,if_neg b];rfl
theorem ChS.look_putK {S:ChS}(n j k:Nat):(S.look j).putK n k=((S.putK n k).1,(S.putK n k).2.look j):=by
 unfold ChS.putK;have e:(S.look j).bl=S.bl:=rfl;rw[e]
 cases q:atN S.bl k with
 | some k'=>rfl
 | none=>rfl
theorem ChS.found_look {S:ChS}(d:j<S.st.length)(p m:Nat):(S.look j).found n j p m=((S.found n j p m).1.look j,(S.found n j p m).2):=by
 have g:(S.look j).atS j={ S.atS j with lk:=(S.atS j).lk+1 }:=by rw[ChS.look_at d,if_pos rfl]
 have b:(S.look j).atS (j+1)=S.atS (j+1):=by rw[ChS.look_at d,if_neg (by lia)]
 have c:(S.look j).md=S.md:=rfl;have f:(S.look j).st.drop (j+1)=S.st.drop (j+1):=List.drop_set_of_lt (by lia);unfold ChS.found;simp only[g,b,c,f,ChS.look_putB,ChS.look_putK]
 cases ea:atN (S.atS j).to ((TM.beh (S.md.getD ((atN (S.atS j).to p).getD 0) []) (S.md.getD m [])).getD j 0) with
 | none =>
  dsimp only;refine Prod.ext ?_ rfl;generalize hX:((atN (S.atS j).to p).getD 0)=k;generalize hS':({ (S.putB k m).2 with st:=S.st.set j ((S.atS j).putP ((TM.beh (S.md.getD k []) (S.md.getD m [])).getD j 0) (S.putB k m).1) }:ChS)=S';have a:S'.st=S.st.set j ((S.atS j).putP ((TM.beh (S.md.getD k []) (S.md.getD m [])).getD j 0) (S.putB k m).1):=by rw[←hS']
  have e:=ChS.atS_set a d j;rw[if_pos rfl]at e;show _=({ S' with st:=S'.st.set j { S'.atS j with lk:=(S'.atS j).lk+1 } }:ChS);rw[e,a,List.set_set];show({ (S.putB k m).2.look j with st:=(S.st.set j _).set j _ }:ChS)=_;rw[List.set_set,←hS'];rfl
 | some k2 =>
  dsimp only;by_cases hi:(P0 n S.md (S.st.drop (j+1)) (j+1) (TM.beh (TM.beh (S.md.getD ((atN (S.atS j).to p).getD 0) []) (S.md.getD m [])) (TM.bk n (S.md.getD k2 []))) []).isSome=true
  .rw[if_pos hi,if_pos hi]
  .rw[if_neg hi,if_neg hi];dsimp only;refine Prod.ext ?_ rfl;dsimp only;generalize (((S.putB ((atN (S.atS j).to p).getD 0) m).2.putK n k2).2.putB (S.putB ((atN (S.atS j).to p).getD 0) m).1 ((S.putB ((atN (S.atS j).to p).getD 0) m).2.putK n k2).1)=Y;show({ Y.2 with st:=(S.st.set j _).set (j+1) _ }:ChS)=({ Y.2 with st:=(S.st.set (j+1) _).set j _ }:ChS);rw[List.set_comm _ _ (show j≠j+1 by lia)];have e:(({ Y.2 with st:=S.st.set (j+1) ((S.atS (j+1)).putM Y.1) }:ChS)).atS j=S.atS j:=by
    unfold ChS.atS;rw[ah,br (by lia),ah]
   rw[e]
theorem wb3 {l:List StS}(h:∀s∈l,s.lk<=b):(l.map StS.lk).sum<=l.length*b:=by
 induction l with
 | nil=>simp
 | cons x r ih =>
  have h1:=h x aw;have h2:=ih λs a=>h s (ar _ a);rw[aN,fk,av,dX,dh];lia
theorem ChS.Inv.wt_le {S:ChS}(a:n<=60)(h:S.Inv n)(b:j<n):(S.atS j).wt.length<=21240:=by
 rw[h.wl j];have h1:=h.ring b;have h2:=h.few a j;exact aD (Nat.mul_le_mul (aD h1 a) h2) (by decide)
theorem ChS.mem_at {S:ChS}(h:s∈S.st):∃j,j<S.st.length/\S.atS j=s:=by
 obtain⟨j,a,e⟩:=bh.mp h;exact⟨j,a,by rw[ChS.atS_of (aa a),e]⟩
theorem ChS.Inv.looks_le {S:ChS}(a:n<=60)(h:S.Inv n):S.looks<=1274400:=by
 have q:=wb3 (l:=S.st) (b:=21240) λs d=>by
  obtain⟨j,c,rfl⟩:=ChS.mem_at d;exact aD (h.lk j) (h.wt_le a (by rw[←h.len];exact c))
 unfold ChS.looks;rw[h.len]at q;have:n*21240<=60*21240:=di _ a;lia
theorem ChS.Inv.few_look {S:ChS}(b:n<=60)(h:S.Inv n)(l:j<n)(hc:c<=1000)(o:S.ln.length<=3*S.looks+c)(p:S.bl.length<=S.looks+c):(S.look j).Few/\(S.look j).Fine n:=by
 have q:=h.looks_le b;have a:j<S.st.length:=by rw[h.len];exact l
 refine⟨⟨by show S.ln.length<_;lia,by show S.bl.length<_;lia,λs m=>?_⟩,ChS.Fine.set (M4.refl h.fine h.fine.pos) (λy d=>h.fine.tolt d) (λy d=>h.fine.mvlt d)⟩;obtain⟨i,hi,rfl⟩:=ChS.mem_at m;have hi:i<n:=by
  have e:(S.look j).st.length=S.st.length:=bt;rw[e,h.len]at hi;exact hi
 obtain⟨f,g,k⟩:=ChS.look_mv a i;rw[f,g,k];have h1:=h.few b i;have h2:=h.ring hi;have r:=h.wt_le b hi;exact⟨by lia,by lia,by lia⟩
theorem U9 {X:Cx}{C:Addr}{o:Expr}{ta:TE}{apos pos:Pos}{pl:Sem Bool}(c:Cls X.K C)(kn:b9 X.prog X.w X.K X.mg X.base k C m ps sp)(hr:X3 j X.A)(ho:PE X o ta)(hj:k<=j:=by decide)
  (ht:eval (.Call (.Attribute o m apos) [] [] pos) X.env=(do
   let v ←eval o X.env
   standAt apos.atName
   let (f,first) ←holding [v] (getMethod v m pl)
   callWith pos f first (backTo pos (gh [] X.env)) (backToKw pos (gw [] X.env))):=by rfl):PE X (.Call (.Attribute o m apos) [] [] pos) (yn6 C m sp [] E0 ta wb7):=by
 obtain⟨f,fd,G,hm,hb⟩:=kn
 exact xl3 ho c hm G (hr.mono hj) hb .nil yx0 ht
def yn0 (cC cB cS:Addr):Sp:=λvs H Q _=>∃(A:ChA) (S:ChS) (n c:Nat),vs=[.ref A.c]/\u5 cC cB cS n H A S/\S.Inv n/\0<n/\n<=60/\(∀i,0<i->i<n->S.Done i)/\c<=1000/\S.ln.length<=3*S.looks+c/\S.bl.length<=S.looks+c /\
 ∀(S':ChS) (H':Hp),w6 A.all H H'->u5 cC cB cS n H' A S'->S'.Inv n->(∀i,i<n->S'.Done i)->S'.chn.mv 0=S.chn.mv 0->S'.src=S.src->S'.ln.length<=3*S'.looks+c->S'.bl.length<=S'.looks+c->Q .non H'
theorem Y4:x0 ["self","level","pair"] ["self"] (y6 O1):=scq
theorem zn2 (F:Fun K "settle" "Chain.settle" O1 f fd)(B:Blt mg)(cc:m9 K cC Z1)(cs:m9 K cS M0)(MN:b9 P w K mg base 1 cS "next_pair" ["self"] (xo0 cS))(MF:b9 P w K mg base 4 cC "found_mover" ["self","level","place","mover"] (yy3 cC cB cS)):u7 P w K mg base CX0 5 f fd ["self"] (yn0 cC cB cS):=by
 refine F.ok Y4 (λvs H Q E h=>?_) (λax Ar outer sh H vs Q E hr h=>?_)
 .obtain⟨A,S,n,c,rfl,_⟩:=h;rfl
 obtain⟨A,S,n,c,rfl,ae,aj,bg,Y,af,hc,ad,ac,q⟩:=h;obtain⟨M,hM⟩:∃M:Nat,M=2000000:=⟨_,rfl⟩;refine⟨_,z7 (u0 (i:=1) Y4.nd rfl (Or.inl rfl) y8)
  (z8 (yl2 PassesOwn.never (p5 we2 (pv 1) y8 (o6 _))
   (z7 (u0 (i:=2) Y4.nd rfl (Or.inl rfl) (U9 cs.cls MN hr (p9 p0 (y9 (pv 0) rfl) (pv 1) (λ_ _=>rfl))))
   (z8 (n4 (zt3 (xz7 (pv 2))) (z8 (ys2 (i:=1) Y4.nd rfl (Or.inl rfl) y8 xx9))
    (z8 (n4 (Z4 (Z3 cc.cls MF hr (pv 0) (z0 (pv 1) (z0 (p9 Y6 (pv 2) y8 (λ_ _=>rfl)) (z0 (p9 Y6 (pv 2) y8 (λ_ _=>rfl)) z5)))))
     (z8 (ys2 (i:=1) Y4.nd rfl (Or.inl rfl) y8 xx7)) u4))))))),?_⟩
 refine⟨λm σ H2=>∃(b:ChS) (t:Int) (v2:Option V),σ=[some (.ref A.c),some (.int t),v2]/\-1<=t/\t<n/\m=2*(M-b.looks)+(t+1).toNat/\w6 A.all H H2/\u5 cC cB cS n H2 A b/\b.Inv n/\(∀i:Nat,t<i->i<n->b.Done i)/\(b.chn.mv 0=S.chn.mv 0/\b.src=S.src)/\b.ln.length<=3*b.looks+c/\b.bl.length<=b.looks+c,⟨_,S,0,none,rfl,by lia,by lia,rfl,w6.refl,ae,aj,λi hi d=>af i (by lia) d,⟨rfl,rfl⟩,ad,ac⟩,?_⟩;rintro m σ H2 ⟨b,t,v2,rfl,l1,l2,rfl,fr,u,o,J,L,Z,b2⟩;refine exI rfl ⟨_,_,rfl,rfl,_,rfl,?_⟩;by_cases T:0<=t
 .rw[decide_eq_true T];refine i9 ⟨_,λσ' H' z=>z,?_⟩;obtain⟨j,rfl⟩:∃j:Nat,t=(j:Int):=⟨t.toNat,by lia⟩;have C:j<n:=by lia
  have y:j<b.st.length:=by rw[o.len];exact C
  obtain⟨ay,ah⟩:=u.c;obtain⟨a,p⟩:∃a,A.st[j]?=some a:=⟨_,aa (by rw[u.len.1];exact C)⟩;have hs:=ChS.get_at y;have st:=u.st j a _ p hs;obtain⟨az,W⟩:=st.a;have ga:atI (A.st.map λs=>V.ref s.a) ((j:Nat):Int)=some (V.ref a.a):=o8 (by rw[al,p];rfl);have bi:=o.wt_le Y C;refine exI rfl (p7 cc ah rfl (exI rfl (ixI (SqL.of u.l) ga (Z6 W rfl ⟨a,n,b.md,j,b.atS j,rfl,st,o.lk j,by lia,λhd=>?_,λx r H3 D U R ak=>?_⟩))))
  .refine exI rfl (exI rfl (i9 ?_));refine exI rfl ⟨_,_,rfl,rfl,?_⟩;refine⟨_,?_,b,(j:Int)-1,exI rfl ⟨by lia,by lia,rfl,fr,u,o,λi hi d=>?_,L,Z,b2⟩⟩
   .lia
   .by_cases e:i=j
    .rw[e];exact hd
    .exact J i (by lia) d
  .have nt:∀x∈[a.a],x∈a.all/\∀xs,H2 x≠some (.tup xs):=λx D=>by
    rw[aq.mp D];exact⟨by simp[StA.all],λxs z=>by rw[W]at z;cases z⟩
   have I:u5 cC cB cS n H3 A (b.look j):=u.step p nt R ak;obtain⟨few,fin⟩:=o.few_look Y C hc Z b2;have hw:=o.wt' j x (au D);have g:=o.found C D (λi hi d=>J i (by lia) d);have fl:=ChS.found_look (n:=n) (S:=b) y x.1 x.2;obtain⟨k,hk⟩:∃k,atN (b.atS j).to x.1=some k:=by
    cases e:atN (b.atS j).to x.1 with
    | none=>exact absurd hw.1 (V3.mp e)
    | some k=>exact⟨k,rfl⟩
   have hm:=o.fine.mvlt hw.2;obtain⟨an,ai⟩:=I.c;have bk:=g.inv.looks_le Y;have bj:=g.looks;refine exI rfl (exI rfl (o0 ?_));refine exI rfl (Z6 ai rfl (exI rfl (exI rfl (ixT (SqT.of U) rfl (exI rfl (ixT (SqT.of U) rfl ⟨A,b.look j,n,j,x.1,x.2,k,rfl,I,fin,o.bks.of rfl rfl rfl rfl,few,Y,C,by rw[(ChS.look_mv y j).2.1];exact hk,hm,λH4 ag v=>?_⟩))))));rw[fl]at v ⊢;have O:w6 A.all H H4:=fr.trans ((R.allS p λx D=>(nt x D).1).trans ag);have X:((b.found n j x.1 x.2).1.look j).ln.length<=3*((b.found n j x.1 x.2).1.look j).looks+c:=by have:=g.ln;lia
   have G:((b.found n j x.1 x.2).1.look j).bl.length<=((b.found n j x.1 x.2).1.look j).looks+c:=by have:=g.bl;lia
   have N:=And.intro (g.mv0.trans L.1) (g.src.trans L.2);refine exI rfl ?_
   cases hb:(b.found n j x.1 x.2).2 with
   | true =>
    have bd:=g.more hb;refine i9 ?_;refine exI rfl ⟨_,_,rfl,rfl,?_⟩;refine⟨_,?_,(b.found n j x.1 x.2).1.look j,(j:Int)+1,exI rfl ⟨by lia,by lia,rfl,O,v,g.inv,λi hi d=>g.done i (by lia) d (λ_=>by lia) (J i (by lia) d),N,X,G⟩⟩;lia
   | false =>
    refine o0 ?_;refine⟨_,?_,(b.found n j x.1 x.2).1.look j,(j:Int),exI rfl ⟨by lia,by lia,rfl,O,v,g.inv,λi hi d=>g.done i (by lia) d (λz=>by rw[hb]at z;cases z) (J i (by lia) d),N,X,G⟩⟩;lia
 .rw[decide_eq_false T];refine o0 ?_;exact q b H2 fr u o (λi hi=>J i (by lia) hi) L.1 L.2 Z b2
theorem ze7 {J:It}{fr:List Nat}{te:CT TE}{Q:Addr->Hp->Prop}{β:Type}(adr:β->Addr)(d:β->List Addr)(R:Hp->Nat->β->Prop)(hz:n<=ge)
  (hR:∀(H H':Hp) (D:Addr) (xs:List V) (i:Nat) (b:β),R H i b->H D=some (.lst xs)->w6 [D] H H'->D∉d b->R H' i b)
  (u:∀H,y4 H1 H->J.stop n H) (ad:∀i H,i<n->y4 H1 H->J.go i H)
  (T:∀(i:Nat) H x H2,i<n->y4 H1 H->J.yld i H x H2->H2=H/\∀C S E fp,te C S E fp (some x::fr.map λj=>(σ[j]?).getD none) H λv f=>y4 H f/\∃b,v=.ref (adr b)/\R f i b/\(d b).Nodup/\∀a∈d b,H a=none/\∃o,f a=some o)
  (fin:∀D H (bs:List β),H1 D=none->y4 H1 H->H D=some (.lst (bs.map λb=>V.ref (adr b)))->bs.length=n->(∀i b,bs[i]?=some b->R H i b)->(bs.map d).flatten.Nodup->(∀b∈bs,∀a∈d b,H1 a=none/\a≠D)->Q D H) :
  ∀D,H1 D=none->∃W:Nat->Nat->St->Hp->Prop,(∃m,W 0 m (X2 1 fr σ) (upd H1 D (.lst [])))/\∀i m U H',W i m U H' ->
  (J.stop i H'/\Q D H')∨(J.go i H'/\∀x H2,J.yld i H' x H2->∀C S E fp,h9 0 x U H2 λσ3 H3=>∃N:VK,te C S E fp σ3 H3 N/\∀y f,N y f ->
   ∃ys m',f D=some (.lst ys)/\ys.length<ge/\m'<m/\W (i+1) m' σ3 (upd f D (.lst (ys++[y])))):=by
 intro D Y
 refine⟨λi m U H'=>m=n-i/\i<=n/\y4 H1 H'/\(∃bs:List β,H' D=some (.lst (bs.map λb=>V.ref (adr b)))/\bs.length=i/\(∀k b,bs[k]?=some b->R H' k b)/\(bs.map d).flatten.Nodup/\∀b∈bs,∀a∈d b,H1 a=none/\a≠D/\∃o,H' a=some o)/\∃z,U=z::fr.map λj=>(σ[j]?).getD none,
  ⟨n,rfl,aG _,y0 Y _,⟨[],z4,rfl,λk b h=>(by simp at h),by simp,λb h=>(by cases h)⟩,none,rfl⟩,?_⟩
 rintro i m U H' ⟨rfl,hi,B,⟨bs,L,p,I,M,g⟩,z,rfl⟩
 by_cases t:i<n
 .refine .inr ⟨ad i H' t B,λx H2 yl C S E fp=>?_⟩
  obtain⟨e,tn⟩:=T i H' x H2 t B yl
  subst e
  refine⟨_,tn C S E fp,λv f ⟨X,b,hv,aa,O,s⟩=>?_⟩
  subst hv
  have r:=X _ _ L
  have F:w6 [D] f (upd f D (.lst (bs.map (λb=>V.ref (adr b))++[V.ref (adr b)]))):=w6.upd w6.refl (by simp) _
  have Z:D∉d b:=λh=>by
   have:=(s D h).1
   rw[L]at this
   cases this
  have G:∀c∈bs,D∉d c:=λc K h=>(g c K D h).2.1 rfl
  refine⟨_,n-(i+1),r,by rw[ae,p];lia,by lia,rfl,t,λc o e=>?_,⟨bs++[b],by rw[z4,aJ];rfl,by rw[ao,p];rfl,λk c A=>?_,?_,λc K a q=>?_⟩,_,rfl⟩
  .rw[z6 (z9 e Y)]
   exact X _ _ (B _ _ e)
  .by_cases ah:k<bs.length
   .rw[aE ah]at A
    have hm:=G c (au A)
    exact hR f _ D _ k c (hR _ f D _ k c (I k c A) L (y4.frame X) hm) r F hm
   .have e:k=bs.length:=by
     have:=(ag.mp A).1
     rw[ao,aW]at this
     lia
    subst e
    rw[aI (af _),bQ]at A
    obtain rfl:b=c:=by simpa using A
    rw[p]
    exact hR f _ D _ i b aa r F Z
  .rw[aJ,List.flatten_append]
   refine bz.mpr ⟨M,by simpa using O,λa q c K e=>?_⟩
   subst e
   obtain⟨l,ai,aj⟩:=cu.mp q
   obtain⟨b',ab,rfl⟩:=az.mp ai
   obtain⟨o,P⟩:=(g b' ab a aj).2.2
   have ac:a∈d b:=by simpa using K
   have:=(s a ac).1
   rw[P]at this
   cases this
  .rcases aH.mp K with w|w
   .obtain⟨h1,h2,o,P⟩:=g c w a q
    exact⟨h1,h2,o,by rw[z6 h2];exact X _ _ P⟩
   .rw[aq.mp w]at q
    obtain⟨h1,o,P⟩:=s a q
    have hne:a≠D:=λz=>by
     rw[z,L]at h1
     cases h1
    exact⟨B.free h1,hne,o,by rw[z6 hne];exact P⟩
 .have e:i=n:=by lia
  subst e
  exact .inl ⟨u H' B,fin D H' bs Y B L p I M λb hb a q=>⟨(g b hb a q).1,(g b hb a q).2.1⟩⟩
def ChS.new (n:Nat)(sr:Nat->List Nat):ChS:=⟨[.still],[List.range n],[(0,0)],(List.range n).map λi=>⟨[],[(i,0)],[],0⟩,sr⟩
def yy2 (cB:Addr):Sp:=λvs H Q _=>∃(x dx:Addr) (n:Nat),vs=[.ref x,.int n]/\H x=some (.ins cB dx [])/\n<=60 /\
 ∀(ll lm d:Addr) (H':Hp),[ll,lm,d].Nodup->H ll=none->H lm=none->H d=none->w6 [x] H H'->(∀(A:ChA) (sr:Nat->List Nat),A.b=x->A.ll=ll->A.lm=lm->A.d=d->U6 cB H' A (ChS.new n sr))->Q .non H'
theorem zk1:x0 ["self","many"] ["self","many"] (y6 R6):=scq
theorem yd5 (F:Fun K "__init__" "Book.__init__" R6 f fd)(B:Blt mg)(D:m9 K cB zb5)(KS:p6 P w K mg base 1 "still" ["many"] zh6)(GS:za6 mg "STILL_LINE" (.int 0)):u7 P w K mg base CX0 2 f fd ["self","many"] (yy2 cB):=by
 refine F.ok zk1 (λvs H Q E h=>?_) (λau Ar outer s H vs Q E hr h=>?_)
 .obtain⟨x,dx,n,rfl,_⟩:=h;rfl
 obtain⟨x,dx,n,rfl,X,hn,q⟩:=h;have hz:=W5;refine⟨_,z7 (W8 (pv 0) (Z2 (z0 (P9 (z0 W7 z5)) z5)) rfl)
  (z7 (W8 (pv 0) (Z2 (z0 (r6 KS hr rfl (z0 (pv 1) z5)) z5)) rfl)
  (z8 (W8 (pv 0) (zo9 (zg5 (K2 GS rfl) (K2 GS rfl) zp2) rfl rfl (eT _ _) (by decide)) rfl))),?_⟩
 refine⟨(by show 1<=ge;lia),λi t=>?_⟩;have s1:=y0 t (.tup [V.str "still"]);have e1:(upd H i (.tup [V.str "still"])) i=some (.tup (lnV .still)):=z4;generalize upd H i (.tup [V.str "still"])=H1 at s1 e1 ⊢;refine⟨(by show 1<=ge;lia),λa p=>?_⟩;have s2:=s1.trans (y0 p (.lst [V.ref i]));have e2:=y0 p (.lst [V.ref i]) _ _ e1;have l2:(upd H1 a (.lst [V.ref i])) a=some (.lst [V.ref i]):=z4;have j:H a=none:=s1.free p;generalize upd H1 a (.lst [V.ref i])=H2 at s2 e2 l2 ⊢;refine exI rfl ⟨x,cB,dx,[],rfl,s2 _ _ X,D.cls,D.no "lines" (by decide),by decide,?_⟩;have C:i≠x:=λz=>by subst z;rw[X]at t;cases t
 have v:a≠x:=λz=>by subst z;rw[X]at j;cases j
 have N:w6 [x] H (upd H2 x (.ins cB dx (X4 "lines" (V.ref a) []))):=w6.upd (y4.frame s2) (by simp) _;have M:(upd H2 x (.ins cB dx (X4 "lines" (V.ref a) []))) x=some (.ins cB dx [("lines",.ref a)]):=z4;have e3:(upd H2 x (.ins cB dx (X4 "lines" (V.ref a) []))) i=some (.tup (lnV .still)):=by rw[z6 C];exact e2
 have Y:(upd H2 x (.ins cB dx (X4 "lines" (V.ref a) []))) a=some (.lst [V.ref i]):=by rw[z6 v];exact l2
 generalize upd H2 x (.ins cB dx (X4 "lines" (V.ref a) []))=H3 at N M e3 Y ⊢;refine exI rfl ⟨n,rfl,by lia,λl H4 G s4 W=>⟨(by show 1<=ge;lia),λg r=>?_⟩⟩;have I:=s4.trans (y0 r (.lst [V.ref l]));have t5:=y0 r (.lst [V.ref l]) _ _ W;have m5:(upd H4 g (.lst [V.ref l])) g=some (.lst [V.ref l]):=z4;have c:H3 g=none:=s4.free r;generalize upd H4 g (.lst [V.ref l])=m at I t5 m5 ⊢;have x5:=I _ _ M;refine exI rfl ⟨x,cB,dx,exI rfl ⟨x5,D.cls,D.no "made" (by decide),by (show 1<1000;decide),?_⟩⟩;have J:l≠x:=λz=>by subst z;rw[M]at G;cases G
 have y:g≠x:=λz=>by subst z;rw[M]at c;cases c
 have ml:g≠a:=λz=>by subst z;rw[Y]at c;cases c
 have O:w6 [x] H (upd m x (.ins cB dx (X4 "made" (V.ref g) [("lines",.ref a)]))):=w6.upd (N.trans (y4.frame I)) (by simp) _;have x6:(upd m x (.ins cB dx (X4 "made" (V.ref g) [("lines",.ref a)]))) x=some (.ins cB dx [("lines",.ref a),("made",.ref g)]):=by rw[z4];rfl
 have e6:(upd m x (.ins cB dx (X4 "made" (V.ref g) [("lines",.ref a)]))) i=some (.tup (lnV .still)):=by rw[z6 C];exact I _ _ e3
 have Z:(upd m x (.ins cB dx (X4 "made" (V.ref g) [("lines",.ref a)]))) a=some (.lst [V.ref i]):=by rw[z6 v];exact I _ _ Y
 have t6:(upd m x (.ins cB dx (X4 "made" (V.ref g) [("lines",.ref a)]))) l=some (.tup (tI (List.range n))):=by rw[z6 J];exact t5
 have m6:(upd m x (.ins cB dx (X4 "made" (V.ref g) [("lines",.ref a)]))) g=some (.lst [V.ref l]):=by rw[z6 y];exact m5
 have nn:H g=none:=by
  cases e:H g with
  | none=>rfl
  | some o =>
   have:=N g o (by simpa using y) e;rw[this]at c
   cases c
 generalize upd m x (.ins cB dx (X4 "made" (V.ref g) [("lines",.ref a)]))=L at O x6 e6 Z t6 m6 ⊢;refine λd k=>⟨z4,[(Sum.inl 0,V.int 0)],rfl,by decide,?_⟩;have u:y4 L (upd (upd L d (.dK [])) d (.dK (W6 [] [(Sum.inl 0,V.int 0)]))):=λb o h=>by
  have hb:=z9 h k;rw[z6 hb,z6 hb];exact h
 have d7:(upd (upd L d (.dK [])) d (.dK (W6 [] [(Sum.inl 0,V.int 0)]))) d=some (.dK (kI [(0,0)])):=by rw[z4];rfl
 generalize upd (upd L d (.dK [])) d (.dK (W6 [] [(Sum.inl 0,V.int 0)]))=H7 at u d7 ⊢;refine exI rfl ⟨x,cB,dx,exI rfl ⟨u _ _ x6,D.cls,D.no "back_lines" (by decide),by (show 2<1000;decide),?_⟩⟩;have xd:d≠x:=λz=>by subst z;rw[x6]at k;cases k
 have dl:d≠a:=λz=>by subst z;rw[Z]at k;cases k
 have dm:d≠g:=λz=>by subst z;rw[m6]at k;cases k
 have nd:H d=none:=by
  cases e:H d with
  | none=>rfl
  | some o =>
   have:=O d o (by simpa using xd) e;rw[this]at k
   cases k
 refine q a g d _ (by simp;exact⟨⟨Ne.symm ml,Ne.symm dl⟩,Ne.symm dm⟩) j nn nd (w6.upd (O.trans (y4.frame u)) (by simp) _) λA sr R T U S=>?_;subst R T U S;refine⟨⟨dx,by rw[z4];rfl⟩,⟨[i],by rw[z6 v];exact u _ _ Z,.cons ?_ .nil⟩,⟨[l],by rw[z6 y];exact u _ _ m6,.cons ?_ .nil⟩,by rw[z6 xd];exact d7,rfl⟩
 .rw[z6 C];exact u _ _ e6
 .rw[z6 J];exact u _ _ t6
def yy7 (cS:Addr):Sp:=λvs H Q _=>∃(x dx:Addr) (i n:Nat),vs=[.ref x,.int i,.int n]/\H x=some (.ins cS dx [])/\n<=60 /\
 ∀(A:StA) (H':Hp),A.a=x->A.all.Nodup->(∀a∈A.all,a≠x->H a=none)->w6 [x] H H'->Z8 cS n [List.range n] H' A i ⟨[],[(i,0)],[],0⟩->Q .non H'
theorem zk4:x0 ["self","place","many"] ["self","place","many"] (y6 R8):=scq
theorem Z5 {f:Str}{fs':List (Str×V)}(e:X4 f v fs=fs'):∃H',upd H x (.ins cS dx (X4 f v fs))=H'/\w6 [x] H H'/\H' x=some (.ins cS dx fs'):=(exI rfl ⟨w6.upd w6.refl (by simp) _,by rw[z4,e]⟩)
theorem w6.keep (fr:w6 [x] H H')(h:H b=some o)(hb:b≠x):H' b=some o:=fr b o (by simpa using hb) h
theorem w6.free (fr:w6 [x] H H')(h:H' b=none)(a:b≠x):H b=none:=by
 cases e:H b with
 | none=>rfl
 | some o =>
  rw[fr.keep e a]at h
  cases h
theorem yd8 (F:Fun K "__init__" "Step.__init__" R8 f fd)(B:Blt mg)(cs:m9 K cS M0)(KS:p6 P w K mg base 1 "still" ["many"] zh6)(GS:za6 mg "STILL_LINE" (.int 0)):u7 P w K mg base CX0 2 f fd ["self","place","many"] (yy7 cS):=by
 refine F.ok zk4 (λvs H Q E h=>?_) (λbr Ar outer s H vs Q E hr h=>?_)
 .obtain⟨x,dx,i,n,rfl,_⟩:=h;rfl
 obtain⟨x,dx,i,n,rfl,hx,hn,q⟩:=h;have hz:=W5;refine⟨_,z7 (W8 (pv 0) (pv 1) rfl)
  (z7 (W8 (pv 0) (Z2 z5) rfl)
  (z7 (W8 (pv 0) (zo9 (zg5 (pv 1) (K2 GS rfl) zp2) rfl rfl (eT _ _) (by decide)) rfl)
  (z7 (W8 (pv 0) (zo9 (zg5 (pv 1) (r6 KS hr rfl (z0 (pv 2) z5)) zp2) rfl rfl (eT _ _) (by decide)) rfl)
  (z7 (W8 (pv 0) (Z2 z5) rfl)
  (z8 (W8 (pv 0) y8 rfl)))))),?_⟩
 refine exI rfl (exI rfl ⟨x,cS,dx,[],rfl,hx,cs.cls,cs.no "place" (by decide),by decide,?_⟩);obtain⟨H1,g1,f1,x1⟩:=Z5 (H:=H) (x:=x) (cS:=cS) (dx:=dx) (f:="place") (v:=V.int i) (fs:=[]) (fs':=[("place",.int i)]) rfl;rw[g1];refine⟨(by show 0<=ge;lia),λm O=>?_⟩;have s2:=y0 O (.lst []);have m2:(upd H1 m (.lst [])) m=some (.lst []):=z4;generalize upd H1 m (.lst [])=H2 at s2 m2 ⊢;have A:m≠x:=λz=>by subst z;rw[x1]at O;cases O
 refine exI rfl ⟨x,cS,dx,exI rfl ⟨s2 _ _ x1,cs.cls,cs.no "movers" (by decide),by (show 1<1000;decide),?_⟩⟩;obtain⟨D,g3,f3,x3⟩:=Z5 (H:=H2) (x:=x) (cS:=cS) (dx:=dx) (f:="movers") (v:=V.ref m) (fs:=[("place",.int i)]) (fs':=[("place",.int i),("movers",.ref m)]) rfl;rw[g3];have F3:w6 [x] H D:=(f1.trans (y4.frame s2)).trans f3;have m3:=f3.keep m2 A;refine λd y=>exI rfl ⟨z4,[(Sum.inl (i:Int),V.int 0)],rfl,(by show 1<=15;decide),?_⟩;have R:y4 D (upd (upd D d (.dK [])) d (.dK (W6 [] [(Sum.inl (i:Int),V.int 0)]))):=λb o h=>by
  have J:=z9 h y;rw[z6 J,z6 J];exact h
 have d4:(upd (upd D d (.dK [])) d (.dK (W6 [] [(Sum.inl (i:Int),V.int 0)]))) d=some (.dK (kI [(i,0)])):=by rw[z4];rfl
 generalize upd (upd D d (.dK [])) d (.dK (W6 [] [(Sum.inl (i:Int),V.int 0)]))=H4 at R d4 ⊢;have M:d≠x:=λz=>by subst z;rw[x3]at y;cases y
 have dm:d≠m:=λz=>by subst z;rw[m3]at y;cases y
 refine exI rfl ⟨x,cS,dx,exI rfl ⟨R _ _ x3,cs.cls,cs.no "line_to" (by decide),by (show 2<1000;decide),?_⟩⟩;obtain⟨Y,g5,Z,x5⟩:=Z5 (H:=H4) (x:=x) (cS:=cS) (dx:=dx) (f:="line_to") (v:=V.ref d) (fs:=[("place",.int i),("movers",.ref m)]) (fs':=[("place",.int i),("movers",.ref m),("line_to",.ref d)]) rfl;rw[g5];have F5:w6 [x] H Y:=(F3.trans (y4.frame R)).trans Z;have m5:=Z.keep (R _ _ m3) A;have d5:=Z.keep d4 M;refine λe p=>exI rfl (exI rfl ⟨n,rfl,by lia,λj G r s6 ad=>⟨s6 _ _ z4,[(Sum.inl (i:Int),V.ref j)],rfl,(by show 1<=15;decide),?_⟩⟩);have aj:y4 Y G:=(y0 p _).trans s6;have te:j≠e:=λz=>by subst z;rw[z4]at r;cases r
 have L:y4 Y (upd G e (.dK (W6 [] [(Sum.inl (i:Int),V.ref j)]))):=λb o h=>by
  rw[z6 (z9 h p)];exact aj _ _ h
 have e7:(upd G e (.dK (W6 [] [(Sum.inl (i:Int),V.ref j)]))) e=some (.dK (kR [(i,0)] [j])):=by rw[z4];rfl
 have t7:(upd G e (.dK (W6 [] [(Sum.inl (i:Int),V.ref j)]))) j=some (.tup (tI (List.range n))):=by rw[z6 te];exact ad
 generalize upd G e (.dK (W6 [] [(Sum.inl (i:Int),V.ref j)]))=H7 at L e7 t7 ⊢;have T:e≠x:=λz=>by subst z;rw[x5]at p;cases p
 have em:e≠m:=λz=>by subst z;rw[m5]at p;cases p
 have ed:e≠d:=λz=>by subst z;rw[d5]at p;cases p
 have xt:j≠x:=λz=>by
  subst z;rw[z6 te,x5]at r
  cases r
 refine exI rfl ⟨x,cS,dx,exI rfl ⟨L _ _ x5,cs.cls,cs.no "back_from" (by decide),by (show 3<1000;decide),?_⟩⟩;obtain⟨N,g8,I,x8⟩:=Z5 (H:=H7) (x:=x) (cS:=cS) (dx:=dx) (f:="back_from") (v:=V.ref e) (fs:=[("place",.int i),("movers",.ref m),("line_to",.ref d)]) (fs':=[("place",.int i),("movers",.ref m),("line_to",.ref d),("back_from",.ref e)]) rfl;rw[g8];have F8:w6 [x] H N:=(F5.trans (y4.frame L)).trans I;have m8:=I.keep (L _ _ m5) A;have d8:=I.keep (L _ _ d5) M;have e8:=I.keep e7 T;have t8:=I.keep t7 xt;refine⟨(by show 0<=ge;lia),λc l=>?_⟩;have S:=y0 l (.lst []);have w9:(upd N c (.lst [])) c=some (.lst []):=z4;generalize upd N c (.lst [])=H9 at S w9 ⊢;have U:c≠x:=λz=>by subst z;rw[x8]at l;cases l
 have wm:c≠m:=λz=>by subst z;rw[m8]at l;cases l
 have wd:c≠d:=λz=>by subst z;rw[d8]at l;cases l
 have we:c≠e:=λz=>by subst z;rw[e8]at l;cases l
 refine exI rfl ⟨x,cS,dx,exI rfl ⟨S _ _ x8,cs.cls,cs.no "waiting" (by decide),by (show 4<1000;decide),?_⟩⟩;obtain⟨C,aa,t,al⟩:=Z5 (H:=H9) (x:=x) (cS:=cS) (dx:=dx) (f:="waiting") (v:=V.ref c) (fs:=[("place",.int i),("movers",.ref m),("line_to",.ref d),("back_from",.ref e)]) (fs':=[("place",.int i),("movers",.ref m),("line_to",.ref d),("back_from",.ref e),("waiting",.ref c)]) rfl;rw[aa];have W:w6 [x] H C:=(F8.trans (y4.frame S)).trans t;refine exI rfl ⟨x,cS,dx,exI rfl ⟨al,cs.cls,cs.no "looked_at" (by decide),by (show 5<1000;decide),?_⟩⟩;obtain⟨g,ab,u,am⟩:=Z5 (H:=C) (x:=x) (cS:=cS) (dx:=dx) (f:="looked_at") (v:=V.int 0) (fs:=[("place",.int i),("movers",.ref m),("line_to",.ref d),("back_from",.ref e),("waiting",.ref c)]) (fs':=[("place",.int i),("movers",.ref m),("line_to",.ref d),("back_from",.ref e),("waiting",.ref c),("looked_at",.int 0)]) rfl;rw[ab];have X:w6 [x] H g:=W.trans u;have k:∀{b:Addr} {o:HO},N b=some o->b≠x->g b=some o:=λh J=>u.keep (t.keep (S _ _ h) J) J;have ak:g c=some (.lst []):=u.keep (t.keep w9 U) U;have ae:H d=none:=F3.free y M;have ag:H m=none:=f1.free O A;have af:H e=none:=F5.free p T;have ah:H c=none:=F8.free l U;refine q ⟨x,m,d,e,c⟩ g rfl ?_ ?_ X ⟨⟨dx,am⟩,k m8 A,k d8 M,⟨[j],k e8 T,.cons ?_ .nil⟩,⟨[],ak,.nil⟩⟩
 .simp only[StA.all,aS,ax,aY,not_or,or_false,bW,not_false_eq_true,cW,and_true];exact⟨⟨Ne.symm A,Ne.symm M,Ne.symm T,Ne.symm U⟩,⟨Ne.symm dm,Ne.symm em,Ne.symm wm⟩,⟨Ne.symm ed,Ne.symm wd⟩,Ne.symm we⟩
 .intro a ha ac;simp only[StA.all,ax,aY,or_false,bW]at ha;rcases ha with h|h|h|h|h
  .exact absurd h ac
  .rw[h];exact ag
  .rw[h];exact ae
  .rw[h];exact af
  .rw[h];exact ah
 .show g j=some (.tup (tI (TM.bk n (List.range n))));rw[TM.bk_still];exact k t8 xt
theorem ChS.new_at {a:Nat->List Nat}(n j:Nat):(ChS.new n a).atS j=if j<n then⟨[],[(j,0)],[],0⟩ else⟨[],[],[],0⟩:=by
 unfold ChS.atS ChS.new;rw[ah,al];by_cases h:j<n
 .rw[aZ h,if_pos h];rfl
 .rw[aQ (by rw[aU];lia),if_neg h];rfl
theorem ChS.new_mv {a:Nat->List Nat}(n j:Nat):((ChS.new n a).atS j).mv=[]:=by
 rw[ChS.new_at];by_cases h:j<n
 .rw[if_pos h]
 .rw[if_neg h]
theorem ChS.new_wt {a:Nat->List Nat}(n j:Nat):((ChS.new n a).atS j).wt=[]/\((ChS.new n a).atS j).lk=0:=by
 rw[ChS.new_at];by_cases h:j<n
 .rw[if_pos h];exact⟨rfl,rfl⟩
 .rw[if_neg h];exact⟨rfl,rfl⟩
theorem ChS.new_nomv {sr:Nat->List Nat}(n j:Nat)(s:List Nat):¬(ChS.new n sr).chn.mv j s:=λ⟨k,hk,_⟩=>by
 rw[ChS.new_mv]at hk
 cases hk
theorem ChS.new_ring {a:Nat->List Nat}(h:j<n):(ChS.new n a).chn.ring j=[j]:=by
 show((ChS.new n a).atS j).to.map Prod.fst=[j];rw[ChS.new_at,if_pos h];rfl
theorem ChS.new_up {a:Nat->List Nat}(h:j<n)(p:Nat):(ChS.new n a).chn.up j p=List.range n:=by
 show(ChS.new n a).md.getD ((atN ((ChS.new n a).atS j).to p).getD 0) []=_;have e:(atN ((ChS.new n a).atS j).to p).getD 0=0:=by
  rw[ChS.new_at,if_pos h];unfold atN;by_cases q:j=p
  .rw[cY (by simpa using q)];rfl
  .rw[cZ (by simpa using q)];rfl
 rw[e];rfl
theorem ChS.new_inv {r:Nat->List Nat}(n:Nat):(ChS.new n r).Inv n where
 fine:=by
  refine⟨⟨λt q=>?_,λs d x a=>?_,λs d k o=>?_⟩,rfl,dE,rfl⟩
  .rw[aq.mp q];exact TM.IsT.range n
  .obtain⟨i,hi,rfl⟩:=az.mp d;rw[aq.mp a];exact⟨cr.mp hi,dE⟩
  .obtain⟨i,hi,rfl⟩:=az.mp d
   cases o
 bks:=by
  refine⟨λi k h=>?_,λi l t h1 h2=>?_⟩
  .have h:atN [(0,0)] i=some k:=h;have c:=V2 h;have e:=aq.mp c;have f:i=0:=congrArg Prod.fst e;have g:k=0:=congrArg Prod.snd e;subst f;subst g;refine⟨dE,dE,?_⟩;show List.range n=TM.bk n (List.range n);rw[TM.bk_still]
  .have h1:[TM.Ln.still][i]?=some l:=h1;have h2:[List.range n][i]?=some t:=h2
   match i,h1,h2 with
   | 0,h1,h2 =>
    cases h1
    cases h2
    rfl
 len:=by show((List.range n).map _).length=n;rw[ae,aU]
 ok:=by
  refine⟨λj s h=>absurd h (ChS.new_nomv n j s),λj s h=>absurd h (ChS.new_nomv n j s),λj s h=>absurd h (ChS.new_nomv n (j+1) s),λj s _=>ChS.new_nomv n j s,λj h=>?_,λj p h b=>?_,λj h=>?_,λj p h b=>?_,λj p h b=>?_,λj h=>ChS.new_up h j⟩
  .rw[ChS.new_ring h];simp
  .rw[ChS.new_ring h]at b;rw[aq.mp b];exact h
  .rw[ChS.new_ring h];simp
  .rw[ChS.new_up h];exact .one
  .rw[ChS.new_ring h]at b;rw[ChS.new_up h,TM.still_get h,aq.mp b]
 lk:=λj=>by rw[(ChS.new_wt n j).2];exact aG _
 wl:=λj=>by rw[(ChS.new_wt n j).1,ChS.new_mv];simp
 wt:=λj p m _ c=>by rw[ChS.new_mv]at c;cases c
 wt':=λj x a=>by rw[(ChS.new_wt n j).1]at a;cases a
 good:=λj x a=>by rw[(ChS.new_wt n j).1,fj]at a;cases a
 ind:=λj=>by
  rw[ChS.new_mv];intro i s h;simp at h
theorem ChS.new_done {a:Nat->List Nat}(n j:Nat):(ChS.new n a).Done j:=by
 unfold ChS.Done;rw[(ChS.new_wt n j).1,(ChS.new_wt n j).2];rfl
def zu5 (cC cB cS:Addr):Sp:=λvs H Q _=>∃(x dx:Addr) (n:Nat),vs=[.ref x,.int n]/\H x=some (.ins cC dx [])/\n<=60 /\
 ∀(A:ChA) (H':Hp),A.c=x->(∀a∈A.all,a≠x->H a=none)->w6 [x] H H'->(∀sr:Nat->List Nat,u5 cC cB cS n H' A (ChS.new n sr))->Q .non H'
theorem zg8:x0 ["self","many"] ["self","many"] (y6 T1):=scq
theorem zw5 (F:Fun K "__init__" "Chain.__init__" T1 f fd)(B:Blt mg)(cc:m9 K cC Z1)(KB:zw0 P w K mg base 2 cB "Book" ["self","many"] (yy2 cB))(KT:zw0 P w K mg base 2 cS "Step" ["self","place","many"] (yy7 cS)):u7 P w K mg base CX0 4 f fd ["self","many"] (zu5 cC cB cS):=by
 refine F.ok zg8 (λvs H Q E h=>?_) (λcn Ar outer s H vs Q E hr h=>?_)
 .obtain⟨x,dx,n,rfl,_⟩:=h;rfl
 obtain⟨x,dx,n,rfl,hx,hn,q⟩:=h;have hz:=W5;refine⟨_,z7 (W8 (pv 0) (J8 KB hr rfl (z0 (pv 1) z5)) rfl)
  (z8 (W8 (pv 0) (b6 [1] ["place","many"] rfl (T0 rfl B.range (z0 (pv 1) z5)) (λ_ _ _ _=>J8 KT hr rfl (z0 (pv 0) (z0 (pv 1) z5)))) rfl)),?_⟩
 refine exI rfl (λb R hb br hne=>⟨b,R,n,rfl,z4,hn,λll lm d H1 M W X hd fr bk=>⟨rfl,?_⟩⟩);have s0:y4 H (upd (upd H R (.own b)) b (.ins cB R [])):=λc o h=>by
  rw[z6 (z9 h hb),z6 (z9 h br)];exact h
 have r:∀{c:Addr},(upd (upd H R (.own b)) b (.ins cB R [])) c=none->H c=none:=λ{c} h=>s0.free h;have cb:∀{c:Addr},(upd (upd H R (.own b)) b (.ins cB R [])) c=none->c≠b:=λ{c} h z=>by
  rw[z,z4]at h
  cases h
 have s1:y4 H H1:=λc o h=>fr c o (by simpa using z9 h hb) (s0 _ _ h);have xb:b≠x:=λz=>by subst z;rw[hx]at hb;cases hb
 refine exI rfl ⟨x,cC,dx,[],rfl,s1 _ _ hx,cc.cls,cc.no "book" (by decide),by decide,?_⟩;obtain⟨H2,g2,f2,x2⟩:=Z5 (H:=H1) (x:=x) (cS:=cC) (dx:=dx) (f:="book") (v:=V.ref b) (fs:=[]) (fs':=[("book",.ref b)]) rfl;rw[g2];have F2:w6 [x] H H2:=(y4.frame s1).trans f2;have xl:ll≠x:=λz=>by have:=r W;rw[z,hx]at this;cases this
 have xm:lm≠x:=λz=>by have:=r X;rw[z,hx]at this;cases this
 have xd:d≠x:=λz=>by have:=r hd;rw[z,hx]at this;cases this
 obtain⟨N,g⟩:∃N:ChA,N=⟨x,b,ll,lm,d,x,[]⟩:=⟨_,rfl⟩;have bh:=λsr=>bk N sr (by rw[g]) (by rw[g]) (by rw[g]) (by rw[g]);have C:N.b=b:=by rw[g]
 have m:N.ll=ll:=by rw[g]
 have p:N.lm=lm:=by rw[g]
 have k:N.d=d:=by rw[g]
 have keep:∀{O:Hp},w6 [x] H1 O->∀sr:Nat->List Nat,U6 cB O N (ChS.new n sr):=λ{O} u sr=>by
  obtain⟨⟨ah,h1⟩,⟨Z,h2,bn⟩,⟨bx,h3,bo⟩,h4,h5⟩:=id (bh sr);have bv:=s1 _ _ hx;have kt:∀{c:Addr} {xs:List V},H1 c=some (.tup xs)->O c=some (.tup xs):=λ{c xs} e=>u.keep e (λz=>by subst z;rw[bv]at e;cases e);exact⟨⟨ah,u.keep h1 (by rw[C];exact xb)⟩,⟨Z,u.keep h2 (by rw[m];exact xl),Paired.imp' (λ_ _ z=>kt z) bn⟩,⟨bx,u.keep h3 (by rw[p];exact xm),Paired.imp' (λ_ _ z=>kt z) bo⟩,u.keep h4 (by rw[k];exact xd),h5⟩
 have G:=keep f2 λ_=>[];refine exI rfl ⟨(n:Int),rfl,by lia,by lia,?_⟩;rw[show((n:Int)).toNat=n by lia];refine ze7 (J:=Itr 0 n) StA.a StA.all (λH i b=>Z8 cS n [List.range n] H b i ⟨[],[(i,0)],[],0⟩) (n:=n) (by lia) (λO H4 D xs i b st I fr bp=>st.frame fr λy Y=>?_) (λ_ _=>af _) (λi _ hi _=>hi) ?_ ?_
 .rw[aq.mp Y];exact⟨bp,λys z=>by rw[I]at z;cases z⟩
 .rintro i O v H4 hi s3 ⟨rfl,rfl⟩;refine⟨rfl,λ_ _ _ _=>?_⟩;rw[show(0:Int)+(i:Int)=(i:Int) by lia];refine exI rfl (exI rfl (λy dy Y ap cf=>⟨y,dy,i,n,rfl,z4,hn,λA H5 hA nd free bm st=>⟨rfl,λc o h=>?_,A,by rw[hA],st,nd,λa t=>⟨?_,?_⟩⟩⟩))
  .exact bm c o (by simpa using z9 h Y) (by rw[z6 (z9 h Y),z6 (z9 h ap)];exact h)
  .by_cases e:a=y
   .rw[e];exact Y
   .have:=free a t e;rw[z6 e]at this;by_cases e2:a=dy
    .rw[e2];exact ap
    .rwa [z6 e2]at this
  .obtain⟨⟨co,h1⟩,h2,h3,⟨bs,h4,_⟩,⟨ws,h5,_⟩⟩:=st;simp only[StA.all,ax,aY,or_false,bW]at t;rcases t with e|e|e|e|e <;> rw[e]
   .exact⟨_,h1⟩
   .exact⟨_,h2⟩
   .exact⟨_,h3⟩
   .exact⟨_,h4⟩
   .exact⟨_,h5⟩
 .intro D O bs I s3 hl an bu as j;have S:D≠x:=λz=>by subst z;rw[x2]at I;cases I
  refine exI rfl ⟨x,cC,dx,exI rfl ⟨s3 _ _ x2,cc.cls,cc.no "steps" (by decide),by (show 1<1000;decide),?_⟩⟩;obtain⟨H4,g4,f4,x4⟩:=Z5 (H:=O) (x:=x) (cS:=cC) (dx:=dx) (f:="steps") (v:=V.ref D) (fs:=[("book",.ref b)]) (fs':=[("book",.ref b),("steps",.ref D)]) rfl;rw[g4];have F4:w6 [x] H H4:=(F2.trans (y4.frame s3)).trans f4;have bi:=keep ((f2.trans (y4.frame s3)).trans f4);have am:H2 b≠none:=λz=>by
   obtain⟨ah,h1⟩:=G.b;rw[C,z]at h1
   cases h1
  have L:H2 ll≠none:=λz=>by
   obtain⟨Z,h1,_⟩:=G.ll;rw[m,z]at h1
   cases h1
  have ar:H2 lm≠none:=λz=>by
   obtain⟨Z,h1,_⟩:=G.lm;rw[p,z]at h1
   cases h1
  have ao:H2 d≠none:=λz=>by
   have h1:=G.d;rw[k,z]at h1
   cases h1
  have av:H2 x≠none:=λz=>by rw[x2]at z;cases z
  refine q ⟨x,b,ll,lm,d,D,bs⟩ H4 rfl ?_ F4 λsr=>⟨?_,⟨dx,x4⟩,?_,f4.keep hl S,⟨an,?_⟩,λi a s t hs=>?_⟩
  .intro a t aj;simp only[ChA.all,aH,ax,aY,or_false,bW]at t;rcases t with (e|e|e|e|e|e)|e
   .exact absurd e aj
   .rw[e];exact hb
   .rw[e];exact r W
   .rw[e];exact r X
   .rw[e];exact r hd
   .rw[e];exact F2.free I S
   .obtain⟨l,U,L⟩:=cu.mp e;obtain⟨b',T,rfl⟩:=az.mp U;exact F2.free (j b' T a L).1 aj
  .refine bz.mpr ⟨?_,as,λa t c hc e=>?_⟩
   .simp only[aS,ax,aY,not_or,or_false,bW,not_false_eq_true,cW,and_true]at M ⊢;refine⟨⟨Ne.symm xb,Ne.symm xl,Ne.symm xm,Ne.symm xd,Ne.symm S⟩,⟨Ne.symm (cb W),Ne.symm (cb X),Ne.symm (cb hd),λz=>am (z ▸ I)⟩,⟨M.1.1,M.1.2,λz=>L (z ▸ I)⟩,⟨M.2,λz=>ar (z ▸ I)⟩,λz=>ao (z ▸ I)⟩
   .subst e;obtain⟨l,U,bt⟩:=cu.mp hc;obtain⟨b',T,rfl⟩:=az.mp U;obtain⟨h1,h2⟩:=j b' T a bt;simp only[ax,aY,or_false,bW]at t;rcases t with e|e|e|e|e|e
    .rw[e]at h1;exact av h1
    .rw[e]at h1;exact am h1
    .rw[e]at h1;exact L h1
    .rw[e]at h1;exact ar h1
    .rw[e]at h1;exact ao h1
    .exact h2 e
  .obtain⟨h1,h2,h3,h4,h5⟩:=bi sr;rw[C,m,p,k]at h1;rw[m]at h2;rw[p]at h3;rw[k]at h4;exact⟨h1,h2,h3,h4,h5⟩
  .show((List.range n).map _).length=n;rw[ae,aU]
  .have hi:i<n:=by rw[←an];exact(ag.mp t).1
   have hs:((List.range n).map λi=>(⟨[],[(i,0)],[],0⟩:StS))[i]?=some s:=hs;rw[al,aZ hi]at hs
   cases hs
   have bw:x∉a.all:=λz=>av (j a (au t) x z).1;refine(bu i a t).frame f4 λy Y=>?_;rw[aq.mp Y];exact⟨bw,λxs z=>by rw[s3 _ _ x2]at z;cases z⟩
theorem xe7 {t:List Nat}(h:TM.IsT n t)(h1:1<=n)(a:n<=60):c9 (.tuple (t.map λ(x:Nat)=>PyData.int x))=true:=by
 have b:=h.length;have c:zb7 (t.map λ(x:Nat)=>PyData.int x)=t.map λ(x:Nat)=>(x:Int):=by
  clear h b
  induction t with
  | nil=>rfl
  | cons x r ih =>
   show(x:Int)::zb7 (r.map λ(x:Nat)=>PyData.int x)=(x:Int)::r.map λ(x:Nat)=>(x:Int);rw[ih]
 have d:yx9 (t.map λ(x:Nat)=>(x:Int))=yl5 n:=by
  refine(ym2 ?_ ?_).symm
  .exact(List.Perm.map (λ(x:Nat)=>(x:Int)) (show t.Perm (List.range n) from h)).symm
  .unfold yl5;exact bx.mpr ((List.pairwise_lt_range (n:=n)).imp λh=>by lia)
 have e:(t.map λ(x:Nat)=>PyData.int x).all isW=true:=by
  rw[eL];exact bI.mpr λ_ _=>rfl
 show((decide (1<=(t.map λ(x:Nat)=>PyData.int x).length)&&decide ((t.map λ(x:Nat)=>PyData.int x).length<=60))&&((t.map λ(x:Nat)=>PyData.int x).all isW&&decide (yx9 (zb7 (t.map λ(x:Nat)=>PyData.int x))=yl5 (t.map λ(x:Nat)=>PyData.int x).length)))=true;rw[c,d,e,ae,b,decide_eq_true h1,decide_eq_true a,decide_eq_true rfl];rfl
theorem ChS.Backs.told {S:ChS}(b:S.Backs n)(f:S.ln.length=S.md.length)(h:S.src k=t):(S.put (.told k) t).Backs n:=by
 refine⟨λi d h=>?_,b.mks.put f (l:=.told k) h.symm⟩;obtain⟨h1,h2,c⟩:=b.bk i d h;have a:(S.put (.told k) t).md=S.md++[t]:=rfl;refine⟨by rw[a,ao];lia,by rw[a,ao];lia,?_⟩;rw[a,e9 h2,e9 h1,c]
structure ChS.Full (S:ChS) (c:Nat):Prop where
 ln:S.ln.length<=3*S.looks+c
 bl:S.bl.length<=S.looks+c
structure ChS.Set (n:Nat) (S:ChS):Prop where
 inv:S.Inv n
 done:∀i,i<n->S.Done i
def yt6 (cC cB cS:Addr):Sp:=λvs H Q _=>∃(A:ChA) (S:ChS) (n c k:Nat) (tr:Addr) (t:List Nat),vs=[.ref A.c,.int k,.ref tr]/\u5 cC cB cS n H A S/\S.Set n/\0<n/\n<=60/\c<1000/\S.Full c/\H tr=some (.tup (tI t))/\TM.IsT n t/\(¬TM.Grp n (S.chn.mv 0) t->S.src k=t) /\
 ∀(b:Bool) (S':ChS) (H':Hp),w6 A.all H H'->u5 cC cB cS n H' A S'->S'.Set n->S'.src=S.src->S'.Full (c+1)->(∀x,TM.Grp n (S'.chn.mv 0) x↔TM.Grp n (λz=>S.chn.mv 0 z∨z=t) x)->(b=false↔TM.Grp n (S.chn.mv 0) t)->Q (.bl b) H'
theorem zx9:x0 ["self","number","maker"] ["self","number","maker"] (y6 G8):=scq
theorem zw7 (F:Fun K "take" "Chain.take" G8 f fd)(B:Blt mg)(cc:m9 K cC Z1)(cb:m9 K cB zb5)(cs:m9 K cS M0)(MP:b9 P w K mg base 1 cB "put" ["self","line","turning"] (yy6 cB))(ar:b9 P w K mg base 1 cS "put_mover" ["self","mover"] (yt4 cS))
  (MH:b9 P w K mg base 3 cC "holds" ["self","turning","level"] (za4 cC cB cS)) (MS:b9 P w K mg base 5 cC "settle" ["self"] (yn0 cC cB cS)):u7 P w K mg base CX0 6 f fd ["self","number","maker"] (yt6 cC cB cS):=by
 refine F.ok zx9 (λvs H Q E h=>?_) (λcf Ar outer sh H vs Q E hr h=>?_)
 .obtain⟨A,S,n,c,k,tr,t,rfl,_⟩:=h;rfl
 obtain⟨A,S,n,c,k,tr,t,rfl,I,st,o,X,hc,d,ad,tT,ab,q⟩:=h;have r:=st.inv;have hz:=W5;obtain⟨cg,bc⟩:=I.c;refine⟨_,z7 (n4 (Z4 (Z3 cc.cls MH hr (pv 0) (z0 (pv 2) (z0 y8 z5)))) (z8 (v0 Y3)) u4)
  (z7 (i5 (Z3 cs.cls ar hr (p9 p0 (y9 (pv 0) rfl) y8 (λ_ _=>rfl)) (z0 (Z3 cb.cls MP hr (y9 (pv 0) rfl) (z0 (P9 (z0 W7 (z0 (pv 1) z5))) (z0 (pv 2) z5))) z5)))
  (z7 (i5 (U9 cc.cls MS hr (pv 0)))
  (z8 (v0 Y3)))),?_⟩
 refine exI rfl (Z6 bc rfl (exI rfl ⟨A,S,n,0,tr,t,rfl,I,r.fine.wl,ad,tT,aG _,X,λH1 s1=>exI rfl ?_⟩));have Y:=r.holds (j:=0) (aG _) (λi _ hi=>st.done i hi) tT (TM.Fix.zero t);have hS:∀z,S.chn.mv 0 z->TM.IsT n z:=r.ok.mvT 0;have U:∀z,(S.chn.mv 0 z∨z=t)->TM.IsT n z:=λz h=>h.elim (hS z) λe=>by rw[e];exact tT
 cases hb:(P0 n S.md (S.st.drop 0) 0 t []).isSome with
 | true =>
  have D:=Y.mp hb;refine i9 ?_;refine q false S H1 (y4.frame s1) (I.same s1) st rfl ⟨by have:=d.ln;lia,by have:=d.bl;lia⟩ (λx=>⟨λh=>TM.Grp.mono U (λz hz=>TM.Grp.of U (.inl hz)) h,λh=>TM.Grp.mono hS (λz hz=>?_) h⟩) ⟨λ_=>D,λ_=>rfl⟩;rcases hz with h|h
  .exact TM.Grp.of hS h
  .rw[h];exact D
 | false =>
  have D:¬TM.Grp n (S.chn.mv 0) t:=λh=>by rw[Y.mpr h]at hb;cases hb
  refine o0 ?_;have u:=I.same s1;obtain⟨bq,W⟩:=u.c;obtain⟨bp,ba⟩:=u.bk.b;have v:0<S.st.length:=by rw[r.len];exact o
  obtain⟨a,L⟩:∃a,A.st[0]?=some a:=⟨_,aa (by rw[I.len.1];exact o)⟩;have hs:=ChS.get_at v;have bi:=u.st 0 a _ L hs;obtain⟨bs,Z⟩:=bi.a;have ga:atI (A.st.map λs=>V.ref s.a) 0=some (V.ref a.a):=o8 (j:=0) (by rw[al,L];rfl);have ag:=ChA.head_nd I.nd;simp only[aS,ax,aY,not_or,or_false]at ag;have bh:A.ll≠A.lm:=ag.2.2.1.1;have af:=ChA.step_nd I.nd L;simp only[StA.all,aS,ax,aY,not_or,or_false]at af;have cm:=r.looks_le X;have fl:=d.ln;have fb:=d.bl;refine exI rfl (p7 cc W rfl (ixI (SqL.of u.l) ga (Z6 Z rfl ?_)));refine exI rfl (p7 cc W rfl (Z6 ba rfl (exI rfl ⟨(by show 2<=ge;lia),λlr be=>?_⟩)));have s2:=y0 be (.tup [V.str "told",V.int k]);have el:(upd H1 lr (.tup [V.str "told",V.int k])) lr=some (.tup (lnV (.told k))):=z4;generalize upd H1 lr (.tup [V.str "told",V.int k])=H2 at s2 el ⊢;have M:=u.same s2;refine exI rfl ⟨A,S,lr,tr,.told k,t,rfl,M.bk,bh,el,s2 _ _ (s1 _ _ ad),by lia,λH3 R av=>?_⟩;have m:=r.fine.put (l:=.told k) tT;have N:u5 cC cB cS n H3 A (S.put (.told k) t):=M.book (R.more λx p=>by simp at p ⊢;rcases p with e|e <;> simp[e]) av rfl (λs hs x p=>m.at_ (r.fine.wl.to s hs x p).2);have J:=N.st 0 a _ L hs;have few:=r.few X 0;have rg:=r.ring o;have cp:=r.wt_le X o;refine⟨a,n,_,0,S.ln.length,S.atS 0,rfl,J,af.2.1.2.2,by lia,by lia,by lia,λH4 T bj=>?_⟩;have nt:∀x∈[a.m,a.w],x∈a.all/\∀xs,H3 x≠some (.tup xs):=λx p=>by
   obtain⟨cq,bf,_⟩:=J.w;rcases ax.mp p with e|p
   .rw[e];exact⟨by simp[StA.all],λxs z=>by rw[J.m]at z;cases z⟩
   .rw[aq.mp p];exact⟨by simp[StA.all],λxs z=>by rw[bf]at z;cases z⟩
  have aw:=N.step L nt T bj;obtain⟨ae,mp⟩:=r.mover o m (r.bks.told r.fine.lnl (ab D)) tT (TM.Fix.zero t) (λg D=>absurd D (by lia)) D;generalize hS4:({ S.put (.told k) t with st:=S.st.set 0 ((S.atS 0).putM S.ln.length) }:ChS)=G at ae mp;have C:u5 cC cB cS n H4 A G:=by rw[←hS4];exact aw
  have ac:G.st=S.st.set 0 ((S.atS 0).putM S.ln.length):=by rw[←hS4]
  have cl:G.looks=S.looks:=by
   have e:=zp5 (a:=(S.atS 0).putM S.ln.length) (ChS.get_at v);have e2:((S.atS 0).putM S.ln.length).lk=(S.atS 0).lk:=rfl;unfold ChS.looks;rw[ac];lia
  have cn:G.ln.length=S.ln.length+1:=by rw[←hS4];show(S.ln++[_]).length=_;rw[ao];rfl
  have cd:G.bl.length=S.bl.length:=by rw[←hS4];rfl
  have O:w6 A.all H H4:=(y4.frame (s1.trans s2)).trans ((R.all λx p=>by simp at p ⊢;rcases p with e|e <;> simp[e]).trans (T.allS L λx p=>(nt x p).1));obtain⟨br,bb⟩:=C.c;refine exI rfl (Z6 bb rfl ⟨A,G,n,c+1,rfl,C,ae,o,X,λi hi bd=>?_,by lia,by lia,by lia,λS5 H5 a' ay bg az e5 ah as au=>?_⟩)
  .have at':=ChS.atS_set ac v i;rw[if_neg (by lia)]at at';unfold ChS.Done;rw[at'];exact st.done i bd
  .refine q true S5 H5 (O.trans a') ay ⟨bg,az⟩ (ah.trans (by rw[←hS4];rfl)) ⟨as,au⟩ (λx=>?_) ⟨λz=>(by cases z),λz=>absurd z D⟩;rw[e5];have e0:G.chn.mv 0=λz=>S.chn.mv 0 z∨z=t:=by
    funext z;exact propext ((mp.emv 0 z).trans ⟨λy=>y.elim .inl λw=>.inr w.2,λy=>y.elim .inl λw=>.inr ⟨rfl,w⟩⟩)
   rw[e0]
def yt5 (cC cB cS:Addr):Sp:=λvs H Q _=>∃(A:ChA) (S:ChS) (n:Nat),vs=[.ref A.c]/\u5 cC cB cS n H A S/\S.Inv n/\n<=60/\Q (.int ((S.chn.many n n:Nat):Int)) H
theorem T7:x0 ["self","product","step"] ["self"] (y6 G0):=scq
theorem zw6 (F:Fun K "size" "Chain.size" G0 f fd)(B:Blt mg)(x:m9 K cC Z1)(cs:m9 K cS M0):u7 P w K mg base CX0 1 f fd ["self"] (yt5 cC cB cS):=by
 refine F.ok T7 (λI H Q E h=>?_) (λy J outer sh H I Q E hr h=>?_)
 .obtain⟨A,S,n,rfl,_⟩:=h;rfl
 obtain⟨A,S,n,rfl,b,u,L,q⟩:=h;obtain⟨z,o⟩:=b.c;refine⟨_,z7 (u0 (i:=1) T7.nd rfl (Or.inl rfl) y8)
  (z7 (Z9 PassesOwn.never rfl (Y8 (y9 (pv 0) rfl)) (t9 (i:=2) T7.nd rfl (Or.inl rfl))
   (z8 (ys2 (i:=1) T7.nd rfl (Or.inl rfl) (w8 zi1 rfl B.len i8 (z0 (y9 (pv 2) rfl) z5)) xx8)))
  (z8 (v0 (pv 1)))),?_⟩
 have g:(A.st.map λs=>V.ref s.a).length=n:=by rw[ae];exact b.len.1
 refine exI rfl (p7 x o rfl ⟨A.l,rfl,⟨_,SqL.of b.l⟩,V5 (K:=K) (a:=A.l) (xs:=A.st.map λs=>V.ref s.a) (λi σ m=>∃(p:Nat) (t:Option V),σ=[some (.ref A.c),some (.int p),t]/\m=H/\p*S.chn.many n (n-i)=S.chn.many n n)
  ⟨1,none,rfl,rfl,by rw[cE,dh]⟩ (λi σ m _ ⟨_,_,_,e,_⟩=>by rw[e];exact SqL.of b.l) ?_ ?_⟩)
 .rintro i v σ m k ⟨p,t,rfl,rfl,d⟩;rw[al]at k
  cases hA:A.st[i]? with
  | none=>rw[hA]at k;cases k
  | some a =>
   rw[hA]at k
   cases k
   have hi:i<n:=by rw[←b.len.1];exact(ag.mp hA).1
   have G:=ChS.get_at (S:=S) (j:=i) (by rw[u.len];exact hi);have st:=b.st i a _ hA G;obtain⟨C,r⟩:=st.a;have M:=u.ring hi;refine exI rfl (exI rfl (p7 cs r rfl ⟨a.lt,exI rfl ⟨st.lt,?_⟩⟩));rw[J3];refine⟨_,_,rfl,rfl,.inr ⟨by lia,by lia⟩,p*(S.atS i).to.length,some (V.ref a.a),?_,rfl,?_⟩
   .rw[Int.natCast_mul];rfl
   .have e:n-i=(n-(i+1))+1:=by lia
    rw[e,TM.Chn.many,show n-(n-(i+1)+1)=i by lia]at d;have D:(S.chn.ring i).length=(S.atS i).to.length:=ae _;rw[D,←Nat.mul_assoc]at d;exact d
 .rintro σ m ⟨p,t,rfl,rfl,d⟩;rw[g,bQ,TM.Chn.many,fA]at d;refine exI rfl ?_;rw[d];exact q
theorem u5.keep {A:ChA}(ch:u5 cC cB cS n H A S)(fr:w6 F H H')(j:∀y∈F,y∉A.all/\∀xs,H y≠some (.tup xs)):u5 cC cB cS n H' A S:=by
 have g:∀{b:Addr} {o:HO},H b=some o->b∈A.all->H' b=some o:=λ{b o} h r=>fr b o (λz=>(j b z).1 r) h;have q:∀{b:Addr} {xs:List V},H b=some (.tup xs)->H' b=some (.tup xs):=λ{b xs} h=>fr b _ (λz=>(j b z).2 xs h) h;have f:∀y∈[A.c,A.b,A.ll,A.lm,A.d,A.l],y∈A.all:=λy k=>by unfold ChA.all;exact aR _ k
 obtain⟨m,h1⟩:=ch.c;refine⟨ch.nd,⟨m,g h1 (f _ (by simp))⟩,⟨ch.bk.b.imp λ_ e=>g e (f _ (by simp)),ch.bk.ll.imp λ_ e=>⟨g e.1 (f _ (by simp)),Paired.imp' (λ_ _ z=>q z) e.2⟩,ch.bk.lm.imp λ_ e=>⟨g e.1 (f _ (by simp)),Paired.imp' (λ_ _ z=>q z) e.2⟩,g ch.bk.d (f _ (by simp)),ch.bk.len⟩,g ch.l (f _ (by simp)),ch.len,λi a s p t=>?_⟩;refine(ch.st i a s p t).frame fr λy k=>⟨λz=>(j y k).1 ?_,(j y k).2⟩;unfold ChA.all;exact aF _ (cu.mpr ⟨a.all,az.mpr ⟨a,au p,rfl⟩,z⟩)
def X8:List Str:=["many","makers","chain"]
structure u6 (cG cC cB cS:Addr) (n:Nat) (H:Hp) (g:Addr) (ts:List (List Nat)) (S:ChS):Prop where
 n0:0<n
 n60:n<=60
 at':∃(dx ma:Addr) (A:ChA) (mas:List Addr),H g=some (.ins cG dx [("many",.int n),("makers",.ref ma),("chain",.ref A.c)])/\H ma=some (.tup (mas.map V.ref))/\c6 H mas ts/\u5 cC cB cS n H A S
 st:S.Set n
 few:ts.length<=200
 tT:∀t∈ts,TM.IsT n t
 grp:∀x,TM.Grp n (S.chn.mv 0) x↔TM.Grp n (λz=>z∈ts) x
 src:S.src=λk=>ts.getD k []
 lnl:S.ln.length<=4000000
theorem u6.same (h:u6 cG cC cB cS n H g ts S)(s:y4 H H'):u6 cG cC cB cS n H' g ts S:=by
 obtain⟨dx,d,A,a,h1,h2,b,c⟩:=h.at';exact⟨h.n0,h.n60,⟨dx,d,A,a,s _ _ h1,s _ _ h2,b.same s,c.same s⟩,h.st,h.few,h.tT,h.grp,h.src,h.lnl⟩
theorem yi4 {S S':List Nat->Prop}(hS:∀s,S s->TM.IsT n s)(a:∀s,S' s->TM.IsT n s)(hT:TM.IsT n t)(h:∀x,TM.Grp n S x↔TM.Grp n S' x)(x:List Nat):TM.Grp n (λz=>S z∨z=t) x↔TM.Grp n (λz=>S' z∨z=t) x:=by
 have key:∀{S S':List Nat->Prop},(∀s,S s->TM.IsT n s)->(∀s,S' s->TM.IsT n s)->(∀x,TM.Grp n S x↔TM.Grp n S' x)->TM.Grp n (λz=>S z∨z=t) x->TM.Grp n (λz=>S' z∨z=t) x:=λ{S S'} hS a h g=>by
  have h2:∀s,(S' s∨s=t)->TM.IsT n s:=λs q=>q.elim (a s) λe=>by rw[e];exact hT
  refine TM.Grp.mono h2 (λs b=>?_) g;rcases b with q|q
  .exact TM.Grp.mono h2 (λz c=>TM.Grp.of h2 (.inl c)) ((h s).mp (TM.Grp.of hS q))
  .exact TM.Grp.of h2 (.inr q)
 exact⟨key hS a h,key a hS λx=>(h x).symm⟩
def yy5:Sp:=λvs H Q _=>∃(la:Addr) (n:Nat) (mas:List Addr) (ts:List (List Nat)),vs=[.int n,.ref la]/\0<n/\n<=60/\H la=some (.lst (mas.map V.ref))/\c6 H mas ts/\ts.length<=200/\(∀t∈ts,TM.IsT n t)/\∀H':Hp,y4 H H'->Q .non H'
theorem zy3:x0 ["many","makers"] ["many","makers"] (y6 E4):=scq
theorem yu5 (n:Nat):(List.replicate n true).all id=true:=by
 induction n with
 | zero=>rfl
 | succ n ih=>rw[bK,dH,ih];rfl
theorem yf4 {t:List Nat}(h:H a=some (.tup (tI t))):Dt H (.ref a) (.tuple (t.map λ(x:Nat)=>PyData.int x)):=.tup h (yc3 t)
theorem yo0 {t:List Nat}(h:TM.IsT n t)(h1:0<n)(a:n<=60):(c9 (.tuple (t.map λ(x:Nat)=>PyData.int x))&&decide ((t.map λ(x:Nat)=>PyData.int x).length=n))=true:=by
 rw[xe7 h h1 a,ae,h.length,decide_eq_true rfl];rfl
theorem zx5 (D:Def K mg "need_group" E4 ["many","makers"] f fd)(B:Blt mg)(C:p6 P w K mg base 1 "is_whole" ["thing"] N1)(KT:p6 P w K mg base 3 "is_turning_of" ["thing","many"] N0)(z:za6 mg "MOST_PLACES" (.int 60))(y:za6 mg "MOST_MAKERS" (.int 200)):u7 P w K mg base CX0 4 f fd ["many","makers"] yy5:=by
 refine D.F.ok zy3 (λO H Q E h=>?_) (λG A outer s H O Q E hr h=>?_)
 .obtain⟨m,n,a,ts,rfl,_⟩:=h;rfl
 obtain⟨m,n,a,ts,rfl,k,J,b,g,u,hT,q⟩:=h;have d:a.length=ts.length:=Paired.length g;refine⟨_,z7 (n4 (PW.pt (B3 (Y7 (Z4 (r6 C hr rfl (z0 (pv 0) z5)))) (M7 (Y7 (zt2 zs5 zs5 y8 (pv 0) (K2 z rfl)))))) (z8 K3) u4)
  (z7 (n4 (PW.pt (B3 (Y7 (Z4 (w8 Y9 rfl B.isinstance n8 (z0 (pv 1) (z0 (Q6 (v:=.ty "list") rfl B.list W1 rfl) z5))))) (M7 (p5 yk7 (w8 v1 rfl B.len i8 (z0 (pv 1) z5)) (K2 y rfl) (o6 _))))) (z8 K3) u4)
  (z8 (n4 (Y7 (Z4 (w8 (P1 rfl) rfl B.all zh9 (z0 (b6 [0] ["maker","many"] rfl (Y8 (pv 1)) (λ_ _ _ _=>r6 KT hr rfl (z0 (pv 0) (z0 (pv 1) z5)))) z5)))) (z8 K3) u4))),?_⟩
 refine exI rfl ⟨_,.int n,rfl,.int _,exI rfl (o0 (exI rfl ⟨_,_,rfl,rfl,_,rfl,?_⟩))⟩;rw[decide_eq_true (show(1:Int)<=((n:Nat):Int) by lia)];refine i9 ⟨_,_,rfl,rfl,_,rfl,?_⟩;rw[decide_eq_true (show((n:Nat):Int)<=(60:Int) by lia)];refine o0 (exI rfl ⟨_,_,_,_,rfl,D4.lst b,C6 zf3,exI rfl (o0 ?_)⟩);refine exI rfl ⟨m,exI rfl ⟨.inl (SqL.of b),_,_,rfl,rfl,_,rfl,?_⟩⟩;rw[ae,d,decide_eq_false (show ¬((ts.length:Nat):Int) > (200:Int) by lia)];refine o0 ?_;refine exI rfl ⟨m,rfl,⟨_,SqL.of b⟩,zi4 (SqL.of b) ((List.replicate a.length true).map V.bl) (by rw[ae,bo,ae]) (by rw[ae,d];exact small (by lia)) ?_ ?_⟩
 .intro i H' x M s' _ _ _ _;obtain⟨c,r,rfl⟩:=V8 M;obtain⟨t,L,j⟩:=p4 g i c r;have hi:i<a.length:=(ag.mp r).1;have e:=hT t (au L);refine exI rfl (exI rfl ⟨.ref c,_,n,rfl,yf4 (s' _ _ j),λds I=>?_,λp o=>⟨o,?_⟩⟩)
  .cases I
   rw[ae,e.length];lia
  .show((List.replicate a.length true).map V.bl)[i]?=some (V.bl (c9 (.tuple (t.map λ(x:Nat)=>PyData.int x))&&decide ((t.map λ(x:Nat)=>PyData.int x).length=n)));rw[yo0 e k J,al,bS,if_pos hi];rfl
 .intro N p _ o l;refine⟨N,exI rfl ⟨SqL.of l,exI rfl ?_⟩⟩;rw[yu5];exact o0 (q p o)
def zu7 (cG cC cB cS:Addr):Sp:=λvs H Q _=>∃(x dx la:Addr) (n:Nat) (mas:List Addr) (ts:List (List Nat)),vs=[.ref x,.int n,.ref la]/\H x=some (.ins cG dx [])/\0<n/\n<=60/\H la=some (.lst (mas.map V.ref))/\c6 H mas ts/\ts.length<=200/\(∀t∈ts,TM.IsT n t) /\
 ∀(S:ChS) (H':Hp),w6 [x] H H'->u6 cG cC cB cS n H' x ts S->(∀(y:Addr) (H2:Hp),H y≠none->y≠x->(∀xs,H' y≠some (.tup xs))->w6 [y] H' H2->u6 cG cC cB cS n H2 x ts S)->Q .non H'
theorem U2:x0 ["self","many","makers","number","maker"] ["self","many","makers"] (y6 T2):=scq
theorem zw8 (F:Fun K "__init__" "Group.__init__" T2 f fd)(B:Blt mg)(O:m9 K cG X8)(cc:m9 K cC Z1)(KN:p6 P w K mg base 4 "need_group" ["many","makers"] yy5)(KC:zw0 P w K mg base 4 cC "Chain" ["self","many"] (zu5 cC cB cS))
  (MT:b9 P w K mg base 6 cC "take" ["self","number","maker"] (yt6 cC cB cS)):u7 P w K mg base CX0 7 f fd ["self","many","makers"] (zu7 cG cC cB cS):=by
 refine F.ok U2 (λvs H Q E h=>?_) (λdb Ar outer sh H vs Q E hr h=>?_)
 .obtain⟨x,dx,la,n,g,ts,rfl,_⟩:=h;rfl
 obtain⟨x,dx,la,n,g,ts,rfl,hx,N,hn,Z,I,G,hT,q⟩:=h;have am:g.length=ts.length:=Paired.length I;refine⟨_,z7 (i5 (r6 KN hr rfl (z0 (pv 1) (z0 (pv 2) z5))))
  (z7 (W8 (pv 0) (pv 1) rfl)
  (z7 (W8 (pv 0) (u9 l5 rfl B.tuple f9 (z0 (pv 2) z5)) rfl)
  (z7 (W8 (pv 0) (J8 KC hr rfl (z0 (pv 1) z5)) rfl)
  (z8 (Z9 PassesOwn.never rfl (zs9 rfl B.enumerate (z0 (y9 (pv 0) rfl) z5)) (J9 rfl (i6 (t9 (i:=3) U2.nd rfl (Or.inl rfl)) (i6 (t9 (i:=4) U2.nd rfl (Or.inl rfl)) Q7)))
   (z8 (i5 (Z3 cc.cls MT hr (y9 (pv 0) rfl) (z0 (pv 3) (z0 (pv 4) z5)))))))))),?_⟩
 refine exI rfl (exI rfl ⟨la,n,g,ts,rfl,N,hn,Z,I,G,hT,λH0 s0=>?_⟩);refine exI rfl (exI rfl ⟨x,cG,dx,[],rfl,s0 _ _ hx,O.cls,O.no "many" (by decide),by decide,?_⟩);obtain⟨H1,g1,f1,x1⟩:=Z5 (H:=H0) (x:=x) (cS:=cG) (dx:=dx) (f:="many") (v:=V.int n) (fs:=[]) (fs':=[("many",.int n)]) rfl;rw[g1];have F1:w6 [x] H H1:=(y4.frame s0).trans f1;have nx:∀{b:Addr} {o:HO},H b=some o->o≠.ins cG dx []->b≠x:=λ{b o} h d z=>by
  subst z;rw[hx]at h;exact d (Option.some.inj h).symm
 have al:=F1.keep Z (nx Z (by intro z;cases z));refine exI rfl ⟨la,exI rfl (.inl ⟨SqL.of al,λu ab=>?_⟩)⟩;have s2:=y0 ab (.tup (g.map V.ref));have m2:(upd H1 u (.tup (g.map V.ref))) u=some (.tup (g.map V.ref)):=z4;generalize upd H1 u (.tup (g.map V.ref))=H2 at s2 m2 ⊢;have ax:u≠x:=λz=>by subst z;rw[x1]at ab;cases ab
 refine exI rfl ⟨x,cG,dx,exI rfl ⟨s2 _ _ x1,O.cls,O.no "makers" (by decide),by (show 1<1000;decide),?_⟩⟩;obtain⟨H3,g3,f3,x3⟩:=Z5 (H:=H2) (x:=x) (cS:=cG) (dx:=dx) (f:="makers") (v:=V.ref u) (fs:=[("many",.int n)]) (fs':=[("many",.int n),("makers",.ref u)]) rfl;rw[g3];have F3:w6 [x] H H3:=(F1.trans (y4.frame s2)).trans f3;have m3:=f3.keep m2 ax;refine exI rfl (λc dc hc ak hne=>⟨c,dc,n,rfl,z4,hn,λA H4 bm Y bj be=>⟨rfl,?_⟩⟩);have s4:y4 H3 H4:=λb o h=>bj b o (by simpa using z9 h hc) (by rw[z6 (z9 h hc),z6 (z9 h ak)];exact h);have D:∀a∈A.all,H3 a=none:=λa ha=>by
  by_cases e:a=c
  .rw[e];exact hc
  .have:=Y a ha e;rw[z6 e]at this;by_cases e2:a=dc
   .rw[e2];exact ak
   .rwa [z6 e2]at this
 subst bm;refine exI rfl ⟨x,cG,dx,exI rfl ⟨s4 _ _ x3,O.cls,O.no "chain" (by decide),by (show 2<1000;decide),?_⟩⟩;obtain⟨H5,g5,f5,x5⟩:=Z5 (H:=H4) (x:=x) (cS:=cG) (dx:=dx) (f:="chain") (v:=V.ref A.c) (fs:=[("many",.int n),("makers",.ref u)]) (fs':=[("many",.int n),("makers",.ref u),("chain",.ref A.c)]) rfl;rw[g5];have F5:w6 [x] H H5:=(F3.trans (y4.frame s4)).trans f5;have m5:=f5.keep (s4 _ _ m3) ax;have U:c6 H5 g ts:=Paired.imp' (λb t e=>F5.keep e (nx e (by intro z;cases z))) I;have xA:x∉A.all:=λz=>by
  have:=D x z;rw[x3]at this
  cases this
 have bf:u5 cC cB cS n H5 A (ChS.new n (λk=>ts.getD k [])):=(be _).keep f5 λy hy=>by
  rw[aq.mp hy];exact⟨xA,λxs z=>by rw[s4 _ _ x3]at z;cases z⟩
 have out:∀{b:Addr} {o:HO},H b=some o->b∉A.all:=λ{b o} h hb=>by
  by_cases e:b=x
  .exact xA (e ▸ hb)
  .have:=D b hb;rw[F3.keep h e]at this
   cases this
 have ar:u∉A.all:=λz=>by
  have:=D u z;rw[m3]at this
  cases this
 refine exI rfl (p7 O x5 rfl ⟨u,rfl,⟨_,SqT.of m5⟩,L8 (xs:=g.map V.ref) (λi σ L=>∃(S:ChS) (v3 v4:Option V),σ=[some (.ref x),some (.int n),some (.ref la),v3,v4]/\w6 A.all H5 L/\u5 cC cB cS n L A S/\S.Set n/\S.Full (1+i)/\i<=ts.length/\(S.src=λk=>ts.getD k [])/\∀y,TM.Grp n (S.chn.mv 0) y↔TM.Grp n (λz=>z∈ts.take i) y)
  ⟨ChS.new n (λk=>ts.getD k []),none,none,rfl,w6.refl,bf,⟨ChS.new_inv n,λi _=>ChS.new_done n i⟩,⟨by show 1<=_;lia,by show 1<=_;lia⟩,aG _,rfl,λy=>?_⟩ (λi σ L _ ⟨_,_,_,_,j,_⟩=>SqT.of (j _ _ ar m5)) ?_ ?_⟩)
 .have bu:∀s,(ChS.new n (λk=>ts.getD k [])).chn.mv 0 s↔s∈ts.take 0:=λs=>⟨λh=>absurd h (ChS.new_nomv n 0 s),λh=>by rw[cM]at h;cases h⟩;rw[show(ChS.new n (λk=>ts.getD k [])).chn.mv 0=λz=>z∈ts.take 0 from funext λs=>propext (bu s)]
 .rintro i v σ L T hv ⟨S,v3,v4,rfl,j,M,l,r,bs,p,m⟩ bp;obtain⟨tr,ao,rfl⟩:=V8 hv;obtain⟨t,ht,bx⟩:=p4 U i tr ao;have bt:i<ts.length:=(ag.mp ht).1;have an:=hT t (au ht);have s7:=y0 bp (.tup [V.int ((i:Nat):Int),V.ref tr]);refine⟨T,exI rfl ⟨SqT.of z4,rfl,_,_,rfl,_,_,rfl,rfl,?_⟩⟩;generalize upd L T (.tup [V.int ((i:Nat):Int),V.ref tr])=H7 at s7 ⊢;have ai:=M.same s7;obtain⟨dd,br⟩:=ai.c;have x7:=s7 _ _ (j _ _ xA x5);have cd:tr∉A.all:=λz=>by
   obtain⟨t0,bw,J⟩:=p4 I i tr ao;exact out J z
  have t7:=s7 _ _ (j _ _ cd bx);refine exI rfl (p7 O x7 rfl (Z6 br rfl (exI rfl (exI rfl ⟨A,S,n,1+i,i,tr,t,rfl,ai,l,N,hn,by lia,r,t7,an,(λ_=>by rw[p];show ts.getD i []=t;rw[ah,ht];rfl),λb S' H8 bk bg av aw C aj _=>?_⟩))));refine⟨S',_,_,rfl,(j.trans (y4.frame s7)).trans bk,bg,av,⟨by have:=C.ln;lia,by have:=C.bl;lia⟩,bt,aw.trans p,λy=>?_⟩;have bn:∀s,S.chn.mv 0 s->TM.IsT n s:=l.inv.ok.mvT 0;have bo:∀s,s∈ts.take i->TM.IsT n s:=λs hs=>hT s (ci hs);rw[aj y,yi4 bn bo an m y,aT,ht];have e:(λz=>z∈ts.take i++(some t).toList)=λz=>z∈ts.take i∨z=t:=by
   funext z;simp
  rw[e]
 .rintro σ L ⟨S,v3,v4,rfl,j,M,l,r,bs,p,m⟩;have R:S.ln.length<=4000000:=by
   have q1:=r.ln;have q2:=l.inv.looks_le hn;rw[ae,am]at q1;lia
  rw[ae,am,bD]at m;have x6:=j _ _ xA x5;have m6:=j _ _ ar m5;have W:c6 L g ts:=K0 U λb hb t e=>j _ _ (λz=>by
   obtain⟨i,hi,e2⟩:=bh.mp hb
   obtain⟨t0,bw,J⟩:=p4 I i b (by rw[aa hi,e2])
   exact out J z) e
  refine q S L (λb o hb h=>j b o (out h) (F5 b o hb h)) ⟨N,hn,⟨dx,u,A,g,x6,m6,W,M⟩,l,G,hT,m,p,R⟩ λy H7 hy b' ap X=>?_;obtain⟨oy,bv⟩:∃o,H y=some o:=Option.ne_none_iff_exists'.mp hy;have kt:∀{b:Addr} {xs:List V},L b=some (.tup xs)->H7 b=some (.tup xs):=λ{b xs} h=>X.keep h (λz=>ap xs (z ▸ h));exact⟨N,hn,⟨dx,u,A,g,X.keep x6 (Ne.symm b'),kt m6,Paired.imp' (λ_ _ z=>kt z) W,M.keep X λz hz=>by
   rw[aq.mp hz]
   exact⟨out bv,ap⟩⟩,l,G,hT,m,p,R⟩
def yg3 (cG cC cB cS:Addr):Sp:=λvs H Q _=>∃(g:Addr) (n:Nat) (ts:List (List Nat)) (S:ChS),vs=[.ref g]/\u6 cG cC cB cS n H g ts S/\∀(l:Addr) (mas:List Addr) (H':Hp),H l=none->y4 H H'->H' l=some (.lst (mas.map V.ref))->c6 H' mas ts->Q (.ref l) H'
theorem zy1:x0 ["self"] ["self"] (y6 F0):=scq
theorem zx0 (F:Fun K "told" "Group.told" F0 f fd)(B:Blt mg)(d:m9 K cG X8):u7 P w K mg base CX0 1 f fd ["self"] (yg3 cG cC cB cS):=by
 refine F.ok zy1 (λk H Q E h=>?_) (λc m outer sh H k Q E hr h=>?_)
 .obtain⟨g,n,ts,S,rfl,_⟩:=h;rfl
 obtain⟨g,n,ts,S,rfl,e,q⟩:=h;obtain⟨dx,j,A,a,h1,h2,i,o⟩:=e.at';refine⟨_,z8 (v0 (u9 Q4 rfl B.list W1 (z0 (y9 (pv 0) rfl) z5))),?_⟩;refine exI rfl (p7 d h1 rfl ⟨j,exI rfl ⟨.inr (SqT.of h2),λl b=>?_⟩⟩);have s1:=y0 b (.lst (a.map V.ref));exact q l a _ b s1 z4 (i.same s1)
def zp4 (cG cC cB cS:Addr):Sp:=λvs H Q _=>∃(g:Addr) (n:Nat) (ts:List (List Nat)) (S:ChS),vs=[.ref g]/\u6 cG cC cB cS n H g ts S/\Q (.int ((S.chn.many n n:Nat):Int)) H
theorem zy0:x0 ["self"] ["self"] (y6 G9):=scq
theorem zw9 (F:Fun K "size" "Group.size" G9 f fd)(B:Blt mg)(j:m9 K cG X8)(e:m9 K cC Z1)(d:b9 P w K mg base 1 cC "size" ["self"] (yt5 cC cB cS)):u7 P w K mg base CX0 2 f fd ["self"] (zp4 cG cC cB cS):=by
 refine F.ok zy0 (λo H Q E h=>?_) (λi p outer sh H o Q E hr h=>?_)
 .obtain⟨g,n,ts,S,rfl,_⟩:=h;rfl
 obtain⟨g,n,ts,S,rfl,a,q⟩:=h;obtain⟨dx,s,A,m,h1,h2,r,b⟩:=a.at';obtain⟨k,l⟩:=b.c;refine⟨_,z8 (v0 (U9 e.cls d hr (y9 (pv 0) rfl))),?_⟩;exact exI rfl (p7 j h1 rfl (Z6 l rfl ⟨A,S,n,rfl,b,a.st.inv,a.n60,q⟩))
def xv9 (cG cC cB cS:Addr):Sp:=λvs H Q _=>∃(g tr:Addr) (n:Nat) (ts:List (List Nat)) (S:ChS) (t:List Nat),vs=[.ref g,.ref tr]/\u6 cG cC cB cS n H g ts S/\H tr=some (.tup (tI t))/\TM.IsT n t/\∀(b:Bool) (H':Hp),y4 H H'->(b=true↔TM.Grp n (λz=>z∈ts) t)->Q (.bl b) H'
theorem zg9:x0 ["self","thing"] ["self","thing"] (y6 R1):=scq
theorem zs2 (F:Fun K "has" "Group.has" R1 f fd)(B:Blt mg)(m:m9 K cG X8)(p:m9 K cC Z1)(KT:p6 P w K mg base 3 "is_turning_of" ["thing","many"] N0)(o:b9 P w K mg base 3 cC "holds" ["self","turning","level"] (za4 cC cB cS)):u7 P w K mg base CX0 4 f fd ["self","thing"] (xv9 cG cC cB cS):=by
 refine F.ok zg9 (λD H Q E h=>?_) (λr G outer sh H D Q E hr h=>?_)
 .obtain⟨g,l,n,ts,S,t,rfl,_⟩:=h;rfl
 obtain⟨g,l,n,ts,S,t,rfl,a,e,b,q⟩:=h;obtain⟨dx,J,A,z,h1,h2,I,u⟩:=a.at';refine⟨_,z8 (v0 (zd1 (r6 KT hr rfl (z0 (pv 1) (z0 (y9 (pv 0) rfl) z5))) (B2 (Z3 p.cls o hr (y9 (pv 0) rfl) (z0 (pv 1) (z0 y8 z5)))))),?_⟩;refine exI rfl (exI rfl (p7 m h1 rfl ⟨.ref l,_,n,rfl,yf4 e,λds y=>?_,λH1 s1=>?_⟩))
 .cases y
  rw[ae,b.length];have:=a.n60;lia
 have d:=u.same s1;obtain⟨s,v⟩:=d.c;have k:=a.st.inv.holds (j:=0) (aG _) (λi _ hi=>a.st.done i hi) b (TM.Fix.zero t);refine⟨(c9 (.tuple (t.map λ(x:Nat)=>PyData.int x))&&decide ((t.map λ(x:Nat)=>PyData.int x).length=n)),rfl,?_⟩;rw[yo0 b a.n0 a.n60];refine i9 (exI rfl (p7 m (s1 _ _ h1) rfl (Z6 v rfl (exI rfl ⟨A,S,n,0,l,t,rfl,d,a.st.inv.fine.wl,s1 _ _ e,b,aG _,a.n60,λH2 C=>?_⟩))));exact q _ H2 (s1.trans C) (k.trans (a.grp t))
def yz3 (n:Nat)(d:PyData):Bool:=c9 d&&match d with | .tuple ds=>decide (ds.length=n)|_=>false
def xn8 (cG cC cB cS:Addr):Sp:=λvs H Q _=>∃(g:Addr) (x:V) (n:Nat) (ts:List (List Nat)) (S:ChS) (d:PyData),vs=[.ref g,x]/\u6 cG cC cB cS n H g ts S/\Dt H x d/\(∀ds,d=.tuple ds->ds.length<=1000)/\yz3 n d=false/\∀H':Hp,y4 H H'->Q (.bl false) H'
theorem zs1 (F:Fun K "has" "Group.has" R1 f fd)(B:Blt mg)(e:m9 K cG X8)(b:m9 K cC Z1)(KT:p6 P w K mg base 3 "is_turning_of" ["thing","many"] N0)(a:b9 P w K mg base 3 cC "holds" ["self","turning","level"] (za4 cC cB cS)):u7 P w K mg base CX0 4 f fd ["self","thing"] (xn8 cG cC cB cS):=by
 refine F.ok zg9 (λo H Q E h=>?_) (λc p outer sh H o Q E hr h=>?_)
 .obtain⟨g,x,n,ts,S,d,rfl,_⟩:=h;rfl
 obtain⟨g,x,n,ts,S,d,rfl,i,j,k,l,q⟩:=h;obtain⟨dx,t,A,m,h1,h2,r,s⟩:=i.at';refine⟨_,z8 (v0 (zd1 (r6 KT hr rfl (z0 (pv 1) (z0 (y9 (pv 0) rfl) z5))) (B2 (Z3 b.cls a hr (y9 (pv 0) rfl) (z0 (pv 1) (z0 y8 z5)))))),?_⟩;refine exI rfl (exI rfl (p7 e h1 rfl ⟨x,d,n,rfl,j,k,λH1 s1=>?_⟩));refine⟨yz3 n d,rfl,?_⟩;rw[l];exact o0 (q H1 s1)
theorem u7.or {P:gf}{w:gp}{K:W.Frag}{mg:Str->Option Value}{base:Heap}{k:Nat}{f:Addr}{fd:gz}{ps:List Str}{sp sp':Sp}(a:u7 P w K mg base CX0 k f fd ps sp)(b:u7 P w K mg base CX0 k f fd ps sp'):u7 P w K mg base CX0 k f fd ps (λvs H Q E=>sp vs H Q E∨sp' vs H Q E) where
 len:=λvs H Q E h=>h.elim (a.len vs H Q E) (b.len vs H Q E)
 run:=λA outer s H args us vs Q E hr I hb r h=>h.elim (a.run A outer s H args us vs Q E hr I hb r) (b.run A outer s H args us vs Q E hr I hb r)
def xn7 (cG cC cB cS:Addr):Sp:=λvs H Q E=>xv9 cG cC cB cS vs H Q E∨xn8 cG cC cB cS vs H Q E
theorem yd6 (F:Fun K "has" "Group.has" R1 f fd)(B:Blt mg)(cg:m9 K cG X8)(cc:m9 K cC Z1)(KT:p6 P w K mg base 3 "is_turning_of" ["thing","many"] N0)(MH:b9 P w K mg base 3 cC "holds" ["self","turning","level"] (za4 cC cB cS)):u7 P w K mg base CX0 4 f fd ["self","thing"] (xn7 cG cC cB cS):=u7.or (zs2 F B cg cc KT MH) (zs1 F B cg cc KT MH)
def zv4 (cC cB cS:Addr):Sp:=λvs H Q _=>∃(A:ChA) (S:ChS) (n j p:Nat) (a:StA),vs=[.ref A.c,.ref a.a,.int p]/\u5 cC cB cS n H A S/\S.Inv n/\j<n/\A.st[j]?=some a/\p∈S.chn.ring j/\∀b,H b=some (.tup (tI (S.chn.up j p)))->Q (.ref b) H
theorem zb3:x0 ["self","step","to"] ["self","step","to"] (y6 Y0):=scq
theorem zb0 (F:Fun K "turning_to" "Chain.turning_to" Y0 f fd)(B:Blt mg)(G:m9 K cC Z1)(D:m9 K cB zb5)(cs:m9 K cS M0):u7 P w K mg base CX0 1 f fd ["self","step","to"] (zv4 cC cB cS):=by
 refine F.ok zb3 (λY H Q E h=>?_) (λi C outer sh H Y Q E hr h=>?_)
 .obtain⟨A,S,n,j,p,a,rfl,_⟩:=h;rfl
 obtain⟨A,S,n,j,p,a,rfl,d,z,U,O,W,q⟩:=h;have X:(C.deeper (PyProof.Rows.envOfC "Chain.turning_to" (y6 Y0) sh.heap.objs.size f i)).units+1<cLine:=by have:=hr.units;lia
 refine⟨_,z8 (v0 (p9 p0 (y9 (y9 (pv 0) rfl) rfl) (N6 X (y9 (pv 1) rfl) (pv 2) (λ_ _=>rfl)) (λ_ _=>rfl))),?_⟩;obtain⟨J,T⟩:=d.c;obtain⟨I,R⟩:=d.bk.b;obtain⟨v,r,s⟩:=d.bk.lm;have y:=ChS.get_at (S:=S) (j:=j) (by rw[z.len];exact U);have st:=d.st j a _ O y;obtain⟨L,t⟩:=st.a;obtain⟨k,m⟩:∃k,atN (S.atS j).to p=some k:=by
  cases e:atN (S.atS j).to p with
  | some k=>exact⟨k,rfl⟩
  | none=>exact absurd W (V3.mp e)
 have o:k<S.md.length:=(z.fine.wl.to _ (au y) _ (V2 m)).2;obtain⟨x,l,u⟩:=l9 s k _ (W2 [] o);have N:atI (v.map V.ref) ((k:Nat):Int)=some (V.ref x):=o8 (by rw[al,l];rfl);have M:U5 H a.lt (kV (Sum.inl (p:Int))) (some (V.int k)):=by
  have g:=U5.k (k:=Sum.inl (p:Int)) st.lt;rwa [T9,m]at g
 refine exI rfl (p7 G T rfl (p7 D R rfl (exI rfl (p7 cs t rfl (exI rfl ⟨a.lt,exI rfl ⟨M,ixI (SqL.of r) N (q x ?_)⟩⟩)))));rw[ChS.chn_up m];exact u
def ChA.at' (A:ChA)(j:Nat):Addr:=(A.st.map λs=>s.a).getD j A.c
theorem ChA.at_of {A:ChA}{a:StA}(h:A.st[j]?=some a):A.at' j=a.a:=by
 unfold ChA.at';rw[ah,al,h];rfl
def yt3 (cC cB cS:Addr):Sp:=λvs H Q _=>∃(A:ChA) (S:ChS) (n:Nat),vs=[.ref A.c]/\u5 cC cB cS n H A S/\S.Inv n/\n<=60/\∀(l:Addr) (H':Hp),H l=none->y4 H H'->H' l=some (.lst ((TM.wide S.chn (List.range n)).map λj=>V.ref (A.at' j)))->Q (.ref l) H'
theorem zb2:x0 ["self"] ["self"] (y6 W9):=scq
theorem za9 (F:Fun K "base_steps" "Chain.base_steps" W9 f fd)(B:Blt mg)(o:m9 K cC Z1)(cs:m9 K cS M0):u7 P w K mg base CX0 1 f fd ["self"] (yt3 cC cB cS):=by
 refine F.ok zb2 (λI H Q E h=>?_) (λp J outer sh H I Q E hr h=>?_)
 .obtain⟨A,S,n,rfl,_⟩:=h;rfl
 obtain⟨A,S,n,rfl,b,G,z,q⟩:=h;obtain⟨r,v⟩:=b.c;refine⟨_,z8 (v0 (yr8 [] ["step"] rfl (Y8 (y9 (pv 0) rfl)) (λ_ _ _ _=>p5 yk7 (w8 zi1 rfl B.len i8 (z0 (y9 (pv 0) rfl) z5)) y8 (o6 _)) (λ_ _ _ _=>pv 0))),?_⟩;have d:(A.st.map λs=>V.ref s.a).length=n:=by rw[ae];exact b.len.1
 refine exI rfl (p7 o v rfl ⟨A.l,rfl,⟨_,SqL.of b.l⟩,zl5 (n:=n) (λj=>decide (1<(S.chn.ring j).length)) (λj=>V.ref (A.at' j)) (aD z (by decide)) (λH' s'=>?_) (λi H' hi s'=>?_) ?_ ?_⟩)
 .exact⟨_,SqL.of (s' _ _ b.l),by rw[d];exact af _⟩
 .exact⟨A.st.map λs=>V.ref s.a,_,SqL.of (s' _ _ b.l),aa (by rw[d];exact hi)⟩
 .rintro i H' x H2 hi s' ⟨rfl,D⟩;have k:=D _ (SqL.of (s' _ _ b.l));obtain⟨a,e⟩:∃a,A.st[i]?=some a:=⟨_,aa (by rw[b.len.1];exact hi)⟩;rw[al,e]at k
  cases k
  have C:=ChS.get_at (S:=S) (j:=i) (by rw[G.len];exact hi);have st:=b.st i a _ e C;obtain⟨t,g⟩:=st.a;refine⟨rfl,λ_ _ _ _=>?_⟩;refine exI rfl (p7 cs (s' _ _ g) rfl ⟨a.lt,exI rfl ⟨s' _ _ st.lt,_,_,rfl,rfl,_,rfl,?_,y4.refl _,λ_=>?_⟩⟩)
  .rw[J3];show decide (1<(((S.atS i).to.length:Nat):Int))=decide (1<((S.atS i).to.map Prod.fst).length);rw[ae];exact decide_eq_decide.mpr (by lia)
  .exact exI rfl ⟨y4.refl _,by rw[ChA.at_of e]⟩
 .intro m H' u s' y;exact q m H' u s' y
theorem xh8 (t:List Nat):(TM.iN t).map V.int=tI t:=by
 unfold TM.iN tI;rw[bF];rfl
theorem wd5 {i p:Nat}(h:t[i]?=some p):(TM.iN t)[i]?=some ((p:Nat):Int):=by
 unfold TM.iN;rw[al,h];rfl
theorem xr4 {i:Nat}(h:(TM.iN t)[i]?=some z):∃y:Nat,t[i]?=some y/\z=(y:Int):=by
 unfold TM.iN at h;rw[al]at h
 cases e:t[i]? with
 | none=>rw[e]at h;cases h
 | some y=>rw[e]at h;cases h;exact⟨y,rfl,rfl⟩
theorem xj6 (h:m<=60 ^ 60):((m:Nat):Int).natAbs.log2<9000:=by
 rw[Int.natAbs_natCast];by_cases a:m=0
 .subst a;decide
 .rw[Nat.log2_lt a];exact bC h (by decide +kernel)
theorem u6.few' {S:ChS}(h:u6 cG cC cB cS n H g ts S):S.chn.many n n<=60 ^ 60:=by
 obtain⟨L,h1,h2,a⟩:=h.st.inv.ok.all n (af _) λj _ b=>h.st.inv.shut (h.st.done j b);rw[←a];refine aD (TM.turnings_few (n:=n) h1 λt c=>((h2 t).mp c).isT (h.st.inv.ok.mvT _)) ?_;exact aD (Nat.pow_le_pow_left h.n60 n) (dW (by decide) h.n60)
theorem zi8 {C:TM.Chn}:∀(js:List Nat) (i:Nat),(∀j∈js,0<(C.ring j).length)->C.manyL (js.drop i)<=C.manyL js/\0<C.manyL (js.drop i)
 | [],i,_=>by rw[List.drop_nil];exact⟨af _,dE⟩
 | j::js,0,h=>by
  have ih:=zi8 js 0 λi hi=>h i (ar _ hi)
  exact⟨af _,Nat.mul_pos (h j aw) ih.2⟩
 | j::js,i+1,h=>by
  have ih:=zi8 js i λi hi=>h i (ar _ hi)
  refine⟨aD ih.1 ?_,ih.2⟩
  exact Nat.le_mul_of_pos_left _ (h j aw)
def xw1 (cG cC cB cS:Addr):Sp:=λvs H Q _=>∃(g:Addr) (n k:Nat) (ts:List (List Nat)) (S:ChS),vs=[.ref g,.int k]/\u6 cG cC cB cS n H g ts S/\k<S.chn.many n n/\∀(r:Addr) (x:List Nat) (H':Hp),y4 H H'->H' r=some (.tup (tI x))->S.chn.NthL (List.range' 0 n) k (List.range n) x->Q (.ref r) H'
theorem b7:x0 ["self","k","size","here","step","goals","goal"] ["self","k"] (y6 B5):=scq
theorem yd7 (F:Fun K "nth" "Group.nth" B5 f fd)(B:Blt mg)(cg:m9 K cG X8)(cc:m9 K cC Z1)(cs:m9 K cS M0)(MS:b9 P w K mg base 2 cG "size" ["self"] (zp4 cG cC cB cS))(KW:p6 P w K mg base 1 "is_whole" ["thing"] N1)(KS:p6 P w K mg base 1 "still" ["many"] zh6)(MB:b9 P w K mg base 1 cC "base_steps" ["self"] (yt3 cC cB cS))(MT:b9 P w K mg base 1 cC "turning_to" ["self","step","to"] (zv4 cC cB cS))(KB:p6 P w K mg base 1 "behind" ["one","other"] (K5 K)):u7 P w K mg base CX0 3 f fd ["self","k"] (xw1 cG cC cB cS):=by
 refine F.ok b7 (λvs H Q E h=>?_) (λct Ar outer sh H vs Q E hr h=>?_)
 .obtain⟨g,n,k,ts,S,rfl,_⟩:=h;rfl
 obtain⟨g,n,k,ts,S,rfl,ga,hk,q⟩:=h;refine⟨_,z7 (u0 (i:=2) b7.nd rfl (Or.inl rfl) (U9 cg.cls MS hr (pv 0)))
  (z7 (n4 (PW.pt (B3 (Y7 (Z4 (r6 KW hr rfl (z0 (pv 1) z5)))) (M7 (Y7 (zt2 zs5 ya0 y8 (pv 1) (pv 2)))))) (z8 K3) u4)
  (z7 (u0 (i:=3) b7.nd rfl (Or.inr rfl) (r6 KS hr rfl (z0 (y9 (pv 0) rfl) z5)))
  (z7 (Z9 PassesOwn.never rfl (Y8 (U9 cc.cls MB hr (y9 (pv 0) rfl))) (t9 (i:=4) b7.nd rfl (Or.inl rfl))
   (z7 (u0 (i:=2) b7.nd rfl (Or.inl rfl) (o7 yk6 (pv 2) (w8 zi1 rfl B.len i8 (z0 (y9 (pv 4) rfl) z5))))
   (z7 (u0 (i:=5) b7.nd rfl (Or.inl rfl) (w8 yb9 rfl B.sorted zi0 (z0 (yx4 (b6 [3] ["place","here"] rfl (yx5 (y9 (pv 4) rfl)) (λ_ _ _ _=>p9 Y6 (pv 1) (pv 0) (λ_ _=>rfl)))) z5)))
   (z7 (u0 (i:=6) b7.nd rfl (Or.inl rfl) (p9 p0 (pv 5) (o7 P8 (o7 yk6 (pv 1) (pv 2)) (w8 v1 rfl B.len i8 (z0 (pv 5) z5))) (λ_ _=>rfl)))
   (z8 (u0 (i:=3) b7.nd rfl (Or.inr rfl) (r6 KB hr rfl (z0 (Z3 cc.cls MT hr (y9 (pv 0) rfl) (z0 (pv 4) (z0 (xz9 PySem.F.slot_tuple_index PySem.F.type_tuple_index xk4 (pv 3) (z0 (pv 6) z5)) z5))) (z0 (pv 3) z5)))))))))
  (z8 (v0 (pv 3)))))),?_⟩
 obtain⟨dx,ma,A,da,h1,h2,h3,h4⟩:=ga.at';obtain⟨cu,hc⟩:=h4.c;have iv:=ga.st.inv;have hn:=ga.n60;refine i4 λN d=>exI rfl (Z6 h1 rfl ⟨g,n,ts,S,rfl,ga,d _ _ ?_⟩);clear d N;refine i4 λN d=>exI rfl ⟨_,.int k,rfl,.int _,exI rfl (o0 (exI rfl ⟨_,_,rfl,rfl,_,rfl,?_⟩))⟩;rw[decide_eq_true (show(0:Int)<=((k:Nat):Int) by lia)];refine i9 (exI rfl ⟨_,_,rfl,rfl,_,rfl,?_⟩);rw[decide_eq_true (show((k:Nat):Int)<((S.chn.many n n:Nat):Int) by lia)];refine o0 (d _ _ ?_);clear d N;refine i4 λN d=>exI rfl (p7 cg h1 rfl ⟨n,rfl,by lia,λbt H1 cy s1 bo=>d _ _ ?_⟩);clear d N;have ac:=h4.same s1;have ok:=iv.ok;have O:∀j∈List.range n,j<n:=λj m=>cr.mp m;have hW:∀j∈TM.wide S.chn (List.range n),j<n:=λj m=>O j (cP.mp m).1;have aq:∀j∈TM.wide S.chn (List.range n),0<(S.chn.ring j).length:=λj m=>dL (ok.own j (hW j m));have an:S.chn.manyL (TM.wide S.chn (List.range n))=S.chn.many n n:=by
  rw[ok.manyL_wide _ O,fu,TM.Chn.manyL_many n 0 (bP n)]
 have ai:=ga.few';refine i4 λN af=>exI rfl (p7 cg (s1 _ _ h1) rfl (Z6 (s1 _ _ hc) rfl ⟨A,S,n,rfl,ac,iv,hn,λl H2 hl s2 aj=>?_⟩));have bk:=ac.same s2;refine⟨l,rfl,⟨_,SqL.of aj⟩,V5 (K:=K) (a:=l) (xs:=(TM.wide S.chn (List.range n)).map λj=>V.ref (A.at' j)) (λi σ X=>∃(J:Addr) (h:List Nat) (v4 v5 v6:Option V),σ=[some (.ref g),some (.int k),some (.int ((S.chn.manyL ((TM.wide S.chn (List.range n)).drop i):Nat):Int)),some (.ref J),v4,v5,v6]/\y4 H2 X/\X J=some (.tup (tI h))/\TM.IsT n h/\∀x,S.chn.NthL ((TM.wide S.chn (List.range n)).drop i) k h x->S.chn.NthL (TM.wide S.chn (List.range n)) k (List.range n) x)
  ⟨bt,List.range n,none,none,none,by rw[dA,an];rfl,y4.refl _,s2 _ _ bo,TM.IsT.range n,λx I=>by rw[dA]at I;exact I⟩ (λi σ X _ ⟨_,_,_,_,_,_,s,_⟩=>SqL.of (s _ _ aj)) ?_ ?_⟩
 .clear af;rintro i v σ X hv ⟨J,h,v4,v5,v6,rfl,s3,t,hT,d⟩;rw[al]at hv
  cases hji:(TM.wide S.chn (List.range n))[i]? with
  | none=>rw[hji]at hv;cases hv
  | some j =>
   rw[hji]at hv
   cases hv
   have hi:i<(TM.wide S.chn (List.range n)).length:=(ag.mp hji).1;have m:j<n:=hW j (au hji);have ed:(TM.wide S.chn (List.range n)).drop i=j::(TM.wide S.chn (List.range n)).drop (i+1):=by
    rw[bV hi,(ag.mp hji).2]
   obtain⟨ah,bn⟩:=zi8 (C:=S.chn) _ (i+1) aq;rw[ed]at d ⊢;generalize hrest:(TM.wide S.chn (List.range n)).drop (i+1)=R5 at d ah bn ⊢;obtain⟨a,hA⟩:∃a,A.st[j]?=some a:=⟨_,aa (by rw[h4.len.1];exact m)⟩;have hs:=ChS.get_at (S:=S) (j:=j) (by rw[iv.len];exact m);have ad:=bk.same s3;have st:=ad.st j a _ hA hs;obtain⟨cv,ar⟩:=st.a;have W:(S.chn.ring j).length=(S.atS j).to.length:=ae _;have rn:(S.atS j).to.length<=n:=iv.ring m;have rp:0<(S.atS j).to.length:=by rw[←W];exact dL (ok.own j m)
   show h9 4 (V.ref (A.at' j)) _ _ _;rw[ChA.at_of hA];refine i4 λM L=>exI rfl (exI rfl (p7 cs ar rfl ⟨a.lt,exI rfl ⟨st.lt,?_⟩⟩));rw[J3];refine⟨_,_,rfl,rfl,⟨by lia,xj6 (aD rn (aD hn (by decide +kernel)))⟩,L _ _ ?_⟩;clear L M;have bi:((S.chn.manyL (j::R5):Nat):Int) / (((S.atS j).to.length:Nat):Int)=((S.chn.manyL R5:Nat):Int):=by
    rw[←fO,TM.Chn.manyL,W,Nat.mul_div_cancel_left _ rp]
   dsimp only;rw[bi];refine i4 λM L=>⟨a.lt,kI (S.atS j).to,st.lt,exI rfl (p7 cs ar rfl ⟨a.lt,exI rfl ⟨st.lt,λob=>?_⟩⟩)⟩;have ax:J≠a.lt:=l8 t st.lt (by intro z;cases z);refine yz7 (by rw[z4]) ((S.chn.ring j).map λp=>V.int ((h.getD p 0:Nat):Int)) (by rw[ae,J3,W]) (by rw[J3];exact aD rn (aD hn (by decide))) ?_ ?_
   .intro u H4 kk vv o s4 _ _ _ _;unfold kI at o;rw[al]at o
    cases e:(S.atS j).to[u]? with
    | none=>rw[e]at o;cases o
    | some pr =>
     rw[e]at o
     cases o
     have ao:pr.1∈S.chn.ring j:=az.mpr ⟨pr,au e,rfl⟩;refine exI rfl (exI rfl (ixT (SqT.of (s4 _ _ (by rw[z6 ax];exact t))) (A2 (hT.get_step (ok.lt j _ m ao))) ⟨y4.refl _,?_⟩));show(((S.atS j).to.map Prod.fst).map λp=>V.int ((h.getD p 0:Nat):Int))[u]?=_;rw[al,al,e];rfl
   .intro Dl H4 hD s4 bp;have s5:=ya3 st.lt s4;have bm:Dl≠a.lt:=λz=>by subst z;rw[z4]at hD;cases hD
    refine⟨⟨ob,s4 _ _ z4⟩,?_⟩;have ak:(upd H4 a.lt (.dK (kI (S.atS j).to))) Dl=some (.lst (((S.chn.ring j).map λp=>((h.getD p 0:Nat):Int)).map V.int)):=by
     rw[z6 bm,bF];exact bp
    generalize upd H4 a.lt (.dK (kI (S.atS j).to))=H5 at s5 ak ⊢;refine⟨Dl,exI rfl ⟨SqL.of ak,by rw[ae,W];lia,λlg Y bq G T=>?_⟩⟩;have s6:=y0 bq (.lst (Y.map V.int));have e6:(upd H5 lg (.lst (Y.map V.int))) lg=some (.lst (Y.map V.int)):=z4;generalize upd H5 lg (.lst (Y.map V.int))=H6 at s6 e6 ⊢;have S6:=s5.trans s6;have R:Y.length=(S.atS j).to.length:=by rw[G.length_eq,ae,W]
    refine L _ _ ?_;clear L M;obtain⟨z,hz⟩:∃z,Y[k / S.chn.manyL R5 % (S.chn.ring j).length]?=some z:=⟨_,aa (by rw[R,←W];exact Nat.mod_lt _ (by lia))⟩;obtain⟨p,hp,ap,rfl,am⟩:=TM.Chn.rank ok m hT G T hz;refine i4 λM L=>exI rfl (exI rfl (exI rfl ⟨_,_,rfl,rfl,⟨by lia,xj6 (aD ah (by rw[an];exact ai))⟩,exI rfl ⟨lg,exI rfl ⟨.inl (SqL.of e6),_,_,rfl,rfl,by rw[ae,R];lia,?_⟩⟩⟩));rw[ae,R];have bh:((k:Nat):Int) / ((S.chn.manyL R5:Nat):Int) % (((S.atS j).to.length:Nat):Int)=((k / S.chn.manyL R5 % (S.chn.ring j).length:Nat):Int):=by
     rw[W,Int.natCast_emod,fO]
    refine⟨lg,_,_,V.int ((h.getD p 0:Nat):Int),rfl,rfl,SqL.of e6,?_,L _ _ ?_⟩
    .rw[bh];exact o8 (by rw[al,hz];rfl)
    clear L M;have Z:y4 H1 H6:=s2.trans (s3.trans S6);have bf:=ad.same S6;have D:=S6 _ _ t;have U:=ok.upT m hp;refine exI rfl (p7 cg (Z _ _ (s1 _ _ h1)) rfl (Z6 (Z _ _ (s1 _ _ hc)) rfl (exI rfl (exI rfl ⟨⟨J,exI rfl D⟩,exI rfl ⟨J,TM.iN h,((h.getD p 0:Nat):Int),p,rfl,rfl,SqT.of (by rw[xh8];exact D),wd5 (hT.get_step ap),λu hu c=>?_,A,S,n,j,p,a,rfl,bf,iv,m,hA,hp,λb hb=>?_⟩⟩))))
    .obtain⟨y,hy,e⟩:=xr4 c;have:=hT.inj hy (show h[p]?=some y by rw[hT.get_step ap,show h.getD p 0=y by lia]);lia
    .refine exI rfl ⟨b,J,_,_,rfl,SqT.of hb,SqT.of D,by rw[U.length];lia,λx I=>by rw[hT.length];exact U.lt I,λr H7 ce s7 bu=>?_⟩;refine⟨r,_,_,_,_,rfl,s3.trans (S6.trans s7),bu,U.beh hT,λx I=>d x ⟨p,hp,?_,I⟩⟩;exact am
 .rintro σ X ⟨J,h,v4,v5,v6,rfl,s3,t,hT,d⟩;refine af _ _ (exI rfl ?_);refine q J h X (s1.trans (s2.trans s3)) t ?_;have I:=d h (by rw[ae,List.drop_length];rfl);have I:=ok.nth_wide (List.range n) k (List.range n) h O (TM.IsT.range n) I;rw[←fu];exact I
theorem u6.cos {S:ChS}(ga:u6 cG cC cB cS n H g ts S)(hG:TM.Grp n (λz=>z∈ts) t):S.chn.Cos n 0 (List.range n) t:=⟨t,(ga.grp t).mpr hG,(TM.beh_still (hG.isT λs hs=>ga.tT s hs)).symm⟩
def ym7 (cG cC cB cS:Addr):Sp:=λvs H Q _=>∃(g tr:Addr) (n:Nat) (ts:List (List Nat)) (S:ChS) (t:List Nat),vs=[.ref g,.ref tr]/\u6 cG cC cB cS n H g ts S/\H tr=some (.tup (tI t))/\TM.IsT n t/\TM.Grp n (λz=>z∈ts) t/\∀H':Hp,y4 H H'->Q .non H'
theorem zk3:x0 ["self","thing"] ["self","thing"] (y6 R7):=scq
theorem zj1 (F:Fun K "need_in" "Group.need_in" R7 f fd)(B:Blt mg)(j:m9 K cG X8)(e:b9 P w K mg base 4 cG "has" ["self","thing"] (xn7 cG cC cB cS)):u7 P w K mg base CX0 5 f fd ["self","thing"] (ym7 cG cC cB cS):=by
 refine F.ok zk3 (λm H Q E h=>?_) (λi o outer sh H m Q E hr h=>?_)
 .obtain⟨g,d,n,ts,S,t,rfl,_⟩:=h;rfl
 obtain⟨g,d,n,ts,S,t,rfl,c,a,hT,hG,q⟩:=h;obtain⟨dx,s,A,l,h1,h2,p,r⟩:=c.at';refine⟨_,z8 (n4 (Y7 (Z4 (Z3 j.cls e hr (pv 0) (z0 (pv 1) z5)))) (z8 K3) u4),?_⟩;refine exI rfl (Z6 h1 rfl (exI rfl (.inl ⟨g,d,n,ts,S,t,rfl,c,a,hT,λb H1 s1 k=>exI rfl ?_⟩)));rw[k.mpr hG];exact o0 (q H1 s1)
theorem xj5:∀(x y:List Nat) (i:Nat),i<x.length->i<y.length->(∀q,q<i->x.getD q 0=y.getD q 0)->x.getD i 0<y.getD i 0->HT.lexLt (TM.iN x) (TM.iN y)=true
 | a::x,b::y,0,_,_,_,h=>by
  have h:a<b:=h
  show(if ((a:Nat):Int)=((b:Nat):Int) then _ else decide (((a:Nat):Int)<((b:Nat):Int)))=true
  rw[if_neg (by lia)]
  exact decide_eq_true (by lia)
 | a::x,b::y,i+1,hx,hy,hq,h=>by
  have e:a=b:=hq 0 (Nat.zero_lt_succ _)
  show(if ((a:Nat):Int)=((b:Nat):Int) then HT.lexLt (TM.iN x) (TM.iN y) else _)=true
  rw[if_pos (by lia)]
  exact xj5 x y i (by simpa using hx) (by simpa using hy) (λq hq'=>by have:=hq (q+1) (by lia);simpa using this) (by simpa using h)
section
variable {cG cC cB cS:Addr}{n:Nat}{H:Hp}{g:Addr}{ts:List (List Nat)}{S:ChS}
theorem u6.shut (ga:u6 cG cC cB cS n H g ts S):∀i,0<=i->i<n->S.chn.Shut n i:=λi _ hi=>ga.st.inv.shut (ga.st.done i hi)
theorem u6.many (ga:u6 cG cC cB cS n H g ts S):S.chn.manyL (List.range' 0 n)=S.chn.many n n:=TM.Chn.manyL_many n 0 (bP n)
theorem u6.nth (a:u6 cG cC cB cS n H g ts S)(d:k<S.chn.many n n)(f:S.chn.NthL (List.range' 0 n) k (List.range n) x):TM.IsT n x/\TM.Grp n (λz=>z∈ts) x/\S.chn.Cos n 0 (List.range n) x/\S.chn.NumL (List.range' 0 n) (List.range n) x=k:=by
 obtain⟨c,e⟩:=a.st.inv.ok.nth_num n 0 k (List.range n) x (bP n) a.shut (TM.IsT.range n) f;have hT:=c.isT (a.st.inv.ok.mvT 0) (TM.IsT.range n);obtain⟨y,b,rfl⟩:=id c;rw[TM.beh_still (b.isT (a.st.inv.ok.mvT 0))]at hT c e ⊢;exact⟨hT,(a.grp _).mp b,c,by rw[e,a.many,eU d]⟩
theorem u6.nth_less (b:u6 cG cC cB cS n H g ts S)(a:k<l)(hl:l<S.chn.many n n)(f:S.chn.NthL (List.range' 0 n) k (List.range n) x)(h:S.chn.NthL (List.range' 0 n) l (List.range n) y):HT.lexLt (TM.iN x) (TM.iN y)=true:=by
 obtain⟨j,_,c,ex⟩:=b.nth (dw a hl) f;obtain⟨m,_,d,e⟩:=b.nth hl h;obtain⟨i,hi,h1,h2⟩:=b.st.inv.ok.num_less n 0 (List.range n) x y (bP n) b.shut (TM.IsT.range n) c d (by rw[ex,e];exact a);exact xj5 x y i (by rw[j.length];exact hi) (by rw[m.length];exact hi) h1 h2
theorem u6.num_lt (a:u6 cG cC cB cS n H g ts S)(hG:TM.Grp n (λz=>z∈ts) t):S.chn.NumL (List.range' 0 n) (List.range n) t<S.chn.many n n:=by
 rw[←a.many];exact a.st.inv.ok.num_lt n 0 _ t (bP n) a.shut (TM.IsT.range n) (a.cos hG)
theorem u6.nth_num (a:u6 cG cC cB cS n H g ts S)(hG:TM.Grp n (λz=>z∈ts) t)(c:S.chn.NthL (List.range' 0 n) (S.chn.NumL (List.range' 0 n) (List.range n) t) (List.range n) x):x=t:=by
 obtain⟨d,_,b,ex⟩:=a.nth (a.num_lt hG) c;exact a.st.inv.ok.num_inj n 0 (List.range n) x t (bP n) a.shut (TM.IsT.range n) b (a.cos hG) ex
end
theorem xs1 {k:Nat}(a:0<k):∃m:Nat,c % (k:Int)=(m:Int)/\m<k:=by
 have h1:=dS c (show(k:Int)≠0 by lia);have h2:=dC c (show(0:Int)<(k:Int) by lia);exact⟨(c % (k:Int)).toNat,by lia,by lia⟩
theorem zl6 {fr:List Nat}{te:CT TE}{Q:Addr->Hp->Prop}(ys:List V)(hn:ys.length=n)(hz:n<=ge)
  (turn:∀i H,i<n->y4 H1 H->∀C₀ s₀ H₀ fp,te C₀ s₀ H₀ fp (some (.int (lo+i))::fr.map λj=>(σ[j]?).getD none) H λy H4=>y4 H H4/\ys[i]?=some y)
  (fin:∀D H,H1 D=none->y4 H1 H->H D=some (.lst ys)->Q D H) :
  ∀D,H1 D=none->∃W:Nat->Nat->St->Hp->Prop,(∃m,W 0 m (X2 1 fr σ) (upd H1 D (.lst [])))/\∀i m σ' H',W i m σ' H' ->
  ((Itr lo n).stop i H'/\Q D H')∨((Itr lo n).go i H'/\∀x H2,(Itr lo n).yld i H' x H2->∀C₀ s₀ H₀ fp,h9 0 x σ' H2 λσ3 H3=>∃N:VK,te C₀ s₀ H₀ fp σ3 H3 N/\∀y H4,N y H4 ->
   ∃ys m',H4 D=some (.lst ys)/\ys.length<ge/\m'<m/\W (i+1) m' σ3 (upd H4 D (.lst (ys++[y])))) :=
 L6 ys hn hz (λ_ _=>af n) (λi _ hi _=>hi) (λi H x H2 hi s y=>⟨y.1,by rw[y.2];exact turn i H hi s⟩) fin
theorem ze3 :∀(bs:List (Addr×List Nat)),(∀b∈bs,H b.1=some (.tup (tI b.2)))->c6 H (bs.map Prod.fst) (bs.map Prod.snd)
 | [],_=>.nil
 | b::bs,h=>.cons (h b aw) (ze3 bs λc hc=>h c (ar _ hc))
theorem yh3 {fr:List Nat}{te:CT TE}{Q:Addr->Hp->Prop}(k:List Nat->Prop)(hz:m<=ge)
  (h:∀(i:Nat) (H:Hp),i<m->y4 H1 H->∀C₀ s₀ H₀ fp,te C₀ s₀ H₀ fp (some (V.int ((0:Int)+(i:Int)))::fr.map λj=>(σ[j]?).getD none) H λv c=>y4 H c/\∃b:Addr×List Nat,v=.ref b.1/\(c b.1=some (.tup (tI b.2))/\k b.2)/\[b.1].Nodup/\∀a∈[b.1],H a=none/\∃o,c a=some o)
  (fin:∀(D:Addr) (H:Hp) (as:List Addr) (us:List (List Nat)),H1 D=none->y4 H1 H->H D=some (.lst (as.map V.ref))->c6 H as us->us.length=m->(∀u∈us,k u)->Q D H) :
  ∀D,H1 D=none->∃W:Nat->Nat->St->Hp->Prop,(∃m,W 0 m (X2 1 fr σ) (upd H1 D (.lst [])))/\∀i m' σ' H',W i m' σ' H'->((Itr 0 m).stop i H'/\Q D H')∨((Itr 0 m).go i H'/\∀x H2,(Itr 0 m).yld i H' x H2->∀C₀ s₀ H₀ fp,h9 0 x σ' H2 λσ3 f=>∃N:VK,te C₀ s₀ H₀ fp σ3 f N/\∀y c,N y c ->
   ∃ys m'',c D=some (.lst ys)/\ys.length<ge/\m''<m'/\W (i+1) m'' σ3 (upd c D (.lst (ys++[y])))):=by
 refine ze7 (J:=Itr 0 m) (Prod.fst:Addr×List Nat->Addr) (λb=>[b.1]) (λH _ b=>H b.1=some (.tup (tI b.2))/\k b.2) (n:=m) hz (λf c r xs i b d s fr q=>⟨fr _ _ (λz=>q (by rw[aq.mp z];simp)) d.1,d.2⟩) (λ_ _=>af _) (λi _ hi _=>hi) ?_ ?_
 .rintro i A v B hi sx ⟨rfl,rfl⟩
  exact⟨rfl,h i _ hi sx⟩
 .intro r f bs s w p l hR _ _
  have g:∀b∈bs,f b.1=some (.tup (tI b.2))/\k b.2:=λb d=>by
   obtain⟨i,hi,e⟩:=bh.mp d
   exact hR i b (by rw[aa hi,e])
  refine fin r f (bs.map Prod.fst) (bs.map Prod.snd) s w (by rw[bF];exact p) (ze3 bs λb d=>(g b d).1) (by rw[ae];exact l) λu t=>?_
  obtain⟨b,d,rfl⟩:=az.mp t
  exact(g b d).2
theorem yp5 {fr:List Nat}{te:CT TE}{Q:Addr->Hp->Prop}(k:Nat->List Nat->Prop)(hz:m<=ge)
  (h:∀(i:Nat) (H:Hp),i<m->y4 H1 H->∀C₀ s₀ H₀ fp,te C₀ s₀ H₀ fp (some (V.int ((0:Int)+(i:Int)))::fr.map λj=>(σ[j]?).getD none) H λv c=>y4 H c/\∃b:Addr×List Nat,v=.ref b.1/\(c b.1=some (.tup (tI b.2))/\k i b.2)/\([]:List Addr).Nodup/\∀a∈([]:List Addr),H a=none/\∃o,c a=some o)
  (fin:∀(D:Addr) (H:Hp) (as:List Addr) (us:List (List Nat)),H1 D=none->y4 H1 H->H D=some (.lst (as.map V.ref))->c6 H as us->us.length=m->(∀i u,us[i]?=some u->k i u)->Q D H) :
  ∀D,H1 D=none->∃W:Nat->Nat->St->Hp->Prop,(∃m,W 0 m (X2 1 fr σ) (upd H1 D (.lst [])))/\∀i m' σ' H',W i m' σ' H'->((Itr 0 m).stop i H'/\Q D H')∨((Itr 0 m).go i H'/\∀x H2,(Itr 0 m).yld i H' x H2->∀C₀ s₀ H₀ fp,h9 0 x σ' H2 λσ3 f=>∃N:VK,te C₀ s₀ H₀ fp σ3 f N/\∀y c,N y c ->
   ∃ys m'',c D=some (.lst ys)/\ys.length<ge/\m''<m'/\W (i+1) m'' σ3 (upd c D (.lst (ys++[y])))):=by
 refine ze7 (J:=Itr 0 m) (Prod.fst:Addr×List Nat->Addr) (λ_=>[]) (λH i b=>H b.1=some (.tup (tI b.2))/\k i b.2) (n:=m) hz (λf c s xs i b d l fr _=>⟨fr _ _ (λz=>?_) d.1,d.2⟩) (λ_ _=>af _) (λi _ hi _=>hi) ?_ ?_
 .rw[aq.mp z,l]at d
  cases d.1
 .rintro i w v A hi sx ⟨rfl,rfl⟩
  exact⟨rfl,h i _ hi sx⟩
 .intro s f bs l t r q hR _ _
  have p:∀b∈bs,f b.1=some (.tup (tI b.2)):=λb d=>by
   obtain⟨i,hi,e⟩:=bh.mp d
   exact(hR i b (by rw[aa hi,e])).1
  refine fin s f (bs.map Prod.fst) (bs.map Prod.snd) l t (by rw[bF];exact r) (ze3 bs p) (by rw[ae];exact q) λi u g=>?_
  rw[al]at g
  cases e:bs[i]? with
  | none=>rw[e]at g;cases g
  | some b=>rw[e]at g;cases g;exact(hR i b e).2
def O9 (X cG cC cB cS:Addr):Sp:=λvs H Q E=>∃(g:Addr) (n:Nat) (ts:List (List Nat)) (S:ChS),vs=[.ref g]/\u6 cG cC cB cS n H g ts S/\(S.chn.many n n<=1000->∀(l:Addr) (as:List Addr) (us:List (List Nat)) (H':Hp),H l=none->y4 H H'->H' l=some (.lst (as.map V.ref))->c6 H' as us->us.length=S.chn.many n n->(∀i u,us[i]?=some u->S.chn.NthL (List.range' 0 n) i (List.range n) u)->Q (.ref l) H')/\(1000<S.chn.many n n->∀H':Hp,y4 H H'->E (.ref X) none H')
theorem zo0:x0 ["self"] ["self"] (y6 O2):=scq
theorem zn4 {X TE cG cC cB cS:Addr}(F:Fun K "listed" "Group.listed" O2 f fd)(B:Blt mg)(k:m9 K cG X8)(C:b9 P w K mg base 2 cG "size" ["self"] (zp4 cG cC cB cS))(G:b9 P w K mg base 3 cG "nth" ["self","k"] (xw1 cG cC cB cS))(D:za6 mg "MOST_LISTED" (.int 1000))(z:zp7 K mg TE "TooMany" X):u7 P w K mg base (CX1 P w) 4 f fd ["self"] (O9 X cG cC cB cS):=by
 refine F.okX zo0 (λU H Q E h=>?_) (λJ V outer sh H U Q E hr h=>?_)
 .obtain⟨g,n,ts,S,rfl,_⟩:=h;rfl
 obtain⟨g,n,ts,S,rfl,d,q,O⟩:=h;obtain⟨dx,ma,A,N,h1,h2,Y,Z⟩:=d.at';refine⟨_,z7 (n4 (p5 yk7 (U9 k.cls C hr (pv 0)) (K2 D rfl) (o6 _)) (z8 (zt1 z.m z.c PySem.F.excBase_ValueError rfl rfl (z0 W7 z5))) u4)
  (z8 (v0 (b6 [0] ["k","self"] rfl (T0 rfl B.range (z0 (U9 k.cls C hr (pv 0)) z5)) (λ_ _ _ _=>Z3 k.cls G hr (pv 1) (z0 (pv 0) z5))))),?_⟩
 refine exI rfl (Z6 h1 rfl ⟨g,n,ts,S,rfl,d,_,_,rfl,rfl,_,rfl,?_⟩);rcases cF 1000 (S.chn.many n n) with e|e
 .rw[decide_eq_true (show(1000:Int)<((S.chn.many n n:Nat):Int) by lia)];exact i9 ⟨by decide,O e H (y4.refl H)⟩
 rw[decide_eq_false (show ¬(1000:Int)<((S.chn.many n n:Nat):Int) by lia)];refine o0 (exI rfl (Z6 h1 rfl ⟨g,n,ts,S,rfl,d,exI rfl ⟨(by lia),(by lia),?_⟩⟩));have o:(((S.chn.many n n:Nat):Int)).toNat=S.chn.many n n:=bG _;refine yp5 (m:=(((S.chn.many n n:Nat):Int)).toNat) (λi u=>S.chn.NthL (List.range' 0 n) i (List.range n) u) (by rw[o];exact aD e (by decide)) ?_ ?_
 .intro i H2 hi j _ _ _ _;rw[o]at hi;rw[show(0:Int)+(i:Int)=(i:Int) by lia];refine exI rfl (Z6 (j _ _ h1) rfl (exI rfl ⟨g,n,i,ts,S,rfl,d.same j,hi,λr x W R t M=>⟨R,(r,x),rfl,⟨t,M⟩,cW,λa L=>(by cases L)⟩⟩))
 .intro l H2 I T p j s v b y;rw[o]at b;exact q e l I T H2 p j s v b y
theorem yj0 {mg:Str->Option Value}(k:xf6 P w K mg base 4 cG "listed" ["self"] (O9 X cG cC cB cS)):b9 P w K mg base 4 cG "listed" ["self"] (λvs H Q _=>O9 X cG cC cB cS vs H Q E0):=by
 obtain⟨f,fd,F,r⟩:=k;exact⟨f,fd,F.calm,r⟩
theorem xs0 {S:ChS}{ts:List (List Nat)}(h:S.Mks n)(f:S.ln.length=S.md.length)(m:S.src=λk=>ts.getD k []):S.md=TM.mkAll n ts S.ln:=by
 have key:∀k,k<=S.ln.length->S.md.take k=(TM.mkAll n ts S.ln).take k:=λk=>by
  induction k with
  | zero=>intro _;rw[cM,cM]
  | succ k ih =>
   intro o;have ih:=ih (by lia);obtain⟨l,d⟩:∃l,S.ln[k]?=some l:=⟨_,aa (by lia)⟩;obtain⟨t,e⟩:∃t,S.md[k]?=some t:=⟨_,aa (by lia)⟩;rw[aT,aT,←ih,e,TM.mkAll_get d,←ih];have hi:=h k l t d e;have c:∀a,a<k->(S.md.take k).getD a []=S.md.getD a []:=λa i=>by
    rw[ah,bN i,ah]
   congr 2
   cases l with
   | still =>
    have hi:t=List.range n:=hi;rw[hi];rfl
   | told j =>
    have hi:t=S.src j:=hi;rw[hi,m];rfl
   | back a =>
    obtain⟨h1,h2⟩:=hi;show some t=some _;rw[h2,←c a h1];rfl
   | behind a b =>
    obtain⟨h1,h2,g⟩:=hi;show some t=some _;rw[g,←c a h1,←c b h2];rfl
 have:=key S.ln.length (af _);rwa [f,bD,←f,aV (by rw[TM.mkAll_len];exact af _)]at this
theorem u6.made {S:ChS}(ga:u6 cG cC cB cS n H g ts S):S.md=TM.mkAll n ts S.ln:=xs0 ga.st.inv.bks.mks ga.st.inv.fine.lnl ga.src
theorem zb9 {mas:List Addr}{md:List (List Nat)}(h:c6 H mas md):∀(ks:List Nat),(∀k∈ks,k<md.length)->c6 H (ks.map λk=>mas.getD k 0) (ks.map λk=>md.getD k [])
 | [],_=>.nil
 | k::ks,hk=>by
  refine .cons ?_ (zb9 h ks λj hj=>hk j (ar _ hj))
  obtain⟨a,ha,hat⟩:=l9 h k _ (W2 [] (hk k aw))
  show H (mas.getD k 0)=some (.tup (tI (md.getD k [])))
  rw[ah,ha]
  exact hat
def zv2 (cC cB cS:Addr):Sp:=λvs H Q _=>∃(A:ChA) (S:ChS) (n lv:Nat),vs=[.ref A.c,.int lv]/\u5 cC cB cS n H A S/\S.Inv n/\n<=60/\lv<n /\
 ∀(l:Addr) (mas:List Addr) (H':Hp),H l=none->y4 H H'->H' l=some (.lst (mas.map V.ref))->c6 H' mas ((S.atS lv).mv.map λk=>S.md.getD k [])->Q (.ref l) H'
theorem ze1:x0 ["self","level"] ["self","level"] (y6 U0):=scq
theorem zc9 (F:Fun K "movers_at" "Chain.movers_at" U0 f fd)(B:Blt mg)(C:m9 K cC Z1)(J:m9 K cB zb5)(cs:m9 K cS M0):u7 P w K mg base CX0 1 f fd ["self","level"] (zv2 cC cB cS):=by
 refine F.ok ze1 (λvs H Q E h=>?_) (λL Ar outer sh H vs Q E hr h=>?_)
 .obtain⟨A,S,n,d,rfl,_⟩:=h;rfl
 obtain⟨A,S,n,d,rfl,g,z,Z,p,q⟩:=h;obtain⟨N,I⟩:=g.c;obtain⟨a,G⟩:∃a,A.st[d]?=some a:=⟨_,aa (by rw[g.len.1];exact p)⟩;have hs:=ChS.get_at (S:=S) (j:=d) (by rw[z.len];exact p);have st:=g.st d a _ G hs;obtain⟨O,y⟩:=st.a;obtain⟨M,W⟩:=g.bk.b;obtain⟨e,v,r⟩:=g.bk.lm;have R:atI (A.st.map λs=>V.ref s.a) ((d:Nat):Int)=some (V.ref a.a):=o8 (by rw[al,G];rfl);have few:=z.few Z d;have t:∀k∈(S.atS d).mv,k<S.md.length:=λk u=>z.fine.mvlt u;refine⟨_,z8 (v0 (b6 [0] ["line","self"] rfl (Y8 (y9 (p9 p0 (y9 (pv 0) rfl) (pv 1) (λ_ _=>rfl)) rfl)) (λ_ _ _ _=>p9 p0 (y9 (y9 (pv 1) rfl) rfl) (pv 0) (λ_ _=>rfl)))),?_⟩;refine exI rfl (p7 C I rfl (exI rfl (ixI (SqL.of g.l) R (p7 cs y rfl ⟨a.m,rfl,⟨_,SqL.of st.m⟩,zi4 (SqL.of st.m) (((S.atS d).mv.map λk=>e.getD k 0).map V.ref) (by rw[ae,ae,x9]) (by rw[x9];exact small (by lia)) ?_ ?_⟩))))
 .intro i H' x hx s' _ _ _ _;obtain⟨k,u,rfl⟩:=X7 hx;obtain⟨b,o,X⟩:=l9 r k _ (W2 [] (t k (au u)));have T:atI (e.map V.ref) ((k:Nat):Int)=some (V.ref b):=o8 (by rw[al,o];rfl);refine exI rfl (p7 C (s' _ _ I) rfl (p7 J (s' _ _ W) rfl (exI rfl (ixI (SqL.of (s' _ _ v)) T ⟨y4.refl _,?_⟩))));rw[al,al,u];show some (V.ref (e.getD k 0))=some (V.ref b);rw[ah,o];rfl
 .intro D H' U s' Y;exact q D _ H' U s' Y ((zb9 r _ t).same s')
def xn9 (cG cC cB cS:Addr):Sp:=λvs H Q _=>∃(g:Addr) (n:Nat) (ts:List (List Nat)) (S:ChS),vs=[.ref g]/\u6 cG cC cB cS n H g ts S/\∀(l:Addr) (mas:List Addr) (us:List (List Nat)) (H':Hp),H l=none->y4 H H'->H' l=some (.lst (mas.map V.ref))->c6 H' mas us->us.length<=354->(∀u∈us,TM.IsT n u)->(∀x,TM.Grp n (λz=>z∈us) x↔TM.Grp n (λz=>z∈ts) x)->Q (.ref l) H'
theorem B9:x0 ["self"] ["self"] (y6 X9):=scq
theorem B1 (F:Fun K "lean_makers" "Group.lean_makers" X9 f fd)(B:Blt mg)(v:m9 K cG X8)(r:m9 K cC Z1)(p:b9 P w K mg base 1 cC "movers_at" ["self","level"] (zv2 cC cB cS)):u7 P w K mg base CX0 2 f fd ["self"] (xn9 cG cC cB cS):=by
 refine F.ok B9 (λJ H Q E h=>?_) (λt L outer sh H J Q E hr h=>?_)
 .obtain⟨g,n,ts,S,rfl,_⟩:=h;rfl
 obtain⟨g,n,ts,S,rfl,a,q⟩:=h;obtain⟨dx,N,A,I,h1,h2,M,o⟩:=a.at';obtain⟨y,C⟩:=o.c;refine⟨_,z8 (v0 (Z3 r.cls p hr (y9 (pv 0) rfl) (z0 y8 z5))),?_⟩;refine exI rfl (p7 v h1 rfl (Z6 C rfl ⟨A,S,n,0,rfl,o,a.st.inv,a.n60,a.n0,λl i H' D s' m d=>?_⟩));have few:=a.st.inv.few a.n60 0;have b:∀s,S.chn.mv 0 s↔s∈(S.atS 0).mv.map λk=>S.md.getD k []:=λs=>⟨λ⟨k,j,e⟩=>az.mpr ⟨k,j,e⟩,λh=>by
  obtain⟨k,j,e⟩:=az.mp h
  exact⟨k,j,e⟩⟩
 refine q l i _ H' D s' m d (by rw[ae];exact few) (λu G=>a.st.inv.ok.mvT 0 u ((b u).mpr G)) λx=>?_;rw[←show S.chn.mv 0=λz=>z∈(S.atS 0).mv.map λk=>S.md.getD k [] from funext λs=>propext (b s)];exact a.grp x
def J5:Nat->Nat->List Nat->List TM.Ln
 | _,_,[]=>[]
 | h,m,p::ps=>.behind h p::J5 m (m+1) ps
def C9:Nat->Nat->List Nat->Nat
 | h,_,[]=>h
 | _,m,_::ps=>C9 m (m+1) ps
def zx7 (ls:List TM.Ln):List Nat->List TM.Ln
 | []=>ls
 | [p]=>ls.take (p+1)
 | p::q::r=>ls++J5 p ls.length (q::r)
theorem zr9:∀(ps:List Nat) (h m:Nat),(J5 h m ps).length=ps.length
 | [],_,_=>rfl
 | _::ps,_,m=>by rw[J5,av,zr9 ps,av]
theorem zr8:∀(ps:List Nat) (h m q:Nat),C9 h m (ps++[q])=m+ps.length
 | [],_,_,_=>rfl
 | _::ps,_,m,q=>by
  rw[dI,C9,zr8 ps,av]
  lia
theorem zz9:∀(ps:List Nat) (h m q:Nat),J5 h m (ps++[q])=J5 h m ps++[.behind (C9 h m ps) q]
 | [],_,_,_=>rfl
 | _::ps,_,m,q=>by rw[dI,J5,zz9 ps,J5,C9,dI]
theorem yj7 :∀(ps:List Nat) (ls:List TM.Ln) (h:Nat),TM.Rec c ls->h<ls.length->(∀q∈ps,q<ls.length)->TM.Rec c (ls++J5 h ls.length ps)
 | [],ls,_,hR,_,_=>by rw[J5,bu];exact hR
 | p::ps,ls,h,hR,hh,hq=>by
  have hl:(ls++[TM.Ln.behind h p]).length=ls.length+1:=by rw[ao,aW]
  have ih:=yj7 ps (ls++[.behind h p]) ls.length (hR.snoc (l:=.behind h p) ⟨hh,hq p aw⟩) (by lia) λq a=>by
   have:=hq q (ar _ a)
   lia
  rw[hl,ba,ft]at ih
  exact ih
def D1 (md:List (List Nat))(y:List Nat)(ps:List Nat):List Nat:=ps.foldl (λy q=>TM.beh y (md.getD q [])) y
theorem zm3 {md md':List (List Nat)}:∀(ps:List Nat) (y:List Nat),(∀q∈ps,md.getD q []=md'.getD q [])->D1 md y ps=D1 md' y ps
 | [],_,_=>rfl
 | p::ps,y,h=>by
  show D1 md (TM.beh y (md.getD p [])) ps=D1 md' (TM.beh y (md'.getD p [])) ps
  rw[h p aw,zm3 ps _ λq hq=>h q (ar _ hq)]
theorem yw6 :∀(ps:List Nat) (ls:List TM.Ln) (h:Nat),h<ls.length->(∀q∈ps,q<ls.length)->(TM.mkAll n ms (ls++J5 h ls.length ps)).getD (C9 h ls.length ps) []=D1 (TM.mkAll n ms ls) ((TM.mkAll n ms ls).getD h []) ps
 | [],ls,h,_,_=>by rw[J5,bu];rfl
 | p::ps,ls,h,hh,hq=>by
  have hl:(ls++[TM.Ln.behind h p]).length=ls.length+1:=by rw[ao,aW]
  have ih:=yw6 (n:=n) (ms:=ms) ps (ls++[.behind h p]) ls.length (by lia) λq a=>by
   have:=hq q (ar _ a)
   lia
  have d:=TM.mkAll_len n ms ls
  have b:∀q,q<ls.length->(TM.mkAll n ms (ls++[.behind h p])).getD q []=(TM.mkAll n ms ls).getD q []:=λq a=>by
   rw[TM.mkAll_snoc,ah,aE (by lia),←ah]
  have c:(TM.mkAll n ms (ls++[.behind h p])).getD ls.length []=TM.beh ((TM.mkAll n ms ls).getD h []) ((TM.mkAll n ms ls).getD p []):=by
   rw[TM.mkAll_snoc,ah,aI (by lia),d,bQ]
   rfl
  rw[hl,ba,ft,c,zm3 ps _ λq a=>b q (hq q (ar _ a))]at ih
  exact ih
theorem ye3 {ls:List TM.Ln}{ps:List Nat}(hR:TM.Rec c ls)(b:p<ls.length)(d:∀q∈ps,q<ls.length):TM.Rec c (zx7 ls (p::ps))/\zx7 ls (p::ps)≠[]/\(zx7 ls (p::ps)).length<=ls.length+ps.length/\(TM.mkAll n ms (zx7 ls (p::ps))).getD ((zx7 ls (p::ps)).length-1) []=D1 (TM.mkAll n ms ls) ((TM.mkAll n ms ls).getD p []) ps:=by
 cases ps with
 | nil =>
  have a:(ls.take (p+1)).length=p+1:=by rw[aK];lia
  refine⟨hR.take _,λe=>?_,?_,?_⟩
  .have e:ls.take (p+1)=[]:=e;rw[e]at a
   cases a
  .show(ls.take (p+1)).length<=_;rw[a];lia
  .show(TM.mkAll n ms (ls.take (p+1))).getD ((ls.take (p+1)).length-1) []=(TM.mkAll n ms ls).getD p [];rw[a,←TM.mkAll_take,eF,TM.getD_take (by lia)]
 | cons q r =>
  have a:(ls++J5 p ls.length (q::r)).length=ls.length+(q::r).length:=by rw[ao,zr9]
  refine⟨yj7 _ _ _ hR b d,λe=>?_,eO a,?_⟩
  .have e:ls++J5 p ls.length (q::r)=[]:=e;rw[e]at a;simp at a
  .show(TM.mkAll n ms (ls++J5 p ls.length (q::r))).getD ((ls++J5 p ls.length (q::r)).length-1) []=_;have:=yw6 (n:=n) (ms:=ms) (q::r) ls p b d;rw[a,←this];congr 1;have f:q::r=(q::r).dropLast++[(q::r).getLast (by simp)]:=(eX _).symm;rw[f,zr8,ao,aW];lia
theorem xx2 {xs:List V}(a:k<=xs.length):P5 xs none (some (k:Int))=xs.take k:=by
 unfold P5;rw[HT.sIx_none,HT.sIx_nat,dA,cE,dP a]
theorem yj1 :∀{as:List Addr} {ls:List TM.Ln},Z7 H as ls->∀k,Z7 H (as.take k) (ls.take k)
 | _,_,.nil,k=>by rw[fj,fj];exact .nil
 | _,_,.cons f r,0=>.nil
 | _,_,.cons f r,k+1=>.cons f (yj1 r k)
def xo1 (K:W.Frag):Sp:=λvs H Q _=>∃(a pa:Addr) (as:List Addr) (ls:List TM.Ln) (p:Nat) (ps:List Nat),vs=[.ref a,.ref pa]/\H a=some (.lst (as.map V.ref))/\Z7 H as ls/\H pa=some (.lst (tI (p::ps)))/\p<ls.length/\(∀q∈ps,q<ls.length)/\ls.length+ps.length<=5000000 /\
 ∀(r:Addr) (H':Hp) (bs:List Addr),y4 H H'->H' r=some (.lst (bs.map V.ref))->Z7 H' bs (zx7 ls (p::ps))->Q (.ref r) H'
theorem i7:x0 ["lines","parts","longer","here","part"] ["lines","parts"] (y6 X0):=scq
theorem D6 (D:Def K mg "one_behind_another" X0 ["lines","parts"] f fd)(B:Blt mg):u7 P w K mg base CX0 1 f fd ["lines","parts"] (xo1 K):=by
 refine D.F.ok i7 (λvs H Q E h=>?_) (λak A outer s H vs Q E hr h=>?_)
 .obtain⟨a,L,m,ls,p,ps,rfl,_⟩:=h;rfl
 obtain⟨a,L,m,ls,p,ps,rfl,ha,R,o,hp,hq,ad,q⟩:=h;refine⟨_,z7 (n4 (p5 P7 (w8 v1 rfl B.len i8 (z0 (pv 1) z5)) y8 (o6 _)) (z8 (v0 (S9 za3 (pv 0) I0 (Q8 (o7 R4 (p9 p0 (pv 1) y8 (λ_ _=>rfl)) y8))))) u4)
  (z7 (u0 (i:=2) i7.nd rfl (Or.inl rfl) (u9 Q4 rfl B.list W1 (z0 (pv 0) z5)))
  (z7 (u0 (i:=3) i7.nd rfl (Or.inl rfl) (p9 p0 (pv 1) y8 (λ_ _=>rfl)))
  (z7 (Z9 PassesOwn.never rfl (Y8 (S9 za3 (pv 1) (Q8 y8) I0)) (t9 (i:=4) i7.nd rfl (Or.inl rfl))
   (z7 (i5 (K1 PySem.F.plainAttrs_list PySem.F.slot_list_append PySem.F.type_list_append c3 (pv 2) (z0 (P9 (z0 W7 (z0 (pv 3) (z0 (pv 4) z5)))) z5)))
   (z8 (u0 (i:=3) i7.nd rfl (Or.inl rfl) (o7 zj4 (w8 v1 rfl B.len i8 (z0 (pv 2) z5)) y8)))))
  (z8 (v0 (pv 2)))))),?_⟩
 have al:m.length=ls.length:=Paired.length R;have C:atI (tI (p::ps)) 0=some (V.int p):=o8 (xs:=tI (p::ps)) (j:=0) rfl;refine exI rfl ⟨L,exI rfl ⟨.inl (SqL.of o),rfl,_,rfl,?_⟩⟩;rw[c7,x9,av]
 cases ps with
 | nil =>
  rw[decide_eq_true (show(((([]:List Nat).length+1:Nat)):Int)=1 by rfl)];refine i9 (exI rfl (exI rfl (ixI (SqL.of o) C ⟨_,_,rfl,rfl,_,rfl,a,exI rfl ⟨SqL.of ha,λr u=>?_⟩⟩)));dsimp only at u ⊢;rw[show((p:Nat):Int)+1=((p+1:Nat):Int) by lia,xx2 (by rw[ae];lia),←ez];exact q r _ (m.take (p+1)) (y0 u _) z4 (yj1 (R.same (y0 u _)) (p+1))
 | cons q0 r0 =>
  rw[decide_eq_false (show ¬((((q0::r0).length+1:Nat)):Int)=1 by rw[av];lia)];refine o0 (exI rfl ⟨a,exI rfl ⟨.inl (SqL.of ha),λl hl=>?_⟩⟩);have s1:=y0 hl (.lst (m.map V.ref));have M:(upd H l (.lst (m.map V.ref))) l=some (.lst (m.map V.ref)):=z4;generalize upd H l (.lst (m.map V.ref))=H1 at s1 M ⊢;dsimp only[h9];have n:=s1 _ _ o;refine exI rfl (ixI (SqL.of n) C ?_);dsimp only[h9];refine exI rfl (exI rfl ⟨L,exI rfl ⟨SqL.of n,λc hc=>?_⟩⟩);rw[show P5 (tI (p::q0::r0)) (some 1) none=tI (q0::r0) from yh5 (xs:=tI (p::q0::r0)) (k:=1) (by rw[x9,av];lia)];have U:=y0 hc (.lst (tI (q0::r0)));have N:(upd H1 c (.lst (tI (q0::r0)))) c=some (.lst (tI (q0::r0))):=z4;have lc:l≠c:=z9 M hc;generalize upd H1 c (.lst (tI (q0::r0)))=H2 at U N ⊢;have I:=s1.trans U;generalize hps:q0::r0=ps at *;refine⟨c,rfl,⟨_,SqL.of N⟩,V5 (K:=K) (a:=c) (xs:=tI ps) (λi σ d=>∃(bs:List Addr) (Y:Option V),σ=[some (.ref a),some (.ref L),some (.ref l),some (.int (C9 p ls.length (ps.take i):Int)),Y]/\y4 H d/\d c=some (.lst (tI ps))/\d l=some (.lst (bs.map V.ref))/\Z7 d bs (ls++J5 p ls.length (ps.take i)))
   ⟨m,none,by rw[cM];rfl,I,N,U _ _ M,by rw[cM,J5,bu];exact R.same I⟩ (λi σ d _ ⟨_,_,_,_,e,_⟩=>SqL.of e) ?_ ?_⟩
  .rintro i v σ d hv ⟨bs,Y,rfl,W,e,g,b⟩;obtain⟨x,T,rfl⟩:=X7 hv;have am:bs.length=ls.length+(ps.take i).length:=by rw[Paired.length b,ao,zr9]
   have hi:=(ag.mp T).1;have S:(ps.take i).length=i:=by rw[aK];lia
   dsimp only[h9];refine exI rfl ⟨.inl ⟨rfl,_,SqL.of g⟩,exI rfl (exI rfl ⟨(by show 3<=ge;decide),λt ht=>?_⟩)⟩;have J:=y0 ht (.tup [V.str "behind",V.int (C9 p ls.length (ps.take i):Int),V.int x]);have e3:(upd d t (.tup [V.str "behind",V.int (C9 p ls.length (ps.take i):Int),V.int x])) t=some (.tup (lnV (.behind (C9 p ls.length (ps.take i)) x))):=z4;generalize upd d t (.tup [V.str "behind",V.int (C9 p ls.length (ps.take i):Int),V.int x])=y at J e3 ⊢;have l3:=J _ _ g;refine⟨l,_,_,rfl,rfl,l3,by rw[ae];exact bC (show bs.length<=5000000 by lia) (by decide),?_⟩;have X:=W.trans J;have n3:∀xs,y l≠some (.tup xs):=λxs z=>by rw[l3]at z;cases z
   have G:(bs.map V.ref++[V.ref t])=(bs++[t]).map V.ref:=by rw[aJ];rfl
   rw[G];have O:(upd y l (.lst ((bs++[t]).map V.ref))) l=some (.lst ((bs++[t]).map V.ref)):=z4;have s4:y4 H (upd y l (.lst ((bs++[t]).map V.ref))):=u8 X hl _;have c4:(upd y l (.lst ((bs++[t]).map V.ref))) c=some (.lst (tI ps)):=by rw[z6 (Ne.symm lc)];exact J _ _ e
   have Z:Z7 (upd y l (.lst ((bs++[t]).map V.ref))) (bs++[t]) (ls++J5 p ls.length (ps.take (i+1))):=by
    rw[aT,T,show(some x).toList=[x] from rfl,zz9,←ba];exact Z7.upd (Paired.snoc (b.same J) e3) n3
   generalize upd y l (.lst ((bs++[t]).map V.ref))=H4 at O s4 c4 Z ⊢;refine exI rfl ⟨l,exI rfl ⟨.inl (SqL.of O),_,_,rfl,rfl,?_⟩⟩;dsimp only[h9];refine⟨bs++[t],some (V.int x),?_,s4,c4,O,Z⟩;rw[aT,T,show(some x).toList=[x] from rfl,zr8,ae,ao,aW,S];have:((bs.length+1:Nat):Int)-1=((ls.length+i:Nat):Int):=by lia
   rw[this];rfl
  .rintro σ d ⟨bs,Y,rfl,W,e,g,b⟩;rw[x9,bD]at b;refine exI rfl (q l d bs W g ?_);rw[←hps]at b ⊢;exact b
theorem u6.recs {ts:List (List Nat)}{S:ChS}(ga:u6 cG cC cB cS n H g ts S):TM.Rec ts.length S.ln:=λp l hl=>by
 have hp:p<S.md.length:=by rw[←ga.st.inv.fine.lnl];exact(ag.mp hl).1
 have ht:S.md[p]?=some S.md[p]:=aa hp
 have hi:=ga.st.inv.bks.mks p l _ hl ht
 have hT:=ga.st.inv.fine.wl.md _ (bw hp)
 generalize S.md[p]=t at *
 cases l with
 | still=>trivial
 | told k =>
  have hi:t=S.src k:=hi
  rw[ga.src]at hi
  show k<ts.length
  rcases cF k ts.length with z|z
  .exact z
  .have e:ts.getD k []=[]:=by rw[ah,aQ z];rfl
   have hn:=hT.length
   have hi:t=ts.getD k []:=hi
   rw[hi,e]at hn
   have:=ga.n0
   rw[bO]at hn
   lia
 | back a=>exact hi.1
 | behind a b=>exact⟨hi.1,hi.2.1⟩
theorem wa1 {X:Cx}{R5:List Expr}(g:PE X a ta)(i:PE X (.BoolOp .Or (b::R5) pos) tb):PE X (.BoolOp .Or (a::b::R5) pos) (λσ H Q=>ta σ H λx H1=>∃k,xq3 X.K x H1 k/\if k=true then Q x H1 else tb σ H1 Q):=by
 intro pins s σ H Q I h;refine PyProof.Rows.BoolOp_or (thn (g pins s σ H _ I h) λv s1 ⟨x,H1,f,e,k,j,m⟩=>?_);refine thn (xp5 pins s1 σ H1 x v (λl H2=>if l=true then Q x H2 else tb σ H2 Q) f e ⟨k,j,m⟩) λb n ⟨H2,c,d⟩=>?_
 cases b with
 | false=>exact i pins n σ H2 Q c d
 | true=>exact⟨x,H2,c,e,d⟩
theorem zu1 {S:ChS}(b:S.st.length=n)(ok:S.chn.Ok n)(j:S.Well n):∀(d:Nat) (x acc ls:List Nat),d<=n->TM.IsT n x->TM.Fix (n-d) x->P0 n S.md (S.st.drop (n-d)) (n-d) x acc=some ls->∃a,ls=acc++a/\(∀q∈a,q<S.md.length)/\a.length<=d/\D1 S.md (List.range n) a.reverse=x
 | 0,x,acc,ls,_,hx,hf,h=>by
  rw[cE,cD (by lia),P0]at h
  cases h
  rw[cE]at hf
  exact⟨[],(bu _).symm,λ_ z=>(by cases z),af _,(TM.Fix.all hx hf).symm⟩
 | d+1,x,acc,ls,hd,hx,hf,h=>by
  have hj:n-(d+1)<n:=by lia
  have e:n-(d+1)+1=n-d:=by lia
  rw[ChS.drop_at (by lia),P0]at h
  cases ea:atN (S.atS (n-(d+1))).to (x.getD (n-(d+1)) 0) with
  | none=>rw[ea]at h;cases h
  | some k =>
   rw[ea]at h
   dsimp only at h
   have l:x.getD (n-(d+1)) 0∈S.chn.ring (n-(d+1)):=J0 ea
   have o:=ok.upT hj l
   have r:=ChS.chn_up ea
   obtain⟨p,i⟩:=ok.off hj hx hf l
   rw[r]at o p i
   rw[e]at h i
   have u:k<S.md.length:=by
    have m:n-(d+1)<S.st.length:=by lia
    have:=ChS.atS_of (aa m)
    rw[this]at ea
    exact(j.to _ (bw m) _ (V2 ea)).2
   by_cases f:x.getD (n-(d+1)) 0=n-(d+1)
   .rw[if_pos f]at h
    have g:TM.Fix (n-d) x:=λy w=>by
     by_cases s:y=n-(d+1)
     .rw[s];exact f
     .exact hf y (by lia)
    obtain⟨a,h1,h2,t,c⟩:=zu1 b ok j d x acc ls (by lia) hx g h
    exact⟨a,h1,h2,by lia,c⟩
   .rw[if_neg f]at h
    obtain⟨a,h1,h2,t,c⟩:=zu1 b ok j d _ _ ls (by lia) p i h
    refine⟨k::a,by rw[h1,ba];rfl,λq v=>?_,by rw[av];lia,?_⟩
    .rcases ax.mp v with z|z
     .rw[z];exact u
     .exact h2 q z
    .rw[eI]
     unfold D1 at c ⊢
     rw[eJ,c]
     exact TM.off_on hx o
structure wc4 (n:Nat) (ts:List (List Nat)) (x:List Nat) (L:List TM.Ln):Prop where
 rc:TM.Rec ts.length L
 ne:L≠[]
 len:L.length<=5000000
 made:(TM.mkAll n ts L).getD (L.length-1) []=x
 nb:∀q,q<L.length->TM.nb L q=true
def ym9 (cG cC cB cS:Addr):Sp:=λvs H Q _=>∃(g tr:Addr) (n:Nat) (ts:List (List Nat)) (S:ChS) (t:List Nat),vs=[.ref g,.ref tr]/\u6 cG cC cB cS n H g ts S/\H tr=some (.tup (tI t))/\TM.IsT n t/\TM.Grp n (λz=>z∈ts) t /\
 ∀(r:Addr) (H':Hp) (bs:List Addr) (L:List TM.Ln),H r=none->y4 H H'->H' r=some (.lst (bs.map V.ref))->Z7 H' bs L->wc4 n ts t L->Q (.ref r) H'
theorem D2:x0 ["self","thing","parts"] ["self","thing"] (y6 O3):=scq
theorem zn5 (F:Fun K "recipe" "Group.recipe" O3 f fd)(B:Blt mg)(cg:m9 K cG X8)(cc:m9 K cC Z1)(cb:m9 K cB zb5)(MN:b9 P w K mg base 5 cG "need_in" ["self","thing"] (ym7 cG cC cB cS))(MS:b9 P w K mg base 2 cC "sifted" ["self","turning","level"] (yg2 cC cB cS))(KO:p6 P w K mg base 1 "one_behind_another" ["lines","parts"] (xo1 K))(KT:p6 P w K mg base 3 "trimmed" ["lines"] (ya7 K))(GS:za6 mg "STILL_LINE" (.int 0)):u7 P w K mg base CX0 6 f fd ["self","thing"] (ym9 cG cC cB cS):=by
 refine F.ok D2 (λvs H Q E h=>?_) (λbu Ar outer sh H vs Q E hr h=>?_)
 .obtain⟨g,tr,n,ts,S,t,rfl,_⟩:=h;rfl
 obtain⟨g,tr,n,ts,S,t,rfl,a,ag,hT,hG,q⟩:=h;refine⟨_,z7 (i5 (Z3 cg.cls MN hr (pv 0) (z0 (pv 1) z5)))
  (z7 (u0 (i:=2) D2.nd rfl (Or.inl rfl) (wa1 (ys0 rfl rfl B.list W1 rfl B.reversed (z0 (Z3 cc.cls MS hr (y9 (pv 0) rfl) (z0 (pv 1) (z0 y8 z5))) z5)) (B2 (Z2 (z0 (K2 GS rfl) z5)))))
  (z8 (v0 (r6 KT hr rfl (z0 (r6 KO hr rfl (z0 (y9 (y9 (y9 (pv 0) rfl) rfl) rfl) (z0 (pv 2) z5))) z5))))),?_⟩
 obtain⟨dx,ma,A,ce,h1,h2,h3,h4⟩:=a.at';refine exI rfl (Z6 h1 rfl (exI rfl ⟨g,tr,n,ts,S,t,rfl,a,ag,hT,hG,λH1 s1=>?_⟩));have bx:=a.same s1;have C:=h4.same s1;obtain⟨bw,hc⟩:=C.c;have ac:=(a.st.inv.holds (j:=0) (aG _) (λi _ hi=>a.st.done i hi) hT (TM.Fix.zero t)).mpr ((a.grp t).mpr hG);obtain⟨ls,O⟩:∃ls,P0 n S.md (S.st.drop 0) 0 t []=some ls:=dD.mp ac;have az:=zu1 a.st.inv.len a.st.inv.ok a.st.inv.fine.wl n t [] ls (af _) hT (by rw[bQ];exact TM.Fix.zero t) (by rw[bQ];exact O);obtain⟨l',aa,au,ca,o⟩:=az;rw[fN]at aa;subst aa;have T:=a.recs;have s:=a.st.inv.fine.lnl;have bg:=a.lnl;have b':=a.n60;have bj:=a.st.inv.fine.pos;have md:=a.made;have fin:∀(p:Nat) (ps:List Nat) (M:Hp),y4 H1 M->p<S.md.length->(∀x∈ps,x<S.md.length)->ps.length<=60->D1 S.md (S.md.getD p []) ps=t ->
   ∀(r:Addr) (H':Hp),M r=none->y4 M H'->∀bs:List Addr,H' r=some (.lst (bs.map V.ref))->Z7 H' bs (TM.stay (zx7 S.ln (p::ps)))->Q (.ref r) H':=λp ps M m Z d D l r H' ax s' bs v u=>by
  obtain⟨I,y,o3,o4⟩:=ye3 (n:=n) (ms:=ts) T (by rw[s];exact Z) λx e=>by rw[s];exact d x e
  rw[←md,l]at o4;have X:=TM.stay_len I y;have bi:=TM.pos_le (TM.nb (zx7 S.ln (p::ps))) ((zx7 S.ln (p::ps)).length-1);have ac:0<(zx7 S.ln (p::ps)).length:=cp.mpr y;refine q r H' bs _ (s1.free (m.free ax)) (s1.trans (m.trans s')) v u ⟨TM.stay_rec I y,TM.stay_ne I y,by lia,?_,λx e=>TM.stay_all I y e⟩;rw[X,eF,←TM.stay_mk I y _ (by lia) TM.nb_last];exact o4
 refine exI rfl (p7 cg (s1 _ _ h1) rfl (Z6 hc rfl (exI rfl ⟨A,S,n,0,tr,t,rfl,C,a.st.inv.fine.wl,s1 _ _ ag,hT,aG _,a.n60,λz=>absurd z (by rw[O];exact Option.some_ne_none _),λcd sl H2 e2 bl s2 X=>?_⟩)));rw[O]at e2
 cases e2
 refine⟨sl,exI rfl ⟨SqL.of X,λrl ay=>?_⟩⟩;have s3:=y0 ay (.lst (tI ls).reverse);have e3:(upd H2 rl (.lst (tI ls).reverse)) rl=some (.lst (tI ls.reverse)):=by rw[z4];unfold tI;rw[List.map_reverse]
 generalize upd H2 rl (.lst (tI ls).reverse)=H3 at s3 e3 ⊢;have ai:=s2.trans s3;obtain⟨bv,hb⟩:=C.bk.b;obtain⟨ah,ab,J⟩:=C.bk.ll;refine⟨_,.inl ⟨_,SqL.of e3,rfl⟩,?_⟩
 cases hrev:ls.reverse with
 | nil =>
  rw[hrev]at o;have o:List.range n=t:=o;refine o0 ⟨(by show 1<=ge;decide),λY ad=>?_⟩;have s4:=y0 ad (.lst [V.int 0]);have k:(upd H3 Y (.lst [V.int 0])) Y=some (.lst (tI (0::[]))):=z4;generalize upd H3 Y (.lst [V.int 0])=M at s4 k ⊢;have m:=ai.trans s4;dsimp only[h9];obtain⟨p,ps,ae,G⟩:∃(p:Nat) (ps:List Nat),p=0/\ps=[]:=⟨_,_,rfl,rfl⟩;have k:M Y=some (.lst (tI (p::ps))):=by rw[ae,G];exact k
  have Z:p<S.md.length:=by lia
  have d:∀x∈ps,x<S.md.length:=λx e=>by rw[G]at e;cases e
  have D:ps.length<=60:=by rw[G];exact aG _
  have l:D1 S.md (S.md.getD p []) ps=t:=by rw[G,ae];exact a.st.inv.fine.md0.trans o
  refine exI rfl (p7 cg (m _ _ (s1 _ _ h1)) rfl (p7 cc (m _ _ hc) rfl (p7 cb (m _ _ hb) rfl (exI rfl ⟨A.ll,Y,ah,S.ln,p,ps,rfl,m _ _ ab,J.same m,k,by lia,λx e=>by rw[s];exact d x e,by lia,λr1 H6 N s6 U R=>?_⟩))));obtain⟨I,y,o3,o4⟩:=ye3 (n:=n) (ms:=ts) (ps:=ps) T (show p<S.ln.length by lia) λx e=>by rw[s];exact d x e
  exact⟨r1,N,_,ts.length,rfl,U,R,I,y,by lia,λr H7 bs W s7 v u=>fin p ps H6 (m.trans s6) Z d D l r H7 W s7 bs v u⟩
 | cons p ps =>
  rw[hrev]at e3 o;have L:∀x∈p::ps,x<S.md.length:=λx e=>au x (eR.mp (by rw[hrev];exact e));have bh:ls.length=ps.length+1:=by rw[←dY,hrev,av]
  have Z:p<S.md.length:=L p aw;have d:∀x∈ps,x<S.md.length:=λx e=>L x (ar _ e);have D:ps.length<=60:=by lia
  have l:D1 S.md (S.md.getD p []) ps=t:=by
   rw[←o];show _=D1 S.md (TM.beh (List.range n) (S.md.getD p [])) ps;rw[TM.still_beh (a.st.inv.fine.wl.at Z)]
  refine i9 ?_;dsimp only[h9];have m:=ai;have k:=e3;generalize H3=M at m k ⊢;generalize rl=Y at k ⊢;refine exI rfl (p7 cg (m _ _ (s1 _ _ h1)) rfl (p7 cc (m _ _ hc) rfl (p7 cb (m _ _ hb) rfl (exI rfl ⟨A.ll,Y,ah,S.ln,p,ps,rfl,m _ _ ab,J.same m,k,by lia,λx e=>by rw[s];exact d x e,by lia,λr1 H6 N s6 U R=>?_⟩))));obtain⟨I,y,o3,o4⟩:=ye3 (n:=n) (ms:=ts) (ps:=ps) T (show p<S.ln.length by lia) λx e=>by rw[s];exact d x e
  exact⟨r1,N,_,ts.length,rfl,U,R,I,y,by lia,λr H7 bs W s7 v u=>fin p ps H6 (m.trans s6) Z d D l r H7 W s7 bs v u⟩
def ym3 (K:W.Frag):Sp:=λvs H Q _=>∃(a:Addr) (ns:List Int) (k:Nat),vs=[.ref a,.int k]/\SqL K H a (ns.map V.int)/\Q (.int (ns.getD k 0)) H
theorem yf7:x0 ["_law_script","_law_k"] ["_law_script","_law_k"] (y6 B6):=scq
theorem yd9 (D:Def K mg "_law_cell" B6 ["_law_script","_law_k"] f fd)(B:Blt mg):u7 P w K mg base CX0 1 f fd ["_law_script","_law_k"] (ym3 K):=by
 refine D.F.ok yf7 (λj H Q E h=>?_) (λi A outer s H j Q E hr h=>?_)
 .obtain⟨a,b,k,rfl,_⟩:=h;rfl
 obtain⟨a,b,k,rfl,hS,q⟩:=h;refine⟨_,z7 (n4 (p5 ya0 (pv 1) (w8 v1 rfl B.len i8 (z0 (pv 0) z5)) (o6 _)) (z8 (v0 (p9 p0 (pv 0) (pv 1) (λ_ _=>rfl)))) u4) (z8 (v0 y8)),?_⟩;refine exI rfl (exI rfl ⟨a,exI rfl ⟨.inl hS,_,_,rfl,rfl,_,rfl,?_⟩⟩);refine xi4 (λc=>?_) (λc=>?_)
 .have d:(k:Int)<(((b.map V.int).length:Nat):Int):=of_decide_eq_true c;rw[ae]at d;have g:k<b.length:=by lia
  have e:b.getD k 0=b[k]:=by rw[ah,aa g];rfl
  rw[e]at q;exact exI rfl (exI rfl ⟨a,_,_,_,rfl,rfl,hS,o8 (by rw[al,aa g];rfl),q⟩)
 .have d:¬(k:Int)<(((b.map V.int).length:Nat):Int):=of_decide_eq_false (cJ.mpr c);rw[ae]at d;have e:b.getD k 0=0:=by rw[ah,aQ (by lia)];rfl
  rw[e]at q;exact q
def ye6 (c:Int)(n:Nat):Nat->Int×List Nat×List Nat
 | 0=>(c,[],List.range n)
 | i+1=>((ye6 c n i).1 / ((n:Int)-(i:Int)),(ye6 c n i).2.1++[(ye6 c n i).2.2.getD ((ye6 c n i).1 % ((n:Int)-(i:Int))).toNat 0],(ye6 c n i).2.2.eraseIdx ((ye6 c n i).1 % ((n:Int)-(i:Int))).toNat)
def we3 (c:Int)(n:Nat):List Nat:=(ye6 c n n).2.1
def zk9:Sp:=λvs H Q _=>∃(c:Int) (n:Nat),vs=[.int c,.int n]/\n<=100/\∀(r:Addr) (H':Hp) (row:List Nat),H r=none->y4 H H'->TM.IsT n row->row=we3 c n->H' r=some (.lst (tI row))->Q (.ref r) H'
theorem Y5:x0 ["_law_number","_law_many","_law_left","_law_made","_law_k","_law_at"] ["_law_number","_law_many"] (y6 F7):=scq
theorem zx2 (D:Def K mg "_law_order" F7 ["_law_number","_law_many"] f fd)(B:Blt mg):u7 P w K mg base CX0 1 f fd ["_law_number","_law_many"] zk9:=by
 refine D.F.ok Y5 (λvs H Q E h=>?_) (λX A outer s H vs Q E hr h=>?_)
 .obtain⟨c,n,rfl,_⟩:=h;rfl
 obtain⟨c,n,rfl,hn,q⟩:=h;refine⟨_,z7 (u0 (i:=2) Y5.nd rfl (Or.inl rfl) (u9 (M5 rfl) rfl B.list W1 (z0 (u9 L5 rfl B.range D8 (z0 (pv 1) z5)) z5)))
  (z7 (u0 (i:=3) Y5.nd rfl (Or.inl rfl) (Z2 z5))
  (z7 (Z9 PassesOwn.never rfl (T0 rfl B.range (z0 (pv 1) z5)) (t9 (i:=4) Y5.nd rfl (Or.inl rfl))
   (z7 (zd3 (w8 zl4 rfl B.divmod zz0 (z0 (pv 0) (z0 (o7 zj4 (pv 1) (pv 4)) z5))) (J9 rfl (i6 (t9 (i:=0) Y5.nd rfl (Or.inl rfl)) (i6 (t9 (i:=5) Y5.nd rfl (Or.inl rfl)) Q7))))
   (z8 (i5 (K1 PySem.F.plainAttrs_list PySem.F.slot_list_append PySem.F.type_list_append c3 (pv 3) (z0 (K1 PySem.F.plainAttrs_list PySem.F.slot_list_pop PySem.F.type_list_pop xk5 (pv 2) (z0 (pv 5) z5)) z5))))))
  (z8 (v0 (pv 3))))),?_⟩
 refine exI rfl (exI rfl (λp hp=>⟨p,0,(n:Int),rfl,z4,⟨by lia,by lia,by lia,by lia,by lia⟩,λl U=>?_⟩));rw[show((n:Int)-0).toNat=n by lia,A3];have pl:p≠l:=z9 z4 U;have v:H l=none:=by
  have:=U;rwa [z6 (Ne.symm pl)]at this
 have s1:y4 H (upd (upd H p (.rng 0 (n:Int))) l (.lst (tI (List.range n)))):=u8 (y0 hp _) v _;have C:(upd (upd H p (.rng 0 (n:Int))) l (.lst (tI (List.range n)))) l=some (.lst (tI (List.range n))):=z4;generalize upd (upd H p (.rng 0 (n:Int))) l (.lst (tI (List.range n)))=H1 at s1 C ⊢;refine⟨(by show 0<=ge;decide),λr m=>?_⟩;have N:l≠r:=z9 C m;have y:H r=none:=s1.free m;refine exI rfl (exI rfl ⟨by lia,by lia,xb1 (n:=((n:Nat):Int).toNat) (λi σ H2=>∃(a:Int) (row left:List Nat) (R S:Option V),σ=[some (.int a),some (.int n),some (.ref l),some (.ref r),R,S]/\y4 H H2/\H2 l=some (.lst (tI left))/\H2 r=some (.lst (tI row))/\TM.IsT n (row++left)/\left.length+i=n/\ye6 c n i=(a,row,left))
  ⟨_,[],List.range n,none,none,rfl,s1.trans (y0 m _),by rw[z6 N];exact C,z4,TM.IsT.range n,by rw[aU];rfl,rfl⟩ ?_ ?_⟩)
 .rintro i σ H2 hi ⟨a,row,left,R,S,rfl,O,g,d,hT,x,b⟩;have Z:i<n:=by lia
  have Y:(0:Int)+(i:Int)=((i:Nat):Int):=by lia
  rw[Y];have z:(0:Int)<(n:Int)-(i:Int):=by lia
  obtain⟨k,T,G⟩:∃k:Nat,a % ((n:Int)-(i:Int))=(k:Int)/\k<left.length:=by
   have h1:=dS a (show(n:Int)-(i:Int)≠0 by lia);have h2:=dC a z;exact⟨(a % ((n:Int)-(i:Int))).toNat,by lia,by lia⟩
  have M:left[k]?=some left[k]:=aa G;have ac:row.length<=n:=by
   have:=hT.length;rw[ao]at this;lia
  refine exI rfl (exI rfl (exI rfl ⟨_,_,rfl,rfl,_,_,rfl,⟨z,by lia⟩,λu t=>?_⟩));have I:l≠u:=z9 g t;have L:r≠u:=z9 d t;refine⟨u,exI rfl ⟨SqT.of z4,rfl,_,_,rfl,_,_,rfl,rfl,?_⟩⟩;have W:=O.trans (y0 t (.tup [V.int (a / ((n:Int)-(i:Int))),V.int (a % ((n:Int)-(i:Int)))]));have j:(upd H2 u (.tup [V.int (a / ((n:Int)-(i:Int))),V.int (a % ((n:Int)-(i:Int)))])) l=some (.lst (tI left)):=by rw[z6 I];exact g
  have o:(upd H2 u (.tup [V.int (a / ((n:Int)-(i:Int))),V.int (a % ((n:Int)-(i:Int)))])) r=some (.lst (tI row)):=by rw[z6 L];exact d
  generalize upd H2 u (.tup [V.int (a / ((n:Int)-(i:Int))),V.int (a % ((n:Int)-(i:Int)))])=H3 at W j o ⊢;rw[T];refine exI rfl ⟨.inl ⟨rfl,_,SqL.of o⟩,exI rfl ⟨.inl ⟨rfl,_,SqL.of j⟩,exI rfl ⟨l,_,_,k,V.int (left[k]:Int),rfl,rfl,j,by lia,by lia,by rw[x9];exact xu0 G,ya8 M,r,tI row,_,rfl,rfl,?_,?_,?_⟩⟩⟩
  .rw[z6 (Ne.symm N)];exact o
  .rw[x9];exact zk8 (by lia)
  refine⟨_,row++[left[k]],left.eraseIdx k,_,_,rfl,u8 (u8 W v _) y _,?_,?_,TM.draw_perm hT M,?_,?_⟩
  .rw[z6 N,z4,yn5]
  .rw[z4,zl0];rfl
  .rw[List.length_eraseIdx_of_lt G];lia
  .rw[ye6,b];dsimp only;rw[T,bG,ah,M];rfl
 .rintro σ H2 ⟨a,row,left,R,S,rfl,O,g,d,hT,x,b⟩;have e:left=[]:=cv.mp (by lia);subst e;rw[bu]at hT;have J:((n:Nat):Int).toNat=n:=by lia
  rw[J]at b;exact exI rfl (q r H2 row y O hT (by unfold we3;rw[b]) d)
def U8 (t:List Nat):PyData:=.tuple ((t.map λ(x:Nat)=>(x:Int)).map PyData.int)
theorem zr1 (ns:List Int):PyData.canLayAll0 (ns.map PyData.int)=true/\PyData.depthAll (ns.map PyData.int)<=1:=by
 induction ns with
 | nil=>simp[PyData.canLayAll0,PyData.depthAll]
 | cons n r ih =>
  obtain⟨h1,h2⟩:=ih;refine⟨by simp[PyData.canLayAll0,PyData.canLay0,h1],?_⟩;simp only[aN,PyData.depthAll,PyData.depth];lia
theorem xm7 (ts:List (List Nat)):PyData.canLayAll0 (ts.map U8)=true/\PyData.depthAll (ts.map U8)<=2:=by
 induction ts with
 | nil=>simp[PyData.canLayAll0,PyData.depthAll]
 | cons t r ih =>
  obtain⟨h1,h2⟩:=ih;obtain⟨a,b⟩:=zr1 (t.map λ(x:Nat)=>(x:Int));refine⟨by simp only[aN,PyData.canLayAll0,U8,PyData.canLay0,h1,a];rfl,?_⟩;simp only[aN,PyData.depthAll,U8,PyData.depth];lia
theorem zm7 (ts:List (List Nat)):PyData.eqv (.list (ts.map U8)) (.list (ts.map U8))=true/\PySem.SeqAt.shaped (.list (ts.map U8))=true:=by
 obtain⟨h1,h2⟩:=xm7 ts;have a:(PyData.list (ts.map U8)).canLay0=true:=by simp only[PyData.canLay0];exact h1
 refine⟨PySem.SeqAt.eqv_refl _ a,?_⟩;unfold PySem.SeqAt.shaped;rw[bn];refine⟨a,decide_eq_true ?_⟩;simp only[PyData.depth];lia
theorem ym1 (ns:List Int):PyData.eqv (.list (ns.map PyData.int)) (.list (ns.map PyData.int))=true/\PySem.SeqAt.shaped (.list (ns.map PyData.int))=true:=by
 obtain⟨h1,h2⟩:=zr1 ns;have a:(PyData.list (ns.map PyData.int)).canLay0=true:=by simp only[PyData.canLay0];exact h1
 refine⟨PySem.SeqAt.eqv_refl _ a,?_⟩;unfold PySem.SeqAt.shaped;rw[bn];refine⟨a,decide_eq_true ?_⟩;simp only[PyData.depth];lia
theorem zi5 (e:H b=some (.tup (tI t))):Dt H (.ref b) (U8 t):=by
 unfold U8;rw[bF];exact yf4 e
theorem C4 {a:List Addr}{ts:List (List Nat)}(h:c6 H a ts):Dts H (a.map V.ref) (ts.map U8):=by
 induction h with
 | nil=>exact .nil
 | cons f _ ih=>exact .cons (zi5 f) ih
theorem E7 (t:List Nat):PySem.SeqAt.shaped (U8 t)=true:=by
 obtain⟨h1,h2⟩:=zr1 (t.map λ(x:Nat)=>(x:Int));have a:(U8 t).canLay0=true:=by simp only[U8,PyData.canLay0];exact h1
 unfold PySem.SeqAt.shaped;rw[bn];refine⟨a,decide_eq_true ?_⟩;simp only[U8,PyData.depth];lia
theorem yg8:∀{t u:List Nat},(t.map λ(x:Nat)=>(x:Int))=(u.map λ(x:Nat)=>(x:Int))->t=u
 | [],[],_=>rfl
 | x::t,y::u,h=>by
  rw[aN,aN]at h
  obtain⟨h1,h2⟩:=List.cons.inj h
  rw[yg8 h2,show x=y by lia]
 | [],_::_,h=>by cases h
 | _::_,[],h=>by cases h
theorem zo4 (t u:List Nat):PyData.eqv (U8 t) (U8 u)=decide (t=u):=by
 unfold U8;rw[PyData.eqv,C5];exact decide_eq_decide.mpr ⟨yg8,λh=>by rw[h]⟩
theorem xq5 (L:List (List Nat))(t:List Nat):((L.map U8).any λe=>PyData.eqv e (U8 t))=decide (t∈L):=by
 rw[fU];by_cases h:t∈L
 .rw[decide_eq_true h];exact fJ.mpr ⟨t,h,by show PyData.eqv (U8 t) (U8 t)=true;rw[zo4,decide_eq_true rfl]⟩
 .rw[decide_eq_false h];refine fE.mpr λu a e=>h ?_;have e:PyData.eqv (U8 u) (U8 t)=true:=e;rw[zo4]at e;rw[←of_decide_eq_true e];exact a
def ya5:Sp:=λvs H Q _=>∃(c:Int) (wa:Addr) (n:Nat) (W:List Nat),vs=[.int c,.ref wa,.int n]/\H wa=some (.lst (tI W))/\W.Nodup/\(∀x∈W,x<n)/\W.length<=60/\n<=60 /\
 ∀(r:Addr) (H':Hp) (t:List Nat),H r=none->y4 H H'->TM.IsT n t->TM.Only n W t->H' r=some (.tup (tI t))->Q (.ref r) H'
theorem T8:x0 ["_law_cell_here","_law_window","_law_many","_law_made","_law_k","_law_to"] ["_law_cell_here","_law_window","_law_many"] (y6 F6):=scq
theorem zx1 (D:Def K mg "_law_maker" F6 ["_law_cell_here","_law_window","_law_many"] f fd)(B:Blt mg)(KO:p6 P w K mg base 1 "_law_order" ["_law_number","_law_many"] zk9):u7 P w K mg base CX0 2 f fd ["_law_cell_here","_law_window","_law_many"] ya5:=by
 refine D.F.ok T8 (λvs H Q E h=>?_) (λae A outer s H vs Q E hr h=>?_)
 .obtain⟨c,U,n,W,rfl,_⟩:=h;rfl
 obtain⟨c,U,n,W,rfl,v,X,j,ak,hn,q⟩:=h;refine⟨_,z7 (u0 (i:=3) T8.nd rfl (Or.inl rfl) (u9 (M5 rfl) rfl B.list W1 (z0 (u9 L5 rfl B.range D8 (z0 (pv 2) z5)) z5)))
  (z7 (Z9 PassesOwn.never rfl (zg3 rfl B.enumerate (z0 (r6 KO hr rfl (z0 (pv 0) (z0 (w8 v1 rfl B.len i8 (z0 (pv 1) z5)) z5))) z5)) (J9 rfl (i6 (t9 (i:=4) T8.nd rfl (Or.inl rfl)) (i6 (t9 (i:=5) T8.nd rfl (Or.inl rfl)) Q7)))
   (z8 (zd3 (p9 p0 (pv 1) (pv 5) (λ_ _=>rfl)) (zs8 (pv 3) (p9 p0 (pv 1) (pv 4) (λ_ _=>rfl)) A1))))
  (z8 (v0 (u9 l5 rfl B.tuple f9 (z0 (pv 3) z5))))),?_⟩
 refine exI rfl (exI rfl (λp hp=>⟨p,0,(n:Int),rfl,z4,⟨by lia,by lia,by lia,by lia,by lia⟩,λl Y=>?_⟩));rw[show((n:Int)-0).toNat=n by lia,A3];have pl:p≠l:=z9 z4 Y;have o:H l=none:=by
  have:=Y;rwa [z6 (Ne.symm pl)]at this
 have s1:y4 H (upd (upd H p (.rng 0 (n:Int))) l (.lst (tI (List.range n)))):=u8 (y0 hp _) o _;have J:(upd (upd H p (.rng 0 (n:Int))) l (.lst (tI (List.range n)))) l=some (.lst (tI (List.range n))):=z4;generalize upd (upd H p (.rng 0 (n:Int))) l (.lst (tI (List.range n)))=H1 at s1 J ⊢;refine exI rfl (exI rfl ⟨U,exI rfl ⟨.inl (SqL.of (s1 _ _ v)),c,(tI W).length,rfl,by rw[x9];lia,λr H2 row t Z a _ b=>?_⟩⟩);rw[x9]at a;have rl:r≠l:=λz=>by subst z;rw[J]at t;cases t
 have S2:=s1.trans Z;refine⟨r,rfl,⟨_,SqL.of b⟩,L8 (xs:=tI row) (λi σ d=>∃(g:List Nat) (R S:Option V),σ=[some (.int c),some (.ref U),some (.int n),some (.ref l),R,S]/\y4 H d/\d r=some (.lst (tI row))/\d l=some (.lst (tI g))/\TM.Sprd n W row i g)
  ⟨List.range n,none,none,rfl,S2,b,Z _ _ J,TM.Sprd.start⟩ (λi σ d _ ⟨_,_,_,_,_,I,_⟩=>SqL.of I) ?_ ?_⟩
 .rintro i x σ d T hx ⟨g,R,S,rfl,C,I,e,sp⟩ L;obtain⟨y,N,rfl⟩:=X7 hx;have hi:i<W.length:=by rw[←a.length];exact(ag.mp N).1
  have k:W[i]?=some W[i]:=aa hi;have O:y<W.length:=a.get_lt N;have m:W[y]?=some W[y]:=aa O;have ey:row.getD i 0=y:=TM.getD_of N;have ew:W.getD (row.getD i 0) 0=W[y]:=by rw[ey];exact TM.getD_of m
  have G:=y0 L (.tup [V.int ((i:Nat):Int),V.int ((y:Nat):Int)]);refine⟨T,exI rfl ⟨SqT.of z4,rfl,_,_,rfl,_,_,rfl,rfl,?_⟩⟩;generalize upd d T (.tup [V.int ((i:Nat):Int),V.int ((y:Nat):Int)])=H4 at G ⊢;have w4:=G _ _ (C _ _ v);have M:W[i]<g.length:=by rw[sp.len];exact j _ (bw hi)
  refine exI rfl (exI rfl (ixI (SqL.of w4) (A2 m) (exI rfl (exI rfl (exI rfl (ixI (SqL.of w4) (A2 k) ⟨l,tI g,_,W[i],rfl,rfl,G _ _ e,by rw[x9];exact zf2 M,?_⟩))))));have st:=sp.step X j k;rw[ew]at st;refine⟨g.set W[i] W[y],_,_,rfl,u8 (C.trans G) o _,by rw[z6 rl];exact G _ _ I,by rw[z4,yg4],st⟩
 .rintro σ d ⟨g,R,S,rfl,C,I,e,sp⟩;rw[x9,a.length]at sp;obtain⟨gT,gO⟩:=sp.done X j a;exact exI rfl ⟨l,exI rfl (.inl ⟨SqL.of e,λtp u=>q tp _ g (C.free u) (C.trans (y0 u _)) gT gO z4⟩)⟩
def xu2 (AH:Hp->Addr->Prop)(LK:Hp->V->Option (List Nat)->Prop)(X:Addr):Sp:=λvs H Q E=>∃(a:Addr) (v:V) (r:Option (List Nat)),vs=[.ref a,v]/\AH H a/\LK H v r/\(∀l,r=some l->∀(o:Addr) (H':Hp),y4 H H'->H' o=some (.tup (tI l))->Q (.ref o) H')/\(r=none->∀H',y4 H H'->E (.ref X) none H')
def AHL (cL:Addr)(n:Nat):Hp->Addr->Prop:=λH a=>wc2 H a cL n
def LKL (n:Nat):Hp->V->Option (List Nat)->Prop:=λH v r=>∃d,Dt H v d/\r=zb1 60 n d
theorem xt6 {l:List Nat}(h:zb1 m n d=some l):l.length<=m/\∀x∈l,x<n:=by
 unfold zb1 at h;obtain⟨ds,_,h⟩:=Option.bind_eq_some_iff.mp h;by_cases b:ds.length<=m
 .rw[if_pos b]at h;obtain⟨a,_,c⟩:=zp1 h;exact⟨by rw[a];exact b,c⟩
 .rw[if_neg b]at h
  cases h
theorem zo1:x0 ["self","thing"] ["self","thing"] (y6 O4):=scq
theorem zn6 (F:Fun K "looked" "Lists.looked" O4 f fd)(g:m9 K cL ["many"])(c:P4 P w K mg base 4 "row_of_places" ["thing","most","many"] (xo5 X))(b:za6 mg "MOST_IN_ROW" (.int 60)):u7 P w K mg base (CX1 P w) 6 f fd ["self","thing"] (xu2 (AHL cL n) (LKL n) X):=by
 refine F.okX zo1 (λt H Q E h=>?_) (λe A outer s H t Q E hr h=>?_)
 .obtain⟨a,v,r,rfl,_⟩:=h;rfl
 obtain⟨a,v,r,rfl,⟨dx,i⟩,⟨d,j,rfl⟩,q,p⟩:=h;refine⟨_,z8 (v0 (yr9 c hr rfl (z0 (pv 1) (z0 (K2 b rfl) (z0 (y9 (pv 0) rfl) z5))))),?_⟩;exact exI rfl (exI rfl (p7 g i rfl ⟨v,d,60,n,rfl,j,by decide,λl k o H1 s1 m=>q l k o H1 s1 m,p⟩))
def Y2 (l:List Nat):List Nat:=l.foldl (λa x=>if x∈a then a else a++[x]) []
theorem xb2 (l:List Nat)(x:Nat):Y2 (l++[x])=if x∈Y2 l then Y2 l else Y2 l++[x]:=by
 unfold Y2;rw[eJ];rfl
theorem xr2 (l:List Nat):∀a:List Nat,a.Nodup->(l.foldl (λa x=>if x∈a then a else a++[x]) a).Nodup/\(l.foldl (λa x=>if x∈a then a else a++[x]) a).length<=a.length+l.length/\∀x,x∈l.foldl (λa x=>if x∈a then a else a++[x]) a↔x∈a∨x∈l:=by
 induction l with
 | nil=>exact λa d=>⟨d,af _,λx=>by simp⟩
 | cons y l ih =>
  intro a d;rw[dO];by_cases h:y∈a
  .rw[if_pos h];obtain⟨h1,h2,f⟩:=ih a d;exact⟨h1,by rw[av];lia,λx=>by rw[f,ax];exact⟨λz=>z.imp id .inr,λz=>z.elim .inl λz=>z.elim (λe=>.inl (e ▸ h)) .inr⟩⟩
  .rw[if_neg h];obtain⟨h1,h2,f⟩:=ih (a++[y]) (bz.mpr ⟨d,by simp,λb g c i=>by rw[aq.mp i];exact λz=>h (z ▸ g)⟩);exact⟨h1,by rw[ao]at h2;rw[av];exact aD h2 (by simp;lia),λx=>by rw[f,aH,aq,ax,or_assoc]⟩
theorem yv8 (l:List Nat):(Y2 l).Nodup/\(Y2 l).length<=l.length/\∀x,x∈Y2 l↔x∈l:=by
 obtain⟨h1,h2,a⟩:=xr2 l [] cW;rw[bO,bP]at h2;exact⟨h1,h2,λx=>(a x).trans ⟨λz=>z.elim (λz=>(by cases z)) id,.inr⟩⟩
def kNs (L:List Nat):List (Key×V):=L.map λ(x:Nat)=>(Sum.inl (x:Int),V.bl true)
theorem yo1 (u:Nat):∀L:List Nat,V0 (kNs L) (Sum.inl (u:Int):Key)=if u∈L then some (V.bl true) else none
 | []=>rfl
 | t::L=>by
  have e:kNs (t::L)=(Sum.inl (t:Int),V.bl true)::kNs L:=rfl
  rw[e]
  by_cases h:t=u
  .subst h
   rw[if_pos aw]
   exact d9 rfl
  .rw[g6 λz=>h (by injection z with z;lia),yo1 u L]
   by_cases h2:u∈L
   .rw[if_pos h2,if_pos (ar _ h2)]
   .rw[if_neg h2,if_neg λz=>(ax.mp z).elim (λe=>h e.symm) h2]
theorem xl9 (u:Nat)(L:List Nat):putK (kNs L) (Sum.inl (u:Int):Key) (V.bl true)=kNs (if u∈L then L else L++[u]):=by
 have e:=yo1 u L;by_cases h:u∈L
 .rw[if_pos h]at e ⊢;unfold putK;rw[U3,e];show(kNs L).map _=kNs L;rw[bT (g:=id),dU];intro b a;obtain⟨x,_,rfl⟩:=az.mp a;show(if _ then _ else _)=_
  split <;> rfl
 .rw[if_neg h]at e ⊢;rw[L2.putK_new _ e];unfold kNs;rw[aJ];rfl
def zu6 (K:W.Frag):Sp:=λvs H Q _=>∃(a:Addr) (l:List Nat),vs=[.ref a]/\H a=some (.tup (tI l))/\l.length<=60/\∀(r:Addr) (H':Hp),y4 H H'->H' r=some (.lst (tI (Y2 l)))->Q (.ref r) H'
theorem L4:x0 ["places","met","place"] ["places"] (y6 F9):=scq
theorem zx3 (D:Def K mg "each_first" F9 ["places"] f fd)(B:Blt mg):u7 P w K mg base CX0 1 f fd ["places"] (zu6 K):=by
 refine D.F.ok L4 (λL H Q E h=>?_) (λu A outer s H L Q E hr h=>?_)
 .obtain⟨a,l,rfl,_⟩:=h;rfl
 obtain⟨a,l,rfl,t,M,q⟩:=h;have J:=yv9 hr;refine⟨_,z7 (u0 (i:=1) L4.nd rfl (Or.inl rfl) yl0)
  (z7 (Z9 PassesOwn.never rfl (zd2 (pv 0)) (t9 (i:=2) L4.nd rfl (Or.inl rfl)) (z8 (A9 J (pv 1) (pv 2) Y3 rfl)))
  (z8 (v0 (u9 (yp2 rfl) rfl B.list W1 (z0 (pv 1) z5))))),?_⟩
 intro m d;have s0:y4 H (upd H m (.dK [])):=y0 d _;refine exI rfl ⟨a,rfl,⟨_,SqT.of (s0 _ _ t)⟩,yc5 (K:=K) (a:=a) (xs:=tI l) (λj σ H2=>∃v2:Option V,σ=[some (.ref a),some (.ref m),v2]/\y4 H H2/\H2 m=some (.dK (kNs (Y2 (l.take j)))))
  ⟨none,rfl,s0,z4⟩ (λj σ H2 _ ⟨_,_,g,_⟩=>SqT.of (g _ _ t)) ?_ ?_⟩
 .rintro j y σ H2 G ⟨v,rfl,g,c⟩;obtain⟨p,I,rfl⟩:=X7 G;have z:=(yv8 (l.take j)).2.1;have C:(kNs (Y2 (l.take j))).length<=60:=by
   unfold kNs;rw[ae];rw[aK]at z;lia
  refine exI rfl (exI rfl ⟨m,exI rfl ⟨zm9.k (k:=Sum.inl (p:Int)) c (bC (show(kNs (Y2 (l.take j))).length<=20000 by lia) (by decide)),?_⟩⟩);refine exI rfl ⟨λb o e=>by rw[z6 (z9 e d)];exact g b o e,?_⟩;rw[z4,xl9,aT,I];show _=some (HO.dK (kNs (Y2 (l.take j++[p]))));rw[xb2]
 .rintro σ H2 ⟨v,rfl,g,c⟩;rw[x9,bD]at c;refine exI rfl ⟨m,_,(Y2 l).map λ(x:Nat)=>(x:Int),rfl,c,by unfold kNs;rw[bF,bF];rfl,λr n=>?_⟩;refine q r _ (g.trans (y0 n _)) ?_;rw[z4,yz0]
theorem yz6 {xs:List Addr}{ts:List (List Nat)}{fr:List Nat}{te:CT TE}{Q:Addr->Hp->Prop}(F:List Nat->List Nat)(q:H1 h=some (.lst (xs.map V.ref)))(hl:xs.length=ts.length)(hz:xs.length<=ge)
  (g:∀(i:Nat) H x t,xs[i]?=some x->ts[i]?=some t->y4 H1 H->∀d f e fp,te d f e fp (some (V.ref x)::fr.map λj=>(σ[j]?).getD none) H λv c=>y4 H c/\∃b:Addr,v=.ref b/\(∃t,ts[i]?=some t/\c b=some (.tup (tI (F t))))/\([]:List Addr).Nodup/\∀a∈([]:List Addr),H a=none/\∃o,c a=some o)
  (fin:∀D H k,H1 D=none->y4 H1 H->H D=some (.lst (k.map V.ref))->c6 H k (ts.map F)->Q D H) :
  ∀D,H1 D=none->∃W:Nat->Nat->St->Hp->Prop,(∃m,W 0 m (X2 1 fr σ) (upd H1 D (.lst [])))/\∀i m σ' H',W i m σ' H' ->
  ((Itl K h).stop i H'/\Q D H')∨((Itl K h).go i H'/\∀x H2,(Itl K h).yld i H' x H2->∀d f e fp,h9 0 x σ' H2 λσ3 A=>∃N:VK,te d f e fp σ3 A N/\∀y c,N y c ->
   ∃ys m',c D=some (.lst ys)/\ys.length<ge/\m'<m/\W (i+1) m' σ3 (upd c D (.lst (ys++[y])))):=by
 refine ze7 (J:=Itl K h) (λb:Addr=>b) (λ_=>[]) (λH i b=>∃t,ts[i]?=some t/\H b=some (.tup (tI (F t)))) (n:=xs.length) hz (λA c O ys i b ⟨t,h1,h2⟩ l fr _=>⟨t,h1,fr _ _ (λz=>?_) h2⟩) (λH s=>⟨_,SqL.of (s _ _ q),by rw[ae];exact af _⟩) (λi H hi s=>⟨_,_,SqL.of (s _ _ q),aa (by rw[ae];exact hi)⟩) ?_ ?_
 .rw[aq.mp z,l]at h2
  cases h2
 .rintro i P v C hi sx ⟨rfl,M⟩
  have I:=M _ (SqL.of (sx _ _ q))
  obtain⟨x,L,rfl⟩:=V8 I
  obtain⟨t,w⟩:∃t,ts[i]?=some t:=⟨_,aa (by lia)⟩
  refine⟨rfl,λd f e fp=>?_⟩
  exact g i C x t L w sx d f e fp
 .intro D H k l s p G hR _ _
  refine fin D H k l s p (ya1 (by rw[ae];lia) λi a u E B=>?_)
  obtain⟨t,w,r⟩:=hR i a E
  rw[al,w]at B
  cases B
  exact r
def xw0 (AH:Hp->Addr->Prop)(LK:Hp->V->Option (List Nat)->Prop):Sp:=λvs H Q _=>∃(a:Addr) (v:V) (l:List Nat),vs=[.ref a,v]/\AH H a/\LK H v (some l)/\∀(o:Addr) (H':Hp),y4 H H'->H' o=some (.tup (tI l))->Q (.ref o) H'
theorem yj2 {b:Hp->Addr->Prop}{c:Hp->V->Option (List Nat)->Prop}(M:xf6 P w K mg base k d "looked" ["self","thing"] (xu2 b c X)):b9 P w K mg base k d "looked" ["self","thing"] (xw0 b c):=by
 obtain⟨f,fd,F,r⟩:=M;exact⟨f,fd,F.calm.imp λj H Q E ⟨a,v,l,e,h1,h2,q⟩=>⟨a,v,some l,e,h1,h2,λi g o H' s' h=>(by cases g;exact q o H' s' h),λz=>(by cases z)⟩,r⟩
theorem u5.obj {A:ChA}(h:u5 cC cB cS n H A S)(f:b∈A.all):∃o,H b=some o/\∀xs,o≠.tup xs:=by
 unfold ChA.all at f;rcases aH.mp f with z|z
 .obtain⟨_,h1⟩:=h.c;obtain⟨_,h2⟩:=h.bk.b;obtain⟨_,j,_⟩:=h.bk.ll;obtain⟨_,k,_⟩:=h.bk.lm;have p:=h.bk.d;have s:=h.l;simp only[ax,bW,or_false]at z;rcases z with rfl|rfl|rfl|rfl|rfl|rfl <;> exact⟨_,by assumption,λxs z=>by cases z⟩
 .obtain⟨L,q,f⟩:=cu.mp z;obtain⟨a,r,rfl⟩:=az.mp q;obtain⟨i,hi,e⟩:=bh.mp r;have g:i<S.st.length:=by rw[h.len.2,←h.len.1];exact hi
  have st:=h.st i a S.st[i] (by rw[aa hi,e]) (aa g);obtain⟨_,h1⟩:=st.a;have h2:=st.m;have j:=st.lt;obtain⟨_,k,_⟩:=st.bf;obtain⟨_,p,_⟩:=st.w;simp only[StA.all,ax,bW,or_false]at f;rcases f with rfl|rfl|rfl|rfl|rfl <;> exact⟨_,by assumption,λxs z=>by cases z⟩
theorem u5.notup {A:ChA}(h:u5 cC cB cS n H A S)(e:H b=some (.tup xs)):b∉A.all:=λz=>by
 obtain⟨o,h1,h2⟩:=h.obj z
 rw[e]at h1
 exact h2 xs (Option.some.inj h1).symm
theorem xh9 {x:Nat}(l:List Nat):inV (.int x) (tI l)=decide (x∈l):=by
 unfold inV tI;rw[fU,du,decide_eq_true_iff,fJ];constructor
 .rintro⟨y,a,e⟩;have e:((y:Int)==(x:Int))=true:=e;have:y=x:=by have:=eq_of_beq e;lia
  exact this ▸ a
 .exact λh=>⟨x,h,by show((x:Int)==(x:Int))=true;exact beq_self_eq_true _⟩
def R0 (n:Nat)(l:List Nat):List Nat:=l++(List.range n).filter λx=>!decide (x∈l)
theorem xd7 {l:List Nat}(h1:l.Nodup)(h2:∀x∈l,x<n):TM.IsT n (R0 n l):=by
 have f:(R0 n l).Nodup:=bz.mpr ⟨h1,eQ.filter _,λa d b e=>λz=>by
  have:=(cP.mp e).2
  subst z
  simp[d]at this⟩
 refine(dz f eQ).mpr λx=>?_;unfold R0;rw[aH,cP,cr];constructor
 .rintro (h|h)
  .exact h2 x h
  .exact h.1
 .intro h;by_cases c:x∈l
  .exact .inl c
  .exact .inr ⟨h,by simp[c]⟩
theorem xm6 {l:List Nat}(y:List Nat):(∀i,i<l.length->y.getD ((R0 n l).getD i 0) 0=(R0 n l).getD i 0)↔∀x∈l,y.getD x 0=x:=by
 have e:∀i (hi:i<l.length),(R0 n l).getD i 0=l[i]:=λi hi=>by
  unfold R0;rw[ah,aE hi,aa hi];rfl
 constructor
 .intro h x a;obtain⟨i,hi,rfl⟩:=bh.mp a;have:=h i hi;rwa [e i hi]at this
 .intro h i hi;rw[e i hi];exact h _ (bw hi)
theorem xi1 {us:List (List Nat)}(hT:∀u∈us,TM.IsT n u)(h:TM.Indep n us):us.Nodup:=by
 refine bg.mpr λi j hi b a e=>?_;refine h j us[j] (aa b) (TM.Grp.of (λz c=>hT z (ci c)) ?_);rw[←e];exact au (i:=i) (by rw[bN a];exact aa hi)
def ym4 (cG cC cB cS:Addr):Sp:=λvs H Q _=>∃(g:Addr) (v:V) (d:PyData) (n:Nat) (ts:List (List Nat)) (S:ChS) (l:List Nat),vs=[.ref g,v]/\u6 cG cC cB cS n H g ts S/\Dt H v d/\zb1 60 n d=some l/\TM.Few n ts 200 /\
 ∀(g2:Addr) (us:List (List Nat)) (S2:ChS) (H':Hp),y4 H H'->u6 cG cC cB cS n H' g2 us S2->(∀y,TM.Grp n (λz=>z∈us) y↔TM.Grp n (λz=>z∈ts) y/\∀x∈l,y.getD x 0=x)->Q (.ref g2) H'
theorem X6:x0 ["group","places","firsts","rest","row","chain","number","maker"] ["group","places"] (y6 zg7):=scq
theorem xc4 (D:Def K mg "fixing" zg7 ["group","places"] f fd)(B:Blt mg)(cg:m9 K cG X8)(cc:m9 K cC Z1)(cl:m9 K cL ["many"])(KL:zw0 P w K mg base 1 cL "Lists" ["self","many"] (zu8 K))(ds:∀n,b9 P w K mg base 6 cL "looked" ["self","thing"] (xw0 (AHL cL n) (LKL n)))
  (KE:p6 P w K mg base 1 "each_first" ["places"] (zu6 K)) (KG:zw0 P w K mg base 7 cG "Group" ["self","many","makers"] (zu7 cG cC cB cS)) (KC:zw0 P w K mg base 4 cC "Chain" ["self","many"] (zu5 cC cB cS)) (MT:b9 P w K mg base 6 cC "take" ["self","number","maker"] (yt6 cC cB cS))
  (MM:b9 P w K mg base 1 cC "movers_at" ["self","level"] (zv2 cC cB cS)) (ML:b9 P w K mg base 2 cG "lean_makers" ["self"] (xn9 cG cC cB cS)) (KU:p6 P w K mg base 1 "turned" ["one","by"] (yn1 K)) (KB:p6 P w K mg base 1 "back" ["one"] (zu4 K)):u7 P w K mg base CX0 9 f fd ["group","places"] (ym4 cG cC cB cS):=by
 refine D.F.ok X6 (λvs H Q E h=>?_) (λgm Ar outer sh H vs Q E hr h=>?_)
 .obtain⟨g,v,d,n,ts,S,l,rfl,_⟩:=h;rfl
 obtain⟨g,v,d,n,ts,S,l,rfl,ga,hd,hl,few,q⟩:=h;obtain⟨dx,ma,A0,fv,h1,_⟩:=ga.at';have bg:=ga.n0;have hn:=ga.n60;refine⟨_,z7 (u0 (i:=2) X6.nd rfl (Or.inr rfl) (r6 KE hr rfl (z0 (Z3 cl.cls (ds n) hr (J8 KL hr rfl (z0 (y9 (pv 0) rfl) z5)) (z0 (pv 1) z5)) z5)))
  (z7 (zx8 (i:=3) [2] ["place","firsts"] X6.nd rfl rfl rfl (T0 rfl B.range (z0 (y9 (pv 0) rfl) z5)) (λ_ _ _ _=>p5 ye5 (pv 0) (pv 1) rfl) (λ_ _ _ _=>pv 0))
  (z7 (n4 (p5 P7 (w8 v1 rfl B.len i8 (z0 (pv 3) z5)) y8 (o6 _)) (z8 (v0 (J8 KG hr rfl (z0 (y9 (pv 0) rfl) (z0 (Z2 z5) z5))))) u4)
  (z7 (u0 (i:=4) X6.nd rfl (Or.inr rfl) (u9 l5 rfl B.tuple f9 (z0 (o7 yw7 (pv 2) (pv 3)) z5)))
  (z7 (u0 (i:=5) X6.nd rfl (Or.inl rfl) (J8 KC hr rfl (z0 (y9 (pv 0) rfl) z5)))
  (z7 (Z9 PassesOwn.never rfl (zg3 rfl B.enumerate (z0 (U9 cg.cls ML hr (pv 0)) z5)) (J9 rfl (i6 (t9 (i:=6) X6.nd rfl (Or.inl rfl)) (i6 (t9 (i:=7) X6.nd rfl (Or.inl rfl)) Q7)))
   (z8 (i5 (Z3 cc.cls MT hr (pv 5) (z0 (pv 6) (z0 (r6 KU hr rfl (z0 (pv 7) (z0 (r6 KB hr rfl (z0 (pv 4) z5)) z5))) z5))))))
  (z8 (v0 (J8 KG hr rfl (z0 (y9 (pv 0) rfl) (z0 (b6 [4] ["mover","row"] rfl (Y8 (Z3 cc.cls MM hr (pv 5) (z0 (w8 v1 rfl B.len i8 (z0 (pv 2) z5)) z5))) (λ_ _ _ _=>r6 KU hr rfl (z0 (pv 0) (z0 (pv 1) z5)))) z5)))))))))),?_⟩
 obtain⟨cq,cu⟩:=xt6 hl;obtain⟨fn,fl,fm⟩:=yv8 l;refine i4 λN C=>exI rfl (p7 cg h1 rfl (λa m ha ei _=>⟨a,m,cL,n,rfl,z4,cl,rfl,?_⟩));have s1:y4 H (upd (upd (upd H m (.own a)) a (.ins cL m [])) a (.ins cL m [("many",.int n)])):=u8 (u8 (y0 ei _) ha _) ha _;have R:(upd (upd (upd H m (.own a)) a (.ins cL m [])) a (.ins cL m [("many",.int n)])) a=some (.ins cL m [("many",.int n)]):=z4;generalize upd (upd (upd H m (.own a)) a (.ins cL m [])) a (.ins cL m [("many",.int n)])=H1 at s1 R ⊢;refine Z6 R rfl (exI rfl ⟨a,v,l,rfl,⟨m,R⟩,⟨d,hd.same s1,hl.symm⟩,λo H2 s2 ho=>?_⟩);refine⟨o,l,rfl,ho,cq,λfa H3 s3 be=>C _ _ ?_⟩;have bj:=s1.trans (s2.trans s3);clear s1 s2 s3 ho R C N;refine i4 λN C=>exI rfl (p7 cg (bj _ _ h1) rfl (exI rfl ⟨by lia,by lia,?_⟩));rw[bG];refine yc2 (λy=>!decide (y∈Y2 l)) (λy=>V.int y) (small (by lia)) ?_ ?_
 .intro i H4 hi s4 _ _ _ _;rw[show(0:Int)+(i:Int)=((i:Nat):Int) by lia];refine exI rfl (exI rfl ⟨fa,exI rfl ⟨.inl (SqL.of (s4 _ _ be)),rfl,?_,exI rfl ?_⟩⟩)
  .unfold tI;rw[eL];exact bI.mpr λ_ _=>rfl
  .refine⟨?_,y4.refl _,λ_=>exI rfl ⟨y4.refl _,rfl⟩⟩;show(!inV (.int i) (tI (Y2 l)))=_;rw[xh9]
 intro ra H4 fr s4 ad;refine C _ _ ?_;clear C N;have ad:H4 ra=some (.lst (tI ((List.range n).filter λy=>!decide (y∈Y2 l)))):=ad;have ak:=bj.trans s4;have aa:=s4 _ _ be;clear bj s4 be;have hR:TM.IsT n (R0 n (Y2 l)):=xd7 fn λx W=>cu x ((fm x).mp W);have ce:=hR.length;unfold R0 at ce;rw[ao]at ce;refine i4 λN C=>exI rfl ⟨ra,exI rfl ⟨.inl (SqL.of ad),rfl,_,rfl,?_⟩⟩;rw[c7,x9];by_cases h0:((List.range n).filter λy=>!decide (y∈Y2 l)).length=0
 .clear C;rw[h0];refine i9 (exI rfl (p7 cg (ak _ _ h1) rfl ⟨small (aG _),λl3 cp=>?_⟩));have s5:=y0 cp (.lst []);have e5:(upd H4 l3 (.lst [])) l3=some (.lst []):=z4;generalize upd H4 l3 (.lst [])=H5 at s5 e5 ⊢;refine λg' dg hg U hne=>⟨g',dg,l3,n,[],[],rfl,z4,bg,hn,?_,.nil,by decide,λt I=>(by cases I),λS' Hd ay a' _=>⟨rfl,?_⟩⟩
  .rw[z6 (z9 e5 hg),z6 (z9 e5 U)];exact e5
  have sd:y4 H5 Hd:=λb u h=>ay b u (by simpa using z9 h hg) (by rw[z6 (z9 h hg),z6 (z9 h U)];exact h);refine q g' _ S' Hd (ak.trans (s5.trans sd)) a' λy=>⟨λh=>?_,λh=>?_⟩
  .have e:y=List.range n:=by
    cases h with
    | one=>rfl
    | mul _ h=>cases h
    | inv _ h=>cases h
   subst e;exact⟨.one,λx W=>TM.still_get (cu x W)⟩
  .have hy:=h.1.isT λs hs=>ga.tT s hs;rw[TM.Fix.all hy λx W=>h.2 x ((fm x).mp ?_)]
   .exact .one
   .have hm:=hR.mem W;unfold R0 at hm;rw[df h0,bu]at hm;exact hm
 .rw[decide_eq_false (show ¬((((List.range n).filter λy=>!decide (y∈Y2 l)).length:Nat):Int)=0 by lia)];refine o0 (C _ _ ?_);clear C N;refine i4 λN C=>exI rfl (exI rfl ⟨fa,ra,_,_,rfl,rfl,SqL.of aa,SqL.of ad,small (by rw[x9,x9];lia),λc hc=>?_⟩);have s5:=y0 hc (.lst (tI (Y2 l)++tI ((List.range n).filter λy=>!decide (y∈Y2 l))));have e5:(upd H4 c (.lst (tI (Y2 l)++tI ((List.range n).filter λy=>!decide (y∈Y2 l))))) c=some (.lst (tI (R0 n (Y2 l)))):=by
   rw[z4];unfold R0 tI;rw[aJ]
  generalize upd H4 c (.lst (tI (Y2 l)++tI ((List.range n).filter λy=>!decide (y∈Y2 l))))=H5 at s5 e5 ⊢;refine⟨c,exI rfl (.inl ⟨SqL.of e5,λX er=>C _ _ ?_⟩)⟩;clear C N;have s6:=y0 er (.tup (tI (R0 n (Y2 l))));have e6:(upd H5 X (.tup (tI (R0 n (Y2 l))))) X=some (.tup (tI (R0 n (Y2 l)))):=z4;generalize upd H5 X (.tup (tI (R0 n (Y2 l))))=H6 at s6 e6 ⊢;have af:=ak.trans (s5.trans s6);have cn:=(s5.trans s6) _ _ aa;clear ak s5 s6 aa ad e5;have ch:=λy=>xm6 (n:=n) (l:=Y2 l) y;generalize R0 n (Y2 l)=row at hR e6 ch ⊢;have hb:=hR.bk;have hk:(Y2 l).length<n:=by lia
  refine i4 λN C=>exI rfl (p7 cg (af _ _ h1) rfl (λc' dc bb cm hne=>⟨c',dc,n,rfl,z4,hn,λA H7 ec bf ea bv=>⟨rfl,C _ _ ?_⟩⟩));clear C N;have s7:y4 H6 H7:=λb o h=>ea b o (by simpa using z9 h bb) (by rw[z6 (z9 h bb),z6 (z9 h cm)];exact h);have cf:∀a∈A.all,H6 a=none:=λa ha=>by
   by_cases e:a=c'
   .rw[e];exact bb
   .have:=bf a ha e;rw[z6 e]at this;by_cases e2:a=dc
    .rw[e2];exact cm
    .rwa [z6 e2]at this
  subst ec;have out:∀{b:Addr} {o:HO},H6 b=some o->b∉A.all:=λ{b o} h hb=>by
   rw[cf b hb]at h
   cases h
  refine i4 λN C=>exI rfl (Z6 (s7 _ _ (af _ _ h1)) rfl ⟨g,n,ts,S,rfl,(ga.same af).same s7,λla cz us H8 ct s8 cr cx fs hT co=>?_⟩);have en:cz.length=us.length:=Paired.length cx;generalize hcs:us.map (TM.cj n (TM.bk n row))=J;have dy:J.length=us.length:=by rw[←hcs,ae]
  have dw:∀t∈J,TM.IsT n t:=λt I=>by
   rw[←hcs]at I;obtain⟨u,hu,rfl⟩:=az.mp I;exact TM.cj_isT hb (hT u hu)
  have bw:u5 cC cB cS n H8 A (ChS.new n (λk=>J.getD k [])):=(bv _).same s8;have ex:la∉A.all:=λz=>by
   obtain⟨o,h2,_⟩:=(bv λ_=>[]).obj z;rw[ct]at h2
   cases h2
  have k8:∀{b:Addr} {o:HO},H6 b=some o->H8 b=some o:=λ{b o} h=>s8 _ _ (s7 _ _ h);refine⟨la,rfl,⟨_,SqL.of cr⟩,L8 (xs:=cz.map V.ref) (λi σ H9=>∃(S':ChS) (v6 v7:Option V),σ=[some (.ref g),some v,some (.ref fa),some (.ref ra),some (.ref X),some (.ref A.c),v6,v7]/\w6 A.all H8 H9/\u5 cC cB cS n H9 A S'/\S'.Set n/\S'.Full (1+i)/\i<=us.length/\(S'.src=λk=>J.getD k [])/\∀y,TM.Grp n (S'.chn.mv 0) y↔TM.Grp n (λz=>z∈J.take i) y)
   ⟨ChS.new n (λk=>J.getD k []),none,none,rfl,w6.refl,bw,⟨ChS.new_inv n,λi _=>ChS.new_done n i⟩,⟨by show 1<=_;lia,by show 1<=_;lia⟩,aG _,rfl,λy=>?_⟩ (λi σ H9 _ ⟨_,_,_,_,L,_⟩=>SqL.of (L _ _ ex cr)) ?_ ?_⟩
  .have eq:∀s,(ChS.new n (λk=>J.getD k [])).chn.mv 0 s↔s∈J.take 0:=λs=>⟨λh=>absurd h (ChS.new_nomv n 0 s),λh=>by rw[cM]at h;cases h⟩;rw[show(ChS.new n (λk=>J.getD k [])).chn.mv 0=λz=>z∈J.take 0 from funext λs=>propext (eq s)]
  .clear C;rintro i v' σ H9 T hv ⟨S',v6,v7,rfl,L,aj,j,Y,ej,ai,O⟩ ef;obtain⟨tr,eu,rfl⟩:=V8 hv;obtain⟨t,I,cy⟩:=p4 cx i tr eu;have ek:i<us.length:=(ag.mp I).1;have M:=hT t (au I);have sA:=y0 ef (.tup [V.int ((i:Nat):Int),V.ref tr]);refine⟨T,exI rfl ⟨SqT.of z4,rfl,_,_,rfl,_,_,rfl,rfl,?_⟩⟩;generalize upd H9 T (.tup [V.int ((i:Nat):Int),V.ref tr])=HA at sA ⊢;have bz:=aj.same sA;obtain⟨d',bc⟩:=bz.c;have tA:=sA _ _ (L _ _ (bw.notup cy) cy);have rA:=sA _ _ (L _ _ (out e6) (k8 e6));refine exI rfl (Z6 bc rfl (exI rfl (exI rfl (exI rfl ⟨X,n,row,rfl,SqT.of rA,hR,by lia,λr1 HB b1 gq sB eh as=>?_⟩))));rw[eh.uniq hR (TM.bk_back hR)]at as;refine⟨tr,r1,n,t,TM.bk n row,rfl,SqT.of (sB _ _ tA),SqT.of as,M,hb,by lia,λr2 HC c2 bh sC bd av=>?_⟩;rw[TM.cj_conj M hb bd]at av;have ck:J[i]?=some (TM.cj n (TM.bk n row) t):=by rw[←hcs,al,I];rfl
   refine⟨A,S',n,1+i,i,r2,exI rfl ⟨(bz.same sB).same sC,j,bg,hn,by lia,Y,av,TM.cj_isT hb M,(λ_=>by rw[ai];show J.getD i []=_;rw[ah,ck];rfl),λb S2 HD eb dv db dd Z cd _=>?_⟩⟩;refine⟨S2,_,_,rfl,(L.trans (y4.frame (sA.trans (sB.trans sC)))).trans eb,dv,db,⟨by have:=Z.ln;lia,by have:=Z.bl;lia⟩,ek,dd.trans ai,λy=>?_⟩;have ed:∀s,S'.chn.mv 0 s->TM.IsT n s:=j.inv.ok.mvT 0;have ee:∀s,s∈J.take i->TM.IsT n s:=λs hs=>dw s (ci hs);rw[cd y,yi4 ed ee (TM.cj_isT hb M) O y,aT,ck];have e:(λz=>z∈J.take i++(some (TM.cj n (TM.bk n row) t)).toList)=λz=>z∈J.take i∨z=TM.cj n (TM.bk n row) t:=by
    funext z;simp
   rw[e]
  .rintro σ H9 ⟨S',v6,v7,rfl,L,aj,j,Y,ej,ai,O⟩;refine C _ _ ?_;clear C N;rw[ae,en,←dy,bD]at O;have k9:∀{b:Addr} {o:HO},H6 b=some o->H9 b=some o:=λ{b o} h=>L _ _ (out h) (k8 h);obtain⟨d',bc⟩:=aj.c;refine exI rfl (p7 cg (k9 (af _ _ h1)) rfl (exI rfl (Z6 bc rfl (exI rfl ⟨fa,exI rfl ⟨.inl (SqL.of (k9 cn)),A,S',n,(Y2 l).length,by rw[x9];rfl,aj,j.inv,hn,hk,λml ey HA fp sA ar bi=>?_⟩⟩))));generalize hvs:((S'.atS (Y2 l).length).mv.map λk=>S'.md.getD k [])=ws at bi;have p:∀t∈ws,TM.IsT n t:=λt I=>by
    rw[←hvs]at I;obtain⟨k,ab,e⟩:=az.mp I;exact j.inv.ok.mvT _ t ⟨k,ab,e⟩
   have ep:S'.chn.mv (Y2 l).length=λz=>z∈ws:=funext λz=>propext ⟨λ⟨k,ab,e⟩=>hvs ▸ az.mpr ⟨k,ab,e⟩,λh=>by
    rw[←hvs]at h
    obtain⟨k,ab,e⟩:=az.mp h
    exact⟨k,ab,e⟩⟩
   have lev:=λx=>j.inv.ok.lev (λi hi=>j.inv.shut (j.done i hi)) (G:=λx=>TM.Grp n (λz=>z∈J) x) O (Y2 l).length (bp hk) x;rw[ep]at lev;have fin:=λy=>TM.fixing_grp hR hT p (bp hk) hcs.symm lev y;have wT:∀t∈ws.map (TM.cj n row),TM.IsT n t:=λt I=>by
    obtain⟨u,hu,rfl⟩:=az.mp I;exact TM.cj_isT hR (p u hu)
   have wl:(ws.map (TM.cj n row)).length<=200:=by
    refine few _ (bx.mpr ((xi1 p (hvs ▸ j.inv.ind _)).imp_of_mem λ{a b} ha eg hne e=>hne ?_)) λx W=>(co x).mp ((fin x).mp (TM.Grp.of (λz hz=>wT z hz) W)).1;rw[←TM.cj_back hR (p a ha),e,TM.cj_back hR (p b eg)]
   have he:ws.length<=200:=by rwa [ae]at wl
   have eo:ey.length=ws.length:=Paired.length bi;refine⟨ml,rfl,⟨_,SqL.of ar⟩,yz6 (TM.cj n row) ar eo (small (by lia)) ?_ ?_⟩
   .intro i HB x t W I sB _ _ _ _;obtain⟨t',cw,ew⟩:=p4 (bi.same sB) i x W;rw[I]at cw
    cases cw
    have M:=p t (au I);refine exI rfl (exI rfl ⟨x,X,n,t,row,rfl,SqT.of ew,SqT.of (sB _ _ (sA _ _ (k9 e6))),M,hR,by lia,λr HC c2 _ sC bd bh=>⟨sC,r,rfl,⟨t,I,?_⟩,cW,λa ha=>(by cases ha)⟩⟩);rw[TM.cj_conj M hR bd]at bh;exact bh
   intro l3 HB du cp sB ac et;refine λg' dg hg U hne=>⟨g',dg,l3,n,du,ws.map (TM.cj n row),rfl,z4,bg,hn,?_,?_,wl,wT,λS2 Hd ay a' _=>⟨rfl,?_⟩⟩
   .rw[z6 (z9 ac hg),z6 (z9 ac U)];exact ac
   .exact Paired.imp' (λb z e=>by rw[z6 (z9 e hg),z6 (z9 e U)];exact e) et
   have sd:y4 HB Hd:=λb u h=>ay b u (by simpa using z9 h hg) (by rw[z6 (z9 h hg),z6 (z9 h U)];exact h);have s9:y4 H6 H9:=λb o h=>k9 h;refine q g' _ S2 Hd (af.trans (s9.trans (sA.trans (sB.trans sd)))) a' λy=>?_;rw[fin y,co y,ch y];exact and_congr_right λ_=>⟨λh x W=>h x ((fm x).mpr W),λh x W=>h x ((fm x).mp W)⟩
def ya4 (X cG cC cB cS:Addr):Sp:=λvs H Q E=>∃(g:Addr) (v:V) (d:PyData) (n:Nat) (ts:List (List Nat)) (S:ChS),vs=[.ref g,v]/\u6 cG cC cB cS n H g ts S/\Dt H v d/\zb1 60 n d=none/\∀H':Hp,y4 H H'->E (.ref X) none H'
theorem yk2 (D:Def K mg "fixing" zg7 ["group","places"] f fd)(B:Blt mg)(z:m9 K cG X8)(p:m9 K cL ["many"])(x:zw0 P w K mg base 1 cL "Lists" ["self","many"] (zu8 K))(k:∀n,xf6 P w K mg base 6 cL "looked" ["self","thing"] (xu2 (AHL cL n) (LKL n) X))
  (u:p6 P w K mg base 1 "each_first" ["places"] (zu6 K)):P4 P w K mg base 9 "fixing" ["group","places"] (ya4 X cG cC cB cS):=by
 refine⟨f,fd,?_,D.F.kp,D.m,D.b⟩;refine D.F.okX X6 (λL H Q E h=>?_) (λy A outer s H L Q E hr h=>?_)
 .obtain⟨g,v,d,n,ts,S,rfl,_⟩:=h;rfl
 obtain⟨g,v,d,n,ts,S,rfl,C,G,I,q⟩:=h;obtain⟨dx,N,M,t,h1,_⟩:=C.at';refine⟨_,z7 (u0 (i:=2) X6.nd rfl (Or.inr rfl) (r6 u hr rfl (z0 (we5 p.cls (k n) hr (J8 x hr rfl (z0 (y9 (pv 0) rfl) z5)) (z0 (pv 1) z5)) z5))) xl8,?_⟩;refine exI rfl (p7 z h1 rfl (λa c r o _=>⟨a,c,cL,n,rfl,z4,p,rfl,?_⟩));have s1:y4 H (upd (upd (upd H c (.own a)) a (.ins cL c [])) a (.ins cL c [("many",.int n)])):=u8 (u8 (y0 o _) r _) r _;have j:(upd (upd (upd H c (.own a)) a (.ins cL c [])) a (.ins cL c [("many",.int n)])) a=some (.ins cL c [("many",.int n)]):=z4;generalize upd (upd (upd H c (.own a)) a (.ins cL c [])) a (.ins cL c [("many",.int n)])=H1 at s1 j ⊢;exact Z6 j rfl (exI rfl ⟨a,v,none,rfl,⟨c,j⟩,⟨d,G.same s1,I.symm⟩,λl e=>(by cases e),λ_ H2 J=>q H2 (s1.trans J)⟩)
def kT (t:List Nat):List Key:=t.map λ(x:Nat)=>Sum.inl (x:Int)
theorem xi7 (t:List Nat):(kT t).map kV=tI t:=by
 unfold kT tI;rw[bF];rfl
theorem xi6:∀{t u:List Nat},kT t=kT u->t=u
 | [],[],_=>rfl
 | x::t,y::u,h=>by
  have h:Sum.inl (x:Int)::kT t=(Sum.inl (y:Int)::kT u:List Key):=h
  obtain⟨h1,h2⟩:=List.cons.inj h
  have h1:=Sum.inl.inj h1
  rw[xi6 h2,show x=y by lia]
 | [],_::_,h=>by cases h
 | _::_,[],h=>by cases h
def kTs (L:List (List Nat)):List (List Key×V):=L.map λt=>(kT t,V.bl true)
theorem zl2 (u:List Nat):∀L:List (List Nat),V0 (kTs L) (kT u)=if u∈L then some (V.bl true) else none
 | []=>rfl
 | t::L=>by
  have e:kTs (t::L)=(kT t,V.bl true)::kTs L:=rfl
  rw[e]
  by_cases h:t=u
  .subst h
   rw[if_pos aw]
   exact d9 (p:=(kT t,V.bl true)) rfl
  .rw[g6 (p:=(kT t,V.bl true)) λz=>h (xi6 z),zl2 u L]
   by_cases h2:u∈L
   .rw[if_pos h2,if_pos (ar _ h2)]
   .rw[if_neg h2,if_neg λz=>(ax.mp z).elim (λe=>h e.symm) h2]
theorem xd5 (h:u∉L):putK (kTs L) (kT u) (V.bl true)=kTs (L++[u]):=by
 have e:=zl2 u L;rw[if_neg h]at e;unfold putK;rw[U3,e];show kTs L++[(kT u,V.bl true)]=kTs (L++[u]);unfold kTs;rw[aJ];rfl
structure Fnd (n:Nat) (S L:List (List Nat)) (k:Nat):Prop where
 nd:L.Nodup
 one:List.range n∈L
 grp:∀x∈L,TM.Grp n (λz=>z∈S) x
 done:∀i x,i<k->L[i]?=some x->∀s∈S,TM.beh x s∈L
 le:k<=L.length
def Srt (L:List (List Nat)):Prop:=L.Pairwise λx y=>HT.lexLt (TM.iN y) (TM.iN x)=false
theorem zo6 (t:List Nat):(TM.iN t).map Int.toNat=t:=by
 unfold TM.iN;rw[bF]
 conv=>rhs;rw[←dU t]
 exact bT λx _=>by simp
theorem xd8 {L:List (List Nat)}{a:List (List Int)}(h:a.Perm (L.map TM.iN)):∃M:List (List Nat),M.Perm L/\a=M.map TM.iN:=by
 refine⟨a.map λx=>x.map Int.toNat,?_,?_⟩
 .have h2:=h.map λx:List Int=>x.map Int.toNat;rw[bF]at h2;have e:(L.map ((λx:List Int=>x.map Int.toNat) ∘ TM.iN))=L:=by
   conv=>rhs;rw[←dU L]
   exact bT λt _=>zo6 t
  rwa [e]at h2
 .rw[bF]
  conv=>lhs;rw[←dU a]
  refine bT λx b=>?_;obtain⟨t,_,e⟩:=az.mp (h.mem_iff.mp b);show x=TM.iN (x.map Int.toNat);rw[←e,zo6]
theorem xu6 {L:List (List Nat)}(h:c6 H b L):Paired (λa x=>H a=some (.tup (x.map V.int))) b (L.map TM.iN):=by
 induction h with
 | nil=>exact .nil
 | cons f _ ih=>exact .cons (by rw[xh8];exact f) ih
theorem yx7 :∀{as:List Addr} {L:List (List Nat)},Paired (λa x=>H a=some (.tup (x.map V.int))) as (L.map TM.iN)->c6 H as L
 | [],[],_=>.nil
 | [],_::_,h=>by cases h
 | _::_,[],h=>by cases h
 | a::as,t::L,h=>by
  cases h with
  | cons f r=>exact .cons (by rw[←xh8];exact f) (yx7 r)
def yy0:Sp:=λvs H Q _=>∃(la:Addr) (n:Nat) (mas:List Addr) (S:List (List Nat)),vs=[.ref la,.int n]/\H la=some (.lst (mas.map V.ref))/\c6 H mas S/\(∀s∈S,TM.IsT n s)/\TM.Few n S 200/\0<n/\n<=60 /\
 ∀(l:Addr) (as:List Addr) (L:List (List Nat)) (H':Hp),H l=none->y4 H H'->H' l=some (.lst (as.map V.ref))->c6 H' as L->L.length<=200->L.Nodup->Srt L->(∀x,x∈L↔TM.Grp n (λz=>z∈S) x)->Q (.ref l) H'
theorem X1:x0 ["_law_makers","_law_many","_law_found","_law_held","_law_at","_law_maker_here","_law_made"] ["_law_makers","_law_many"] (y6 zd5):=scq
theorem yk0 (D:Def K mg "_law_all" zd5 ["_law_makers","_law_many"] f fd)(B:Blt mg):u7 P w K mg base CX0 1 f fd ["_law_makers","_law_many"] yy0:=by
 refine D.F.ok X1 (λvs H Q E h=>?_) (λd' A outer s H vs Q E hr h=>?_)
 .obtain⟨la,n,bp,S,rfl,_⟩:=h;rfl
 obtain⟨la,n,bp,S,rfl,bj,Z,hS,few,em,hn,q⟩:=h;have hu:=yv9 hr;refine⟨_,z7 (u0 (i:=2) X1.nd rfl (Or.inl rfl) (Z2 (z0 (u9 (C1 rfl) rfl B.tuple f9 (z0 (u9 L5 rfl B.range D8 (z0 (pv 1) z5)) z5)) z5)))
  (z7 (u0 (i:=3) X1.nd rfl (Or.inl rfl) (xd1 hu (p9 p0 (pv 2) y8 (λ_ _=>rfl)) Y3))
  (z7 (u0 (i:=4) X1.nd rfl (Or.inl rfl) y8)
  (z7 (yl2 PassesOwn.never (p5 ya0 (pv 4) (w8 v1 rfl B.len i8 (z0 (pv 2) z5)) (o6 _))
   (z7 (Z9 PassesOwn.never rfl (Y8 (pv 0)) (t9 (i:=5) X1.nd rfl (Or.inr rfl))
    (z7 (u0 (i:=6) X1.nd rfl (Or.inl rfl) (u9 l5 rfl B.tuple f9 (z0 (b6 [5] ["_law_to","_law_maker_here"] rfl (zd2 (p9 p0 (pv 2) (pv 4) (λ_ _=>rfl))) (λ_ _ _ _=>p9 Y6 (pv 1) (pv 0) (λ_ _=>rfl))) z5)))
    (z8 (n4 (zt3 (A7 hu (pv 6) (pv 3))) (z7 (A9 hu (pv 3) (pv 6) Y3 rfl)
     (z8 (i5 (K1 PySem.F.plainAttrs_list PySem.F.slot_list_append PySem.F.type_list_append c3 (pv 2) (z0 (pv 6) z5))))) u4))))
   (z8 (u0 (i:=4) X1.nd rfl (Or.inl rfl) (o7 R4 (pv 4) y8)))))
  (z8 (v0 (w8 yc0 rfl B.sorted zi0 (z0 (pv 2) z5))))))),?_⟩
 refine i4 λN O=>exI rfl (exI rfl (λp hp=>⟨p,0,(n:Int),rfl,z4,⟨by lia,by lia,by lia,by lia,by lia⟩,λr bk=>?_⟩));rw[show((n:Int)-0).toNat=n by lia,A3];have pr:p≠r:=z9 z4 bk;have ct:H r=none:=by
  have:=bk;rwa [z6 (Ne.symm pr)]at this
 have s1:y4 H (upd (upd H p (.rng 0 (n:Int))) r (.tup (tI (List.range n)))):=u8 (y0 hp _) ct _;have r1:(upd (upd H p (.rng 0 (n:Int))) r (.tup (tI (List.range n)))) r=some (.tup (tI (List.range n))):=z4;generalize upd (upd H p (.rng 0 (n:Int))) r (.tup (tI (List.range n)))=H1 at s1 r1 ⊢;refine⟨(by show 1<=ge;decide),λJ bf=>O _ _ ?_⟩;clear O N;have bg:H J=none:=s1.free bf;have s2:=y0 bf (.lst [V.ref r]);have f2:(upd H1 J (.lst [V.ref r])) J=some (.lst ([r].map V.ref)):=z4;generalize upd H1 J (.lst [V.ref r])=H2 at s2 f2 ⊢;refine i4 λN O=>λg ah=>?_;have W:H g=none:=s1.free (s2.free ah);have fd:J≠g:=z9 f2 ah;have rd:r≠g:=z9 (s2 _ _ r1) ah;refine exI rfl (ixI (SqL.of (by rw[z6 fd];exact f2)) rfl ⟨z4,kT (List.range n),r,rfl,by rw[xi7,z6 rd];exact s2 _ _ r1,O _ _ ?_⟩);clear O N;have S3:y4 H (upd (upd H2 g (.dT [])) g (.dT [(kT (List.range n),V.bl true)])):=u8 (u8 (s1.trans s2) W _) W _;have d3:(upd (upd H2 g (.dT [])) g (.dT [(kT (List.range n),V.bl true)])) g=some (.dT (kTs [List.range n])):=z4;have f3:(upd (upd H2 g (.dT [])) g (.dT [(kT (List.range n),V.bl true)])) J=some (.lst ([r].map V.ref)):=by rw[z6 fd,z6 fd];exact f2
 have r3:(upd (upd H2 g (.dT [])) g (.dT [(kT (List.range n),V.bl true)])) r=some (.tup (tI (List.range n))):=by rw[z6 rd,z6 rd];exact s2 _ _ r1
 generalize upd (upd H2 g (.dT [])) g (.dT [(kT (List.range n),V.bl true)])=H3 at S3 d3 f3 r3 ⊢;have eo:201<ge:=by decide
 refine i4 λN O=>O _ _ ?_;clear O N;refine i4 λN O=>xp8 (λσ H4=>∃(k:Nat) (L:List (List Nat)) (as:List Addr) (v5 v6:Option V),σ=[some (.ref la),some (.int n),some (.ref J),some (.ref g),some (.int k),v5,v6]/\y4 H H4/\H4 J=some (.lst (as.map V.ref))/\c6 H4 as L/\H4 g=some (.dT (kTs L))/\Fnd n S L k)
  (λ(σ:St) (_:Hp)=>match σ with|[_,_,_,_,some (.int k),_,_]=>201-k.toNat|_=>0)
  ⟨0,[List.range n],[r],none,none,rfl,S3,f3,.cons r3 .nil,d3,by simp,by simp,λx hx=>by rw[aq.mp hx];exact .one,λi x hi=>absurd hi (bR _),aG _⟩ ?_ ?_
 .rintro σ H4 ⟨k,L,as,v5,v6,rfl,s4,f4,t4,d4,d⟩;have ei:=few L d.nd d.grp;have ci:as.length=L.length:=Paired.length t4;refine exI rfl (exI rfl ⟨J,exI rfl ⟨.inl (SqL.of f4),_,_,rfl,rfl,_,rfl,?_⟩⟩);rw[ae,ci];by_cases hk:k<L.length
  .rw[decide_eq_true (show((k:Nat):Int)<((L.length:Nat):Int) by lia)];refine i9 ?_;have hx:L[k]?=some L[k]:=aa hk;have aj:=d.grp _ (bw hk);have X:=aj.isT hS;generalize L[k]=x at hx aj X;refine i4 λM hM=>exI rfl ⟨la,rfl,⟨_,SqL.of (s4 _ _ bj)⟩,V5 (xs:=bp.map V.ref) (λj σ H5=>∃(u:List (List Nat)) (C:List Addr) (v5 v6:Option V),σ=[some (.ref la),some (.int n),some (.ref J),some (.ref g),some (.int k),v5,v6]/\y4 H H5/\H5 J=some (.lst (C.map V.ref))/\c6 H5 C u/\H5 g=some (.dT (kTs u))/\u.Nodup/\(∀y∈u,TM.Grp n (λz=>z∈S) y)/\(∃m,u=L++m)/\∀s∈S.take j,TM.beh x s∈u)
    ⟨L,as,v5,v6,rfl,s4,f4,t4,d4,d.nd,d.grp,⟨[],(bu _).symm⟩,λs R=>by rw[cM]at R;cases R⟩ (λj σ H5 _ ⟨_,_,_,_,_,s5,_⟩=>SqL.of (s5 _ _ bj)) ?_ ?_⟩
   .clear hM O;rintro j y σ H5 hj ⟨u,C,v5,v6,rfl,s5,f5,t5,d5,T,G,⟨m5,I⟩,U⟩;obtain⟨c,hc,rfl⟩:=V8 hj;obtain⟨t,ht,cl⟩:=p4 Z j c hc;have bm:t∈S:=au ht;have bn:=hS t bm;have cx:u[k]?=some x:=by rw[I,aE hk];exact hx
    obtain⟨b,cj,be⟩:=l9 t5 k x cx;have gb:atI (C.map V.ref) ((k:Nat):Int)=some (V.ref b):=o8 (by rw[al,cj];rfl);have zT:=X.beh bn;have ch:=few u T G;have bd:C.length=u.length:=Paired.length t5;refine i4 λM2 bb=>exI rfl (exI rfl (ixI (SqL.of f5) gb ⟨b,rfl,⟨_,SqT.of be⟩,L7 (SqT.of be) (tI (TM.beh x t)) (by rw[x9,x9,zT.length,X.length]) (by rw[x9,X.length];exact small (by lia)) (λi H' v hv s' _ _ _ _=>?_) (λD' H6 hD s6 cp=>⟨D',exI rfl (.inl ⟨SqL.of cp,λtp cv=>bb _ _ ?_⟩)⟩)⟩))
    .obtain⟨e,he,rfl⟩:=X7 hv;have cm:=X.get_lt he;refine exI rfl (exI rfl (ixT (SqT.of (s' _ _ (s5 _ _ cl))) (A2 (bn.get_step cm)) ⟨y4.refl _,?_⟩));exact ya8 (by unfold TM.beh;rw[al,he];rfl)
    clear bb M2;have s7:=s6.trans (y0 cv (.tup (tI (TM.beh x t))));have e7:(upd H6 tp (.tup (tI (TM.beh x t)))) tp=some (.tup (tI (TM.beh x t))):=z4;generalize upd H6 tp (.tup (tI (TM.beh x t)))=H7 at s7 e7 ⊢;have S7:=s5.trans s7;have d7:=s7 _ _ d5;have f7:=s7 _ _ f5;have t7:=t5.same s7;have ax:H7 tp=some (.tup ((kT (TM.beh x t)).map kV)):=by rw[xi7];exact e7
    have zG:TM.Grp n (λz=>z∈S) (TM.beh x t):=.mul aj bm;refine exI rfl (exI rfl ⟨g,exI rfl ⟨U5.t d7 ax,exI rfl ?_⟩⟩);rw[zl2];by_cases hz:TM.beh x t∈u
    .rw[if_pos hz];refine o0 ⟨u,C,_,_,rfl,S7,f7,t7,d7,T,G,⟨m5,I⟩,λs R=>?_⟩;rw[aT,ht]at R;rcases aH.mp R with h|h
     .exact U s h
     .obtain rfl:s=t:=by simpa using h
      exact hz
    .rw[if_neg hz];refine i9 ?_;have co:(kTs u).length<ge:=by unfold kTs;rw[ae];lia
     refine i4 λM3 bc=>exI rfl (exI rfl ⟨g,exI rfl ⟨zm9.t d7 ax co,bc _ _ ?_⟩⟩);clear bc M3;rw[xd5 hz];have cg:J≠g:=fd;have dc:tp≠g:=λz=>by subst z;rw[d7]at e7;cases e7
     have cz:∀xs,H7 g≠some (.tup xs):=λxs z=>by rw[d7]at z;cases z
     have S8:y4 H (upd H7 g (.dT (kTs (u++[TM.beh x t])))):=u8 S7 W _;have f8:(upd H7 g (.dT (kTs (u++[TM.beh x t])))) J=some (.lst (C.map V.ref)):=by rw[z6 cg];exact f7
     have d8:(upd H7 g (.dT (kTs (u++[TM.beh x t])))) g=some (.dT (kTs (u++[TM.beh x t]))):=z4;have t8:=c6.upd (o:=.dT (kTs (u++[TM.beh x t]))) t7 cz;have e8:(upd H7 g (.dT (kTs (u++[TM.beh x t])))) tp=some (.tup (tI (TM.beh x t))):=by rw[z6 dc];exact e7
     generalize upd H7 g (.dT (kTs (u++[TM.beh x t])))=H8 at S8 f8 d8 t8 e8 ⊢;refine exI rfl ⟨.inl ⟨rfl,_,SqL.of f8⟩,exI rfl ⟨J,_,_,rfl,rfl,f8,by rw[ae,bd];lia,?_⟩⟩;have c':∀xs,H8 J≠some (.tup xs):=λxs z=>by rw[f8]at z;cases z
     refine⟨u++[TM.beh x t],C++[tp],_,_,rfl,u8 S8 bg _,by rw[z4,aJ];rfl,Paired.snoc (t8.upd c') (by rw[z6 (λz=>by subst z;rw[f8]at e8;cases e8)];exact e8),by rw[z6 (Ne.symm fd)];exact d8,?_,λy Y=>?_,⟨m5++[TM.beh x t],by rw[I,ba]⟩,λs R=>?_⟩
     .refine bz.mpr ⟨T,by simp,λa ha c hc e=>hz ?_⟩;rw[←aq.mp hc,←e];exact ha
     .rcases aH.mp Y with h|h
      .exact G y h
      .rw[aq.mp h];exact zG
     .rw[aT,ht]at R;rcases aH.mp R with h|h
      .exact aR _ (U s h)
      .obtain rfl:s=t:=by simpa using h
       exact aF _ (by simp)
   .rintro σ H5 ⟨u,C,v5,v6,rfl,s5,f5,t5,d5,T,G,⟨m5,I⟩,U⟩;rw[ae,Paired.length Z,bD]at U;refine hM _ _ ?_;clear hM M O;have ch:=few u T G;refine exI rfl ⟨_,_,rfl,rfl,⟨k+1,u,C,v5,v6,?_,s5,f5,t5,d5,T,by rw[I];exact aR _ d.one,G,λi y hi Y s R=>?_,?_⟩,?_⟩
    .rw[show((k+1:Nat):Int)=(k:Int)+1 by lia];rfl
    .by_cases e:i=k
     .subst e;rw[I,aE hk,hx]at Y;rw[←Option.some.inj Y];exact U s R
     .have cn:i<k:=by lia
      rw[I,aE (by lia)]at Y;rw[I];exact aR _ (d.done i y cn Y s R)
    .rw[I,ao];lia
    .show 201-((k:Int)+1).toNat<201-((k:Int)).toNat;lia
  .rw[decide_eq_false (show ¬((k:Nat):Int)<((L.length:Nat):Int) by lia)];refine o0 (O _ _ ?_);clear O N;have el:=d.le;have a':=TM.grp_closed hS d.nd d.one d.grp λy Y s R=>by
    obtain⟨i,hi,e⟩:=bh.mp Y;exact d.done i y (by lia) (by rw[aa hi,e]) s R
   refine exI rfl ⟨J,as,L.map TM.iN,rfl,SqL.of f4,xu6 t4,λx hx=>?_,by rw[ae];lia,λl bs qs bi cq cr cs=>?_⟩
   .obtain⟨y,Y,rfl⟩:=az.mp hx;intro e;have hl:=((d.grp y Y).isT hS).length;have:y.length=0:=by rw[show y.length=(TM.iN y).length by unfold TM.iN;rw[ae],e];rfl
    lia
   .obtain⟨M,hM,rfl⟩:=xd8 cq;have sl:=y0 bi (.lst (bs.map V.ref));refine q l bs M _ (s4.free bi) (s4.trans sl) z4 ((yx7 cs).same sl) (by rw[hM.length_eq];lia) (hM.nodup_iff.mpr d.nd) (bx.mp cr) λx=>?_;rw[hM.mem_iff];exact a' x
 .rintro σ H4 Q1 Q2 h ⟨a1,e1,a2,e2,a3,a4,e3,sq,b1,b2,e4,e5,k,e6,q1⟩;exact⟨a1,e1,a2,e2,a3,a4,e3,sq,b1,b2,e4,e5,k,e6,h _ _ q1⟩
def plS (c:Int):Nat:=if c / 8 % 8=1 then 60 else(c % 8).toNat
def plR (c w:Int)(n:Nat)(W:List Nat):List Nat:=(List.range (plS c)).map λ(k:Nat)=>if 1<w then W.getD ((c / 8 / ((k:Int)+1)+(k:Int)) % ((W.length:Nat):Int)).toNat 0 else((c / 64 / ((k:Int)+1)+(k:Int)*(k:Int)) % (n:Int)).toNat
def zv3:Sp:=λvs H Q _=>∃(c:Int) (n:Nat) (wa:Addr) (W:List Nat),vs=[.int c,.int n,.ref wa]/\H wa=some (.lst (tI W))/\0<W.length/\W.length<=5/\0<n/\n<=60 /\
 ∀(r:Addr) (H':Hp),y4 H H'->H' r=some (if c % 4 % 2=1 then .tup (tI (plR (c / 4) (c % 4) n W)) else .lst (tI (plR (c / 4) (c % 4) n W)))->Q (.ref r) H'
theorem d6:x0 ["_law_cell_here","_law_many","_law_window","_law_way","_law_size","_law_row"] ["_law_cell_here","_law_many","_law_window"] (y6 M9):=scq
theorem xl6 (c:Int):plS c<=60:=by
 unfold plS;split
 .exact af _
 .lia
theorem zs3 (D:Def K mg "_law_places" M9 ["_law_cell_here","_law_many","_law_window"] f fd)(B:Blt mg):u7 P w K mg base CX0 1 f fd ["_law_cell_here","_law_many","_law_window"] zv3:=by
 refine D.F.ok d6 (λY H Q E h=>?_) (λM A outer s H Y Q E hr h=>?_)
 .obtain⟨c,n,o,W,rfl,_⟩:=h;rfl
 obtain⟨c,n,o,W,rfl,G,x,R,z,Z,q⟩:=h;refine⟨_,z7 (zd3 (w8 zl4 rfl B.divmod zz0 (z0 (pv 0) (z0 y8 z5))) (J9 rfl (i6 (t9 (i:=0) d6.nd rfl (Or.inr rfl)) (i6 (t9 (i:=3) d6.nd rfl (Or.inl rfl)) Q7))))
  (z7 (u0 (i:=4) d6.nd rfl (Or.inl rfl) (o7 P8 (pv 0) y8))
  (z7 (n4 (p5 P7 (o7 P8 (o7 N4 (pv 0) y8) y8) y8 (o6 _)) (z8 (u0 (i:=4) d6.nd rfl (Or.inl rfl) y8)) u4)
  (z7 (N8 (i:=5) [0,1] ["_law_k","_law_cell_here","_law_many"] d6.nd rfl rfl rfl (T0 rfl B.range (z0 (pv 4) z5)) (λ_ _ _ _=>o7 P8 (o7 R4 (o7 N4 (o7 N4 (pv 1) y8) (o7 R4 (pv 0) y8)) (o7 xz6 (pv 0) (pv 0))) (pv 2)))
  (z7 (n4 (p5 yk7 (pv 3) y8 (o6 _)) (z8 (N8 (i:=5) [2,0] ["_law_k","_law_window","_law_cell_here"] d6.nd rfl rfl rfl (T0 rfl B.range (z0 (pv 4) z5)) (λ_ _ _ _=>p9 p0 (pv 1) (o7 P8 (o7 R4 (o7 N4 (o7 N4 (pv 2) y8) (o7 R4 (pv 0) y8)) (pv 0)) (w8 v1 rfl B.len i8 (z0 (pv 1) z5))) (λ_ _=>rfl)))) u4)
  (z7 (n4 (p5 P7 (o7 P8 (pv 3) y8) y8 (o6 _)) (z8 (v0 (u9 l5 rfl B.tuple f9 (z0 (pv 5) z5)))) u4)
  (z8 (v0 (pv 5)))))))),?_⟩
 refine exI rfl ⟨_,_,rfl,⟨by decide,by decide⟩,λJ C=>?_⟩;have s1:=y0 C (.tup [V.int (c / 4),V.int (c % 4)]);refine⟨J,exI rfl ⟨SqT.of z4,rfl,_,_,rfl,_,_,rfl,rfl,?_⟩⟩;generalize upd H J (.tup [V.int (c / 4),V.int (c % 4)])=H1 at s1 ⊢;generalize c / 4=d at q ⊢;generalize c % 4=w at q ⊢;refine i4 λN a=>a _ _ ?_;clear a N;refine i4 λN a=>exI rfl ⟨_,_,rfl,rfl,(by show(0:Int)<8;decide),a _ _ ?_⟩;clear a N;refine i4 λN a=>exI rfl ⟨_,_,rfl,rfl,⟨by decide,by decide⟩,_,_,rfl,rfl,(by show(0:Int)<8;decide),rfl,_,rfl,?_⟩;suffices hN':N [some (.int d),some (.int n),some (.ref o),some (.int w),some (.int ((plS d:Nat):Int)),none] H1 by
  rw[c7];unfold plS at hN';by_cases h:d / 8 % 8=1
  .rw[decide_eq_true h];rw[if_pos h]at hN';exact i9 hN'
  .rw[decide_eq_false h];rw[if_neg h,show(((d % 8).toNat:Nat):Int)=d % 8 by lia]at hN';exact o0 hN'
 refine a _ _ ?_;clear a N;have hz:=xl6 d;refine i4 λN a=>exI rfl (exI rfl ⟨by lia,by lia,?_⟩);rw[bG];refine zl6 (tI ((List.range (plS d)).map λ(k:Nat)=>((d / 64 / ((k:Int)+1)+(k:Int)*(k:Int)) % (n:Int)).toNat)) (by rw[x9,ae,aU]) (small (by lia)) ?_ ?_
 .intro i H' hi s' _ _ _ _;rw[show(0:Int)+(i:Int)=(i:Int) by lia];obtain⟨m,e,y⟩:=xs1 (c:=d / 64 / ((i:Int)+1)+(i:Int)*(i:Int)) z;have I:(i:Int)<60:=by lia
  refine exI rfl ⟨_,_,rfl,rfl,⟨by decide,by decide⟩,exI rfl ⟨_,_,rfl,rfl,_,_,rfl,rfl,⟨by lia,by lia⟩,exI rfl (exI rfl ⟨_,_,rfl,rfl,.inl ⟨by lia,by lia⟩,_,_,rfl,rfl,_,rfl,_,_,rfl,rfl,(by show(0:Int)<(n:Int);lia),y4.refl _,?_⟩)⟩⟩;refine(ya8 (p:=m) ?_).trans ?_
  .rw[al,aZ hi];show some (((d / 64 / ((i:Int)+1)+(i:Int)*(i:Int)) % (n:Int)).toNat)=some m;rw[e];rfl
  .show some (V.int m)=some (V.int _);rw[e]
 intro U H2 S X O;refine a _ _ ?_;clear a N;refine i4 λN a=>exI rfl ⟨_,_,rfl,rfl,_,rfl,?_⟩;have v:=s1.trans X;suffices hN':∀(l:Addr) (g:Hp),y4 H g->g l=some (.lst (tI (plR d w n W)))->N [some (.int d),some (.int n),some (.ref o),some (.int w),some (.int ((plS d:Nat):Int)),some (.ref l)] g by
  by_cases h:1<w
  .rw[decide_eq_true (show w > 1 from h)];refine i9 (exI rfl (exI rfl ⟨by lia,by lia,?_⟩));rw[bG];refine zl6 (tI (plR d w n W)) (by rw[x9];unfold plR;rw[ae,aU]) (small (by lia)) ?_ (λL g _ u r=>hN' L g (v.trans u) r);intro i H' hi s' _ _ _ _;rw[show(0:Int)+(i:Int)=(i:Int) by lia];obtain⟨m,e,y⟩:=xs1 (c:=d / 8 / ((i:Int)+1)+(i:Int)) x;have j:((tI W).length:Int)=((W.length:Nat):Int):=by rw[x9]
   have b:=SqL.of (K:=K) ((v.trans s') _ _ G);refine exI rfl (exI rfl ⟨_,_,rfl,rfl,⟨by decide,by decide⟩,exI rfl ⟨_,_,rfl,rfl,_,_,rfl,rfl,⟨by lia,by lia⟩,exI rfl ⟨_,_,rfl,rfl,_,rfl,o,exI rfl ⟨.inl b,_,_,rfl,rfl,by rw[j];lia,o,_,_,V.int ((W.getD m 0:Nat):Int),rfl,rfl,b,?_,y4.refl _,?_⟩⟩⟩⟩)
   .rw[j,e];exact A2 (by rw[aa y,ah,aa y];rfl)
   .refine ya8 (p:=W.getD m 0) ?_;unfold plR;rw[al,aZ hi];show some (if 1<w then W.getD ((d / 8 / ((i:Int)+1)+(i:Int)) % ((W.length:Nat):Int)).toNat 0 else _)=_;rw[if_pos h,e];rfl
  .rw[decide_eq_false (show ¬w > 1 from h)];refine o0 (hN' U H2 v ?_);rw[O];unfold plR;congr 4;funext k;rw[if_neg h]
 intro l g u r;refine a _ _ ?_;clear a N;refine i4 λN a=>exI rfl ⟨_,_,rfl,rfl,(by show(0:Int)<2;decide),rfl,_,rfl,?_⟩;rw[c7];by_cases h:w % 2=1
 .rw[decide_eq_true h];rw[if_pos h]at q;refine i9 (exI rfl ⟨l,exI rfl (.inl ⟨SqL.of r,λt T=>?_⟩)⟩);exact q t _ (u.trans (y0 T _)) z4
 .rw[decide_eq_false h];rw[if_neg h]at q;exact o0 (a _ _ (exI rfl (q l g u r)))
def yo9 (n:Nat):List PyData:=[.list [.int n],.tuple [.int 0,.int (-1)],.list [.bool true],.list [.str "0"],.int 0,.str "0",.none,.list (List.replicate 61 (.int 0)),.list [.list [.int 0]],.dict [(.int 0,.int 0)],.list [.int 0,.none,.int ((n:Int)-1)]]
theorem zj8 (i:Nat)(e:yt0 d=some ds)(h:ds[i]?=some d')(h2:plD n d'=none):zb1 60 n d=none:=by
 unfold zb1;rw[e];show(if ds.length<=60 then zj5 n ds else none)=none;rw[A8 h h2,ite_self]
theorem wc6 :∀d∈yo9 n,zb1 60 n d=none:=by
 intro d a;unfold yo9 at a;simp only[ax,bW,or_false]at a;rcases a with h|h|h|h|h|h|h|h|h|h|h <;> subst h
 .exact zj8 0 rfl rfl (if_neg λz=>absurd z.2 (by lia))
 .exact zj8 1 rfl rfl rfl
 .exact zj8 0 rfl rfl rfl
 .exact zj8 0 rfl rfl rfl
 .rfl
 .rfl
 .rfl
 .rfl
 .exact zj8 0 rfl rfl rfl
 .rfl
 .exact zj8 1 rfl rfl rfl
def yy1:Sp:=λvs H Q _=>∃(c:Int) (n:Nat),vs=[.int c,.int n]/\∀(v:V) (d:PyData) (H':Hp),y4 H H'->Dt H' v d->zb1 60 n d=none->Q v H'
theorem wb2 {n:Nat}:xv1 (λσ _=>σ[1]?=some (some (.int n))):=λ_ _ _ _ h=>h
theorem zm0 {ds:List PyData}(h:Nat.ble ds.length 100=true:=by rfl):ds.length<=ge:=small (aD (Nat.le_of_ble_eq_true h) (by decide))
theorem yv4 (h:Dt H v d):∀k:Nat,Dts H (List.replicate k v) (List.replicate k d)
 | 0=>.nil
 | k+1=>.cons h (yv4 h k)
theorem zm5:x0 ["_law_cell_here","_law_many","_law_some"] ["_law_cell_here","_law_many"] (y6 zd6):=scq
theorem yk1 (D:Def K mg "_law_bad" zd6 ["_law_cell_here","_law_many"] f fd)(B:Blt mg):u7 P w K mg base CX0 1 f fd ["_law_cell_here","_law_many"] yy1:=by
 refine D.F.ok zm5 (λC H Q E h=>?_) (λr A outer s H C Q E hr h=>?_)
 .obtain⟨c,n,rfl,_⟩:=h;rfl
 obtain⟨c,n,rfl,q⟩:=h;apply zh4
 .apply h8
  .have b:=@wb2 n;exact xx3 (i:=2) zm5.nd rfl (Or.inl rfl) (zd0 (ds:=yo9 n)
    (m4 b (zd0 (m4 b (yk8 (pv 1) λσ H Q b k=>⟨_,b,k _ H (y4.refl _) (.int _)⟩) N5) zm0)
    (m4 b (xz8 (m4 b ye8 (m4 b (yk8 (zs7 ze5 y8) λσ H Q b k=>exI rfl (k _ H (y4.refl _) (.int _))) N5)) zm0)
    (m4 b (zd0 (m4 b we4 N5) zm0) (m4 b (zd0 (m4 b xl1 N5) zm0) (m4 b ye8 (m4 b xl1 (m4 b xl0
    (m4 b (yk8 (o7 xk9 (Z2 (z0 y8 z5)) y8) λσ H Q b k=>⟨by decide,λl j=>⟨l,61,[V.int 0],rfl,rfl,z4,by decide,by decide,by decide,λp e=>k _ _ ((y0 j _).trans (y0 e _)) (.lst z4 (yv4 (.int 0) 61))⟩⟩)
    (m4 b (zd0 (m4 b (zd0 (m4 b ye8 N5) zm0) N5) zm0)
    (m4 b (yk8 (zo9 (zg5 y8 y8 zp2) rfl rfl (by simp) (by show 1<=15;decide)) λσ H Q b k p e=>⟨z4,[(.inl 0,.int 0)],rfl,by decide,k _ _ (u8 (y0 e _) e _) (Dt.dct (kvs:=[(.inl 0,.int 0)]) z4)⟩)
    (m4 b (zd0 (m4 b ye8 (m4 b xl0 (m4 b (yk8 (o7 zj4 (pv 1) y8) λσ H Q b k=>⟨_,b,_,_,rfl,rfl,k _ H (y4.refl _) (.int _)⟩) N5))) zm0) N5))))))))))) zm0)
  exact⟨z8 (v0 (p9 p0 (pv 2) (o7 P8 (pv 0) y8) (λ_ _=>rfl)))⟩
 refine⟨rfl,λv H1 s1 y=>?_⟩
 cases y with
 | lst h1 r1 =>
 rename_i a xs;have j:xs.length=11:=r1.length;obtain⟨m,t,G⟩:=xy9 (z:=c) (k:=11) (by decide);obtain⟨x,o⟩:∃x,xs[m]?=some x:=⟨_,aa (by lia)⟩;obtain⟨d,u,g⟩:=r1.get o;refine exI rfl (exI rfl ⟨_,_,rfl,rfl,(by show(0:Int)<11;decide),a,_,_,x,rfl,rfl,SqL.of h1,?_,q x d H1 s1 g (wc6 d (au u))⟩);rw[show c % 11=(m:Int) from t];exact o8 o
theorem zu2:PySem.SeqAt.shaped (.list [.bool true,.bool false,.bool false])=true:=by decide +kernel
theorem xr0:PyData.eqv (.list [.bool true,.bool false,.bool false]) (.list [.bool true,.bool false,.bool false])=true:=by decide +kernel
def zm8 (cG cC cB cS:Addr):Sp:=λvs H Q _=>∃(g:Addr) (v:V) (d:PyData) (n:Nat) (ts:List (List Nat)) (S:ChS),vs=[.ref g,v]/\u6 cG cC cB cS n H g ts S/\Dt H v d/\zb1 60 n d=none/\∀H':Hp,y4 H H'->Q (.bl true) H'
theorem W4:x0 ["_law_group","_law_places_here","_law_kinds","e"] ["_law_group","_law_places_here"] (y6 O5):=scq
theorem zn7 {cG cC cB cS TE C e j:Addr}(D:Def K mg "_law_refused" O5 ["_law_group","_law_places_here"] f fd)(B:Blt mg)(R:P4 P w K mg base 9 "fixing" ["group","places"] (ya4 C cG cC cB cS))(z:xf2 K mg TE)(y:zp7 K mg TE "NoThing" C)(M:zp7 K mg TE "NoTurning" e)(O:zp7 K mg TE "NotIn" j)(x:yb4 K C)(k1:W.kitOne K (.ref C) (.ref e)=some false)(k2:W.kitOne K (.ref C) (.ref j)=some false):u7 P w K mg base CX0 10 f fd ["_law_group","_law_places_here"] (zm8 cG cC cB cS):=by
 refine D.F.ok W4 (λvs H Q E h=>?_) (λT A outer s H vs Q E hr h=>?_)
 .obtain⟨g,v,d,n,ts,S,rfl,_⟩:=h;rfl
 obtain⟨g,v,d,n,ts,S,rfl,X,Y,t,q⟩:=h;apply zh4
 .apply h8
  .exact DS.mk (u0 (i:=2) W4.nd rfl (Or.inl rfl) (Z2 z5))
  apply h8
  .exact DS.mk (xt1 R hr rfl (z0 (pv 0) (z0 (pv 1) z5)) (we6 (i:=3) y.c z.c (by simp) rfl z.m W4.nd rfl rfl (λa=>z8 (u0 (i:=2) W4.nd rfl (Or.inl rfl) (Z2 (z0 (w8 yb8 rfl B.isinstance n8 (z0 (pv 3) (z0 (zp0 (v:=.ref C) rfl y.m rfl) z5))) (z0 (w8 zb6 rfl B.isinstance n8 (z0 (pv 3) (z0 (zp0 (v:=.ref e) rfl M.m rfl) z5))) (z0 (w8 zb6 rfl B.isinstance n8 (z0 (pv 3) (z0 (zp0 (v:=.ref j) rfl O.m rfl) z5))) z5))))))) rfl rfl)
  exact⟨z8 (v0 (J7 (yw8 hr.units) (pv 2) (Z2 (z0 Y3 (z0 Y3 (z0 Y3 z5)))) (o6 _)))⟩
 refine i4 λN b=>⟨aG _,λkl o=>b _ _ ?_⟩;clear b N;have s1:=y0 o (.lst []);generalize upd H kl (.lst [])=H1 at s1 ⊢;refine i4 λN b=>⟨λC' a' H'=>C'=.ref C/\y4 H1 H',(exI rfl (exI rfl ⟨g,v,d,n,ts,S,rfl,X.same s1,Y.same s1,t,λH' s'=>⟨rfl,s'⟩⟩)),?_⟩;rintro a C' H' ⟨U,s'⟩ Z
 cases U
 have I:y4 H (upd H' a (zv9 a C)):=u8 (s1.trans s') (s1.free (s'.free Z)) _;have k:(upd H' a (zv9 a C)) a=some (zv9 a C):=z4;have l:W.isIn K (.ref C) C=true:=by unfold W.isIn;simp
 refine⟨rfl,?_⟩;generalize upd H' a (zv9 a C)=H2 at I k ⊢;refine exI rfl ⟨a,C,C,rfl,k,l,exI rfl ⟨a,C,e,false,rfl,k,x,k1,exI rfl ⟨a,C,j,false,rfl,k,x,k2,(by show 3<=ge;decide),λu p=>b _ _ ?_⟩⟩⟩;clear b N;have J:=y0 p (.lst [V.bl true,V.bl false,V.bl false]);have G:(upd H2 u (.lst [V.bl true,V.bl false,V.bl false])) u=some (.lst [V.bl true,V.bl false,V.bl false]):=z4;generalize upd H2 u (.lst [V.bl true,V.bl false,V.bl false])=H3 at J G ⊢;refine exI rfl ⟨(by show 3<=ge;decide),λl2 r=>?_⟩;have L:=y0 r (.lst [V.bl true,V.bl false,V.bl false]);refine⟨_,_,.lst (L _ _ G) (.cons (.bl _) (.cons (.bl _) (.cons (.bl _) .nil))),.lst z4 (.cons (.bl _) (.cons (.bl _) (.cons (.bl _) .nil))),zu2,zu2,?_⟩;rw[xr0];exact q _ (I.trans (J.trans L))
theorem ya2 :∀{t:List Nat},(∀x∈t,x<n)->zj5 n (t.map λ(x:Nat)=>PyData.int x)=some t
 | [],_=>rfl
 | x::t,h=>by
  have hx:=h x aw
  show((plD n (.int x)).bind λy=>(zj5 n (t.map λ(x:Nat)=>PyData.int x)).map λl=>y::l)=_
  rw[ya2 λy hy=>h y (ar _ hy),yf1,if_pos ⟨by lia,by lia⟩,bG]
  rfl
def zw1 (H:Hp)(a:Addr)(l:List Nat):Prop:=H a=some (.lst (tI l))∨H a=some (.tup (tI l))
theorem zw1.same (h:zw1 H a l)(s:y4 H H'):zw1 H' a l:=h.imp (s _ _) (s _ _)
theorem zw1.dt {l:List Nat}(h:zw1 H a l)(h1:l.length<=60)(h2:∀x∈l,x<n):∃d,Dt H (.ref a) d/\zb1 60 n d=some l:=by
 have e:(if (l.map λ(x:Nat)=>PyData.int x).length<=60 then zj5 n (l.map λ(x:Nat)=>PyData.int x) else none)=some l:=by
  rw[ae,if_pos h1,ya2 h2]
 rcases h with h|h
 .exact⟨_,.lst h (yc3 l),e⟩
 .exact⟨_,yf4 h,e⟩
theorem xo7 {L M:List (List Nat)}(h:Srt L)(h':Srt M)(p:L.Perm M):L=M :=
 List.Perm.eq_of_pairwise (λa b _ _ h1 h2=>by
  have e:=yi9 h2 h1
  rw[←zo6 a,←zo6 b,e]) h h' p
theorem xj7 {ts L us:List (List Nat)}{S:ChS}(c:u6 cG cC cB cS n H g ts S)(d:L.Nodup)(f:Srt L)(b:∀x,x∈L↔TM.Grp n (λz=>z∈ts) x)(p:us.length=S.chn.many n n)(a:∀i u,us[i]?=some u->S.chn.NthL (List.range' 0 n) i (List.range n) u):us=L:=by
 have m:us.Pairwise λx y=>HT.lexLt (TM.iN x) (TM.iN y)=true:=bg.mpr λi j hi o k=>c.nth_less k (by lia) (a i _ (aa hi)) (a j _ (aa o));refine xo7 (m.imp yq8) f ((dz (m.imp λ{x y} h e=>?_) d).mpr λu=>⟨λl=>?_,λl=>?_⟩)
 .rw[e,yd3]at h
  cases h
 .obtain⟨i,hi,rfl⟩:=bh.mp l;exact(b _).mpr (c.nth (by lia) (a i _ (aa hi))).2.1
 .have hG:=(b u).mp l;have r:=c.num_lt hG;have q:=a _ _ (aa (show S.chn.NumL (List.range' 0 n) (List.range n) u<us.length by lia));rw[←c.nth_num hG q];exact bw _
theorem yw4 {a:List Addr}(hl:a.length=p+1)(c:a[p]?=some b):atI (a.map V.ref) (-1)=some (V.ref b):=by
 have h1:ixN (a.map V.ref).length (-1)=some p:=by
  rw[ae];unfold ixN;rw[if_neg (by decide),if_pos (by lia)];congr 1;lia
 unfold atI;rw[h1];exact xm1 c
theorem u6.many_len {S:ChS}(a:u6 cG cC cB cS n H g ts S){L:List (List Nat)}(c:L.Nodup)(h:∀x,x∈L↔TM.Grp n (λz=>z∈ts) x):S.chn.many n n=L.length:=by
 obtain⟨M,h1,h2,b⟩:=a.st.inv.ok.all n (af _) λj _ d=>a.st.inv.shut (a.st.done j d);rw[bQ]at h2;rw[←b];exact((dz h1 c).mpr λx=>(h2 x).trans ((a.grp x).trans (h x).symm)).length_eq
theorem wd9 {l:List Nat}{R:It->Hp->Prop}(b:σ[k]?=some (some (.ref a)))(h:zw1 H a l)(r:∀J:It,(∀H',y4 H H'->J.stop l.length H')->(∀i H',i<l.length->y4 H H'->J.go i H')->(∀i H' x H2,y4 H H'->J.yld i H' x H2->H2=H'/\(tI l)[i]?=some x)->R J H):wd8 K (wb9 k) σ H R:=by
 refine⟨_,b,a,rfl,?_⟩;have e:(tI l).length<=l.length:=by rw[x9];exact af _
 have g:∀i (hi:i<l.length),(tI l)[i]?=some ((tI l)[i]'(by rw[x9];exact hi)):=λi hi=>aa _;rcases h with h|h
 .exact .inl ⟨⟨_,SqL.of h⟩,r _ (λH' s=>⟨_,SqL.of (s _ _ h),e⟩) (λi H' hi s=>⟨_,_,SqL.of (s _ _ h),g i hi⟩) λi H' x H2 s y=>⟨y.1,y.2 _ (SqL.of (s _ _ h))⟩⟩
 .exact .inr ⟨⟨_,SqT.of h⟩,r _ (λH' s=>⟨_,SqT.of (s _ _ h),e⟩) (λi H' hi s=>⟨_,_,SqT.of (s _ _ h),g i hi⟩) λi H' x H2 s y=>⟨y.1,y.2 _ (SqT.of (s _ _ h))⟩⟩
def zc7 (l t:List Nat):Bool:=(l.map λx=>decide (t.getD x 0=x)).all id
theorem xj1 {l t:List Nat}:zc7 l t=true↔∀x∈l,t.getD x 0=x:=by
 unfold zc7;rw[eL,bI];exact forall_congr' λx=>imp_congr_right λ_=>decide_eq_true_iff
def ym5 (cG cC cB cS:Addr):Sp:=λvs H Q _=>∃(g ea pa:Addr) (n:Nat) (ts L:List (List Nat)) (S:ChS) (eas:List Addr) (l:List Nat),vs=[.ref g,.ref ea,.ref pa]/\u6 cG cC cB cS n H g ts S/\H ea=some (.lst (eas.map V.ref))/\c6 H eas L/\L.Nodup/\Srt L/\(∀x,x∈L↔TM.Grp n (λz=>z∈ts) x)/\L.length<=200/\TM.Few n ts 200/\zw1 H pa l/\l.length<=60/\(∀x∈l,x<n)/\∀H':Hp,y4 H H'->Q (.bl true) H'
theorem Q9:x0 ["_law_group","_law_every","_law_places_here","_law_found","_law_due","_law_t"] ["_law_group","_law_every","_law_places_here"] (y6 N9):=scq
theorem ye0 (D:Def K mg "_law_good" N9 ["_law_group","_law_every","_law_places_here"] f fd)(B:Blt mg)(cg:m9 K cG X8)(KF:p6 P w K mg base 9 "fixing" ["group","places"] (ym4 cG cC cB cS))(ML:b9 P w K mg base 4 cG "listed" ["self"] (λvs H Q _=>O9 X cG cC cB cS vs H Q E0))(MS:b9 P w K mg base 2 cG "size" ["self"] (zp4 cG cC cB cS))
  (MR:b9 P w K mg base 6 cG "recipe" ["self","thing"] (ym9 cG cC cB cS)) (MT:b9 P w K mg base 1 cG "told" ["self"] (yg3 cG cC cB cS)) (KW:p6 P w K mg base 4 "worked" ["lines","makers","many"] (yn2 K)):u7 P w K mg base CX0 10 f fd ["_law_group","_law_every","_law_places_here"] (ym5 cG cC cB cS):=by
 refine D.F.ok Q9 (λvs H Q E h=>?_) (λca A outer s H vs Q E hr h=>?_)
 .obtain⟨g,ea,pa,n,ts,L,S,an,l,rfl,_⟩:=h;rfl
 obtain⟨g,ea,pa,n,ts,L,S,an,l,rfl,ga,bc,bw,ci,cj,ay,ch,few,bh,be,bf,q⟩:=h;have hu:(A.deeper (PyProof.Rows.envOfC "_law_good" (y6 N9) s.heap.objs.size f ca)).units+65<cLine:=by have:=hr.un;lia
 apply zh4
 .apply h8
  .exact DS.mk (u0 (i:=3) Q9.nd rfl (Or.inl rfl) (r6 KF hr rfl (z0 (pv 0) (z0 (pv 2) z5))))
  apply h8
  .exact DS.mk (u0 (i:=4) Q9.nd rfl (Or.inr rfl) (Z2 z5))
  apply h8
  .exact DS.mk (Z9 PassesOwn.never rfl (Y8 (pv 1)) (t9 (i:=5) Q9.nd rfl (Or.inr rfl))
    (z8 (n4 (Z4 (w8 (P1 rfl) rfl B.all zh9 (z0 (b6 [5] ["_law_place","_law_t"] rfl (xl4 (pv 2)) (λ_ _ _ _=>J7 P7 (p9 Y6 (pv 1) (pv 0) (λ_ _=>rfl)) (pv 0) (o6 _))) z5)))
     (z8 (i5 (K1 PySem.F.plainAttrs_list PySem.F.slot_list_append PySem.F.type_list_append c3 (pv 4) (z0 (pv 5) z5)))) u4)))
  apply h8
  .exact DS.mk (n4 (PW.pt (B3 (p5 yw9 (y9 (pv 3) rfl) (y9 (pv 0) rfl) (o6 _)) (B3 (p5 (ye4 hr.units) (U9 cg.cls ML hr (pv 3)) (pv 4) (o6 _)) (M7 (p5 yw9 (U9 cg.cls MS hr (pv 3)) (w8 v1 rfl B.len i8 (z0 (pv 4) z5)) (o6 _)))))) (z8 (v0 Y3)) u4)
  apply h8
  .exact DS.mk (n4 (p5 (ye4 hr.units) (p9 p0 (r6 KW hr rfl (z0 (Z3 cg.cls MR hr (pv 3) (z0 (p9 p0 (pv 4) (zs7 ze5 y8) (λ_ _=>rfl)) z5)) (z0 (U9 cg.cls MT hr (pv 3)) (z0 (y9 (pv 0) rfl) z5)))) (zs7 ze5 y8) (λ_ _=>rfl)) (p9 p0 (pv 4) (zs7 ze5 y8) (λ_ _=>rfl)) (o6 _)) (z8 (v0 Y3)) u4)
  exact⟨z8 (v0 (w8 (P1 rfl) rfl B.all zh9 (z0 (b6 [4] ["_law_maker_here","_law_due"] rfl (Y8 (U9 cg.cls MT hr (pv 3))) (λ_ _ _ _=>J7 (xs7 hu) (pv 0) (pv 1) rfl)) z5)))⟩
 obtain⟨dp,ba,ak⟩:=bh.dt be bf;have cl:an.length=L.length:=Paired.length bw;refine i4 λN o=>exI rfl (exI rfl ⟨g,.ref pa,dp,n,ts,S,l,rfl,ga,ba,ak,few,λg2 M S2 H1 s1 cc bd=>o _ _ ?_⟩);clear o N ba ak dp;refine i4 λN o=>⟨aG _,λdl a'=>o _ _ ?_⟩;clear o N;have s2:=y0 a' (.lst []);have d2:(upd H1 dl (.lst [])) dl=some (.lst (([]:List Addr).map V.ref)):=z4;generalize upd H1 dl (.lst [])=H2 at s2 d2 ⊢;refine i4 λN o=>exI rfl ⟨ea,rfl,⟨_,SqL.of ((s1.trans s2) _ _ bc)⟩,V5 (xs:=an.map V.ref) (λi σ G=>∃(c:List Addr) (v5:Option V),σ=[some (.ref g),some (.ref ea),some (.ref pa),some (.ref g2),some (.ref dl),v5]/\y4 H1 G/\G dl=some (.lst (c.map V.ref))/\c6 G c ((L.take i).filter (zc7 l)))
  ⟨[],none,rfl,s2,d2,.nil⟩ (λi σ G _ ⟨_,_,_,ss,_⟩=>SqL.of ((s1.trans ss) _ _ bc)) ?_ ?_⟩
 .clear o;rintro i y σ G hy ⟨c,v5,rfl,ss,hd,td⟩;obtain⟨ta,cq,rfl⟩:=V8 hy;obtain⟨t,ht,aw⟩:=p4 bw i ta cq;have tT:=((ay t).mp (au ht)).isT ga.tT;have sg:=s1.trans ss;have Z:(L.take (i+1)).filter (zc7 l)=(L.take i).filter (zc7 l)++[t].filter (zc7 l):=by
   rw[aT,ht,cR];rfl
  dsimp only[h9,wf5,tB,tCB,xw2,yn3,yt9];refine wd9 ?_ (bh.same sg) ?_
  .rfl
  refine λJ j1 j2 j3=>L6 ((l.map λx=>decide (t.getD x 0=x)).map V.bl) (by rw[ae,ae]) (small (by lia)) j1 j2 (λj G2 v G3 hj k y=>?_) ?_
  .obtain⟨rfl,hv⟩:=j3 j G2 v G3 k y;obtain⟨x,hx,rfl⟩:=X7 hv;refine⟨rfl,λ_ _ _ _=>?_⟩;have cw:t[x]?=some (t.getD x 0):=by
    have:x<t.length:=by rw[tT.length];exact bf x (au hx)
    rw[ah,aa this];rfl
   refine exI rfl (exI rfl (ixT (SqT.of ((sg.trans k) _ _ aw)) (A2 cw) ⟨_,rfl,rfl,y4.refl _,?_⟩));rw[al,al,hx,c7];exact congrArg (λb=>some (V.bl b)) (decide_eq_decide.mpr ⟨λe=>by lia,λe=>by lia⟩)
  intro b G2 _ k hb;refine⟨b,exI rfl ⟨SqL.of hb,exI rfl ?_⟩⟩;show if zc7 l t=true then _ else _
  have W:=k _ _ hd;have bv:=td.same k;have ai:c.length<=200:=by rw[show c.length=_ from Paired.length td];exact aD (dR _ _) (by rw[aK];lia)
  cases hk:zc7 l t with
  | true =>
   rw[show [t].filter (zc7 l)=[t] by rw[bj,hk];rfl]at Z;refine i9 (exI rfl ⟨.inl ⟨rfl,_,SqL.of W⟩,exI rfl ⟨dl,_,_,rfl,rfl,W,zk8 (by rw[ae];lia),c++[ta],exI rfl ⟨u8 (ss.trans k) a' _,by rw[z4,aJ];rfl,?_⟩⟩⟩);rw[Z];exact c6.upd (Paired.snoc bv ((sg.trans k) _ _ aw)) λxs z=>by rw[W]at z;cases z
  | false =>
   rw[show [t].filter (zc7 l)=[] by rw[bj,hk];rfl,bu]at Z;exact o0 ⟨c,exI rfl ⟨ss.trans k,W,by rw[Z];exact bv⟩⟩
 rintro σ G ⟨c,v5,rfl,ss,hd,td⟩;refine o _ _ ?_;clear o N;rw[ae,cl,bD]at td;have ao:(L.filter (zc7 l)).Nodup:=ci.filter _;have av:Srt (L.filter (zc7 l)):=List.Pairwise.filter _ cj;have C:∀x,x∈L.filter (zc7 l)↔TM.Grp n (λz=>z∈M) x:=λx=>by rw[cP,ay,xj1,bd]
 have ce:(L.filter (zc7 l)).length<=200:=aD (dR _ _) ch;generalize L.filter (zc7 l)=U at td ao av C ce;have ai:c.length=U.length:=Paired.length td;have sg:=s1.trans ss;have cd:=ga.same sg;have d:=cc.same ss;obtain⟨dx,_,_,_,h1,_⟩:=cd.at';obtain⟨dz,_,_,_,h2,_⟩:=d.at';have em:=d.many_len ao C;obtain⟨lE,lS⟩:=zm7 U;refine i4 λN o=>exI rfl (p7 cg h2 rfl (exI rfl (p7 cg h1 rfl ⟨rfl,_,rfl,?_⟩)));rw[c7,decide_eq_true rfl];refine o0 (exI rfl (Z6 h2 rfl ⟨g2,n,M,S2,rfl,d,λ_ fa eb F G1 _ m cm hF ct bg=>?_,λz=>absurd z (by lia)⟩));obtain rfl:=xj7 d ao av C ct bg;refine exI rfl ⟨_,_,.lst cm (C4 hF),.lst (m _ _ hd) (C4 (td.same m)),lS,lS,exI rfl ?_⟩;rw[lE];have O:=m _ _ h2;have a:=d.same m;have T:=m _ _ hd;have bt:=td.same m;refine o0 (exI rfl (Z6 O rfl ⟨g2,n,M,S2,rfl,a,exI rfl ⟨dl,exI rfl ⟨.inl (SqL.of T),rfl,_,rfl,?_⟩⟩⟩));rw[c7,ae,ai,em,decide_eq_true rfl];refine o0 (o _ _ ?_);clear o N;have ef:0<F.length:=dL ((C _).mpr .one);have hx:F[F.length-1]?=some (F[F.length-1]'(by lia)):=aa (by lia);generalize F[F.length-1]'(by lia)=x at hx;have xG:=(C x).mp (au hx);have xT:=xG.isT a.tT;obtain⟨xa,cv,ax⟩:=l9 bt _ x hx;have la:atI (c.map V.ref) (-1)=some (V.ref xa):=yw4 (p:=F.length-1) (by lia) cv;have ec:=ga.n60;refine i4 λN o=>exI rfl (Z6 O rfl (exI rfl (exI rfl (ixI (SqL.of T) la ⟨g2,xa,n,M,S2,x,rfl,a,ax,xT,xG,λr G2 bs R _ ab co hR rc=>exI rfl (Z6 (ab _ _ O) rfl ⟨g2,n,M,S2,rfl,a.same ab,λtl dc G3 _ ac cr bi=>exI rfl (p7 cg ((m.trans (ab.trans ac)) _ _ h1) rfl ⟨r,tl,bs,dc,R,M,n,rfl,ac _ _ co,hR.same ac,cr,bi,rc.rc,rc.ne,a.tT,by lia,rc.len,λwl G4 ds _ da cu bb=>?_⟩)⟩)⟩))));have ee:0<R.length:=cp.mpr rc.ne;have Y:(TM.mkAll n M R).length=R.length:=TM.mkAll_len n M R;have dj:ds.length=R.length:=by rw[Paired.length bb,Y]
 obtain⟨b,hb,az⟩:=l9 bb (R.length-1) _ (aa (by lia));rw[show(TM.mkAll n M R)[R.length-1]'(by lia)=x by rw[←rc.made,ah,aa (by lia)];rfl]at az;have I:=ab.trans (ac.trans da);refine exI rfl (ixI (SqL.of cu) (yw4 (p:=R.length-1) (by lia) hb) (exI rfl (exI rfl (ixI (SqL.of (I _ _ T)) la ⟨U8 x,U8 x,zi5 az,zi5 (I _ _ ax),E7 x,E7 x,exI rfl ?_⟩))));rw[zo4,decide_eq_true rfl];refine o0 (o _ _ ?_);clear o N;refine exI rfl (Z6 (I _ _ O) rfl ⟨g2,n,M,S2,rfl,a.same I,λml bm G5 _ bq Y aj=>⟨ml,rfl,⟨_,SqL.of Y⟩,zi4 (SqL.of Y) ((List.replicate bm.length true).map V.bl) (by rw[ae,ae,bo]) (by rw[ae,show bm.length=M.length from Paired.length aj];exact small (by have:=a.few;lia)) ?_ ?_⟩⟩)
 .intro i G6 y hy br _ _ _ _;obtain⟨ua,bk,rfl⟩:=V8 hy;obtain⟨u,hu,cf⟩:=p4 aj i ua bk;have um:=au hu;have bp:=I.trans (bq.trans br);refine exI rfl (exI rfl ⟨dl,_,_,U8 u,rfl,bp _ _ T,C4 (bt.same bp),zi5 (br _ _ cf),lS,E7 u,y4.refl _,?_⟩);rw[xq5,decide_eq_true ((C u).mpr (TM.Grp.of a.tT um)),al,bS,if_pos (ag.mp bk).1];rfl
 intro nm G7 _ db cn;refine⟨nm,exI rfl ⟨SqL.of cn,?_⟩⟩;rw[yu5];exact q _ (sg.trans (m.trans (I.trans (bq.trans db))))
theorem xi8 (c:H x=none)(a:H dx=none)(h:H b=some o):(upd (upd H dx (.own x)) x (.ins cG dx [])) b=some o:=by
 rw[z6 (z9 h c),z6 (z9 h a)];exact h
theorem tsU (hx:H x=none)(hd:H dx=none)(h:c6 H as ts):c6 (upd (upd H dx (.own x)) x (.ins cG dx [])) as ts:=Paired.imp' (λb z e=>xi8 hx hd e) h
theorem we9 (hx:H x=none)(hd:H dx=none)(fr:w6 [x] (upd (upd H dx (.own x)) x (.ins cG dx [])) H'):y4 H H':=λb u h=>fr b u (by simpa using z9 h hx) (xi8 hx hd h)
theorem xg3 (ns:List Int)(lo hi:Option Int):∃ms:List Int,P5 (ns.map V.int) lo hi=ms.map V.int/\ms.length<=ns.length:=by
 refine⟨(ns.drop (HT.sIx (ns.map V.int).length 0 lo)).take (HT.sIx (ns.map V.int).length (ns.map V.int).length hi-HT.sIx (ns.map V.int).length 0 lo),?_,?_⟩
 .unfold P5;rw[ez,fR]
 .rw[aK,bH];lia
theorem xg4 (row:List Nat)(k:Nat):P5 (tI row) none (some (k:Int))=tI (row.take k):=by
 unfold P5;rw[HT.sIx_none,HT.sIx_nat,dA,cE];unfold tI;rw[ez];by_cases h:k<=(row.map λ(x:Nat)=>V.int x).length
 .rw[dP h]
 .rw[Nat.min_eq_right (by lia),bD,aV (by lia)]
theorem xq8 {row:List Nat}:P5 (tI row) (some 1) none=tI (row.drop 1):=by
 unfold P5;rw[HT.sIx_none,show(some (1:Int))=some ((1:Nat):Int) from rfl,HT.sIx_nat,x9];unfold tI;rw[←fR];by_cases h:1<=row.length
 .rw[dP h,←ez,aV (by rw[bH];exact af _)]
 .obtain rfl:row=[]:=df (by lia);rfl
theorem wh0:∀k,k<6->TM.fac k<=200:=by decide
theorem wa5 {H:Hp}{c f:Addr}{p:Prop}[Decidable p]{l:List Nat}(h1:H c=some (if p then .tup (tI l) else .lst (tI l)))(h2:H f=some (if p then .tup (tI l) else .lst (tI l))):∃d,Dt H (.ref c) d/\Dt H (.ref f) d/\PySem.SeqAt.shaped d=true/\PyData.eqv d d=true:=by
 by_cases e:p
 .rw[if_pos e]at h1 h2;exact⟨_,zi5 h1,zi5 h2,E7 l,by rw[zo4,decide_eq_true rfl]⟩
 .rw[if_neg e]at h1 h2;have k:∀{a:Addr},H a=some (.lst (tI l))->Dt H (.ref a) (.list ((l.map λ(x:Nat)=>(x:Int)).map PyData.int)):=λ{a} h=>by
   rw[bF];exact .lst h (yc3 l)
  obtain⟨a,b⟩:=ym1 (l.map λ(x:Nat)=>(x:Int));exact⟨_,k h1,k h2,b,a⟩
theorem zw1.of {H:Hp}{r:Addr}{p:Prop}[Decidable p]{l:List Nat}(h:H r=some (if p then .tup (tI l) else .lst (tI l))):zw1 H r l:=by
 by_cases e:p
 .rw[if_pos e]at h;exact .inr h
 .rw[if_neg e]at h;exact .inl h
theorem wa4 {c w:Int}{W:List Nat}(g:0<n)(f:∀x∈W,x<n)(d:0<W.length):∀x∈plR c w n W,x<n:=by
 intro x b;unfold plR at b;obtain⟨k,_,rfl⟩:=az.mp b;split
 .obtain⟨m,e,a⟩:=xs1 (c:=c / 8 / ((k:Int)+1)+(k:Int)) d;rw[e,bG,ah,aa a];exact f _ (bw a)
 .obtain⟨m,e,a⟩:=xs1 (c:=c / 64 / ((k:Int)+1)+(k:Int)*(k:Int)) g;rw[e];exact a
theorem xt0 (c w:Int)(n:Nat)(W:List Nat):(plR c w n W).length<=60:=by
 unfold plR;rw[ae,aU];exact xl6 c
theorem O7:x0 ["_law_script","_law_many","_law_strewn","_law_first","_law_window","_law_makers","_law_group","_law_every","_law_cell_here","_law_places_here"] ["_law_script"] (y6 zm4):=scq
theorem xz2 (D:Def K mg "law" zm4 ["_law_script"] f fd)(B:Blt mg)(cg:m9 K cG X8)(KG:zw0 P w K mg base 7 cG "Group" ["self","many","makers"] (zu7 cG cC cB cS))(MT:b9 P w K mg base 1 cG "told" ["self"] (yg3 cG cC cB cS))(Y:p6 P w K mg base 1 "_law_cell" ["_law_script","_law_k"] (ym3 K))(KO:p6 P w K mg base 1 "_law_order" ["_law_number","_law_many"] zk9)(KM:p6 P w K mg base 2 "_law_maker" ["_law_cell_here","_law_window","_law_many"] ya5)(KA:p6 P w K mg base 1 "_law_all" ["_law_makers","_law_many"] yy0)
  (KP:p6 P w K mg base 1 "_law_places" ["_law_cell_here","_law_many","_law_window"] zv3) (KB:p6 P w K mg base 1 "_law_bad" ["_law_cell_here","_law_many"] yy1) (aj:p6 P w K mg base 10 "_law_good" ["_law_group","_law_every","_law_places_here"] (ym5 cG cC cB cS)) (KF:p6 P w K mg base 10 "_law_refused" ["_law_group","_law_places_here"] (zm8 cG cC cB cS)):u7 P w K mg base CX0 11 f fd ["_law_script"] (yy4 K):=by
 refine D.F.ok O7 (λvs H Q E h=>?_) (λea A outer s H vs Q E hr h=>?_)
 .obtain⟨a,j,rfl,_⟩:=h;rfl
 obtain⟨I,j,rfl,hS,ei,bx,q⟩:=h;apply zh4
 .apply h8
  .exact DS.mk (u0 (i:=1) O7.nd rfl (Or.inr rfl) (o7 R4 y8 (o7 P8 (r6 Y hr rfl (z0 (pv 0) (z0 y8 z5))) y8)))
  apply h8
  .exact DS.mk (u0 (i:=2) O7.nd rfl (Or.inl rfl) (r6 KO hr rfl (z0 (r6 Y hr rfl (z0 (pv 0) (z0 y8 z5))) (z0 (pv 1) z5))))
  apply h8
  .exact DS.mk (u0 (i:=3) O7.nd rfl (Or.inl rfl) (o7 R4 y8 (o7 P8 (r6 Y hr rfl (z0 (pv 0) (z0 y8 z5))) y8)))
  apply h8
  .exact DS.mk (n4 (p5 ya0 (pv 1) y8 (o6 _)) (z8 (u0 (i:=3) O7.nd rfl (Or.inl rfl) (o7 R4 y8 (o7 P8 (r6 Y hr rfl (z0 (pv 0) (z0 y8 z5))) y8)))) u4)
  apply h8
  .exact DS.mk (u0 (i:=4) O7.nd rfl (Or.inr rfl) (S9 za3 (pv 2) I0 (Q8 (pv 3))))
  apply h8
  .exact DS.mk (N8 (i:=5) [4,1,0] ["_law_k","_law_window","_law_many","_law_script"] O7.nd rfl rfl rfl (T0 rfl B.range (z0 (o7 P8 (o7 N4 (r6 Y hr rfl (z0 (pv 0) (z0 y8 z5))) y8) y8) z5)) (λ_ _ _ _=>r6 KM hr rfl (z0 (r6 Y hr rfl (z0 (pv 3) (z0 (o7 R4 y8 (pv 0)) z5))) (z0 (pv 1) (z0 (pv 2) z5)))))
  apply h8
  .exact DS.mk (u0 (i:=6) O7.nd rfl (Or.inl rfl) (J8 KG hr rfl (z0 (pv 1) (z0 (pv 5) z5))))
  apply h8
  .exact DS.mk (u0 (i:=7) O7.nd rfl (Or.inl rfl) (r6 KA hr rfl (z0 (pv 5) (z0 (pv 1) z5))))
  apply h8
  .exact DS.mk (Z9 PassesOwn.never rfl (Y8 (o7 yw7 (S9 za3 (pv 0) (Q8 y8) (Q8 y8)) (Z2 (z0 (o7 N4 (r6 Y hr rfl (z0 (pv 0) (z0 y8 z5))) y8) z5)))) (t9 (i:=8) O7.nd rfl (Or.inl rfl))
    (z7 (u0 (i:=9) O7.nd rfl (Or.inl rfl) (r6 KP hr rfl (z0 (pv 8) (z0 (pv 1) (z0 (pv 4) z5)))))
    (z7 (n4 (PW.pt (B3 (Y7 (Z4 (r6 aj hr rfl (z0 (pv 6) (z0 (pv 7) (z0 (pv 9) z5)))))) (M7 (p5 (ye4 hr.units) (pv 9) (r6 KP hr rfl (z0 (pv 8) (z0 (pv 1) (z0 (pv 4) z5)))) (o6 _))))) (z8 (v0 Y3)) u4)
    (z8 (n4 (Y7 (Z4 (r6 KF hr rfl (z0 (pv 6) (z0 (r6 KB hr rfl (z0 (o7 N4 (pv 8) y8) (z0 (pv 1) z5))) z5))))) (z8 (v0 Y3)) u4)))))
  exact DSs.mk (z8 (v0 (zd1 (r6 aj hr rfl (z0 (pv 6) (z0 (pv 7) (z0 (S9 za3 (pv 4) (Q8 y8) I0) z5)))) (B2 (J7 (yw8 hr.units) (U9 cg.cls MT hr (pv 6)) (pv 5) (o6 _))))))
 obtain⟨n,en,em,hn⟩:=xr9 (j.getD 0 0);refine i4 λN e=>exI rfl ⟨I,j,0,rfl,hS,_,_,rfl,rfl,(by show(0:Int)<60;decide),_,_,rfl,rfl,e _ _ ?_⟩;clear e N;dsimp only;rw[en];refine i4 λN e=>exI rfl ⟨I,j,1,rfl,hS,exI rfl ⟨_,n,rfl,by lia,λst H1 row _ s1 hT _ ck=>e _ _ ?_⟩⟩;clear e N;have Z:=s1.seq hS;obtain⟨c,ec⟩:∃c,c=j.getD 2 0:=⟨_,rfl⟩;obtain⟨f0,ao,az,R⟩:∃f0:Nat,1+c % 3=(f0:Int)/\f0<=5/\1<=f0:=⟨(1+c % 3).toNat,by lia,by lia,by lia⟩;obtain⟨f1,ap,a',T⟩:∃f1:Nat,1+c % 5=(f1:Int)/\f1<=5/\1<=f1:=⟨(1+c % 5).toNat,by lia,by lia,by lia⟩;refine i4 λN e=>exI rfl ⟨I,j,2,rfl,Z,_,_,rfl,rfl,(by show(0:Int)<3;decide),_,_,rfl,rfl,e _ _ ?_⟩;clear e N;dsimp only;rw[←ec,ao];refine i4 λN e=>?_;suffices key:∀C:Nat,C<=5->1<=C->N [some (.ref I),some (.int n),some (.ref st),some (.int C),none,none,none,none,none,none] H1 by
  refine exI rfl ⟨_,_,rfl,rfl,_,rfl,xi4 (λ_=>?_) (λ_=>key f0 az R)⟩;refine exI rfl ⟨I,j,2,rfl,Z,_,_,rfl,rfl,(by show(0:Int)<5;decide),_,_,rfl,rfl,?_⟩;dsimp only;rw[←ec,ap];exact key f1 a' T
 intro C ek di;refine e _ _ ?_;clear e N ao az R ap a' T f0 f1;refine i4 λN e=>exI rfl (exI rfl (exI rfl ⟨st,exI rfl ⟨SqL.of ck,λX cm=>e _ _ ?_⟩⟩));clear e N;rw[xg4];have wn:(row.take C).Nodup:=hT.nodup.sublist (eG _ _);have wl:∀x∈row.take C,x<n:=λx hx=>hT.lt (ci hx);have w5:(row.take C).length<=5:=by rw[aK];lia
 have w0:0<(row.take C).length:=by rw[aK,hT.length];lia
 generalize row.take C=W at wn wl w5 w0 ⊢;have s2:=y0 cm (.lst (tI W));have e2:(upd H1 X (.lst (tI W))) X=some (.lst (tI W)):=z4;generalize upd H1 X (.lst (tI W))=H2 at s2 e2 ⊢;have J:=s2.seq Z;refine i4 λN e=>exI rfl ⟨I,j,2,rfl,J,_,_,rfl,rfl,⟨by decide,by decide⟩,_,_,rfl,rfl,(by show(0:Int)<4;decide),exI rfl ⟨(by show -(2 ^ 62)<=j.getD 2 0 / 15 % 4;lia),(by show j.getD 2 0 / 15 % 4<2 ^ 62;lia),yh3 (m:=(j.getD 2 0 / 15 % 4).toNat) (λt=>TM.IsT n t/\TM.Only n W t) (small (by lia)) ?_ ?_⟩⟩
 .intro i G hi sG _ _ _ _;rw[show(0:Int)+(i:Int)=(i:Int) by lia];refine exI rfl (exI rfl ⟨_,_,rfl,rfl,I,j,3+i,?_,sG.seq J,exI rfl (exI rfl ⟨_,X,n,W,rfl,sG _ _ e2,wn,wl,by lia,hn,λr G5 t ch s6 tT tO bc=>⟨s6,(r,t),rfl,⟨bc,tT,tO⟩,by simp,λb hb=>by rw[aq.mp hb];exact⟨ch,_,bc⟩⟩⟩)⟩);rw[show((3+i:Nat):Int)=3+(i:Int) by lia];rfl
 intro mk H3 bf ts dj s3 ab ac be hP;refine e _ _ ?_;clear e N;have tT:∀t∈ts,TM.IsT n t:=λt ht=>(hP t ht).1;have few:TM.Few n ts 200:=(TM.few_sym tT (λt ht=>(hP t ht).2) wn wl).more (wh0 _ (by lia));refine i4 λN e=>exI rfl (exI rfl (λg dg hg aa _=>⟨g,dg,mk,n,bf,ts,rfl,z4,by lia,hn,xi8 hg aa ab,tsU hg aa ac,by lia,tT,λS H4 bw ga _=>⟨rfl,e _ _ ?_⟩⟩));clear e N;have s4:=we9 hg aa bw;have cp:=s3.trans s4;refine i4 λN e=>exI rfl (exI rfl ⟨mk,n,bf,ts,rfl,s4 _ _ ab,ac.same s4,tT,few,by lia,hn,λev an L H5 _ s5 ay hL as au av ar=>e _ _ ?_⟩);clear e N;have o:=cp.trans s5;have bg:=s4.trans s5;have l:=ga.same s5;obtain⟨U,bu,el⟩:=xg3 j (some 6) (some 11);refine i4 λN e=>exI rfl (exI rfl (exI rfl ⟨I,exI rfl ⟨o.seq J,λp hp=>?_⟩⟩));rw[bu];have s6:=y0 hp (.lst (U.map V.int));have e6:(upd H5 p (.lst (U.map V.int))) p=some (.lst (U.map V.int)):=z4;generalize upd H5 p (.lst (U.map V.int))=H6 at s6 e6 ⊢;refine exI rfl ⟨I,j,0,rfl,(o.trans s6).seq J,_,_,rfl,rfl,⟨by decide,by decide⟩,(by show 1<=ge;decide),λp2 ce=>?_⟩;have s7:=y0 ce (.lst [V.int (j.getD 0 0 / 60)]);have e7:(upd H6 p2 (.lst [V.int (j.getD 0 0 / 60)])) p2=some (.lst [V.int (j.getD 0 0 / 60)]):=z4;generalize upd H6 p2 (.lst [V.int (j.getD 0 0 / 60)])=H7 at s7 e7 ⊢;refine⟨p,p2,_,_,rfl,rfl,SqL.of (s7 _ _ e6),SqL.of e7,small (by rw[ae];show U.length+1<=1000;lia),λp3 cf=>?_⟩;rw[show U.map V.int++[V.int (j.getD 0 0 / 60)]=(U++[j.getD 0 0 / 60]).map V.int by rw[aJ];rfl];generalize U++[j.getD 0 0 / 60]=cs;have s8:=y0 cf (.lst (cs.map V.int));have e8:(upd H7 p3 (.lst (cs.map V.int))) p3=some (.lst (cs.map V.int)):=z4;generalize upd H7 p3 (.lst (cs.map V.int))=H8 at s8 e8 ⊢;have bh:=s6.trans (s7.trans s8);refine⟨p3,rfl,⟨_,SqL.of e8⟩,V5 (xs:=cs.map V.int) (λi σ G=>∃v8 v9:Option V,σ=[some (.ref I),some (.int n),some (.ref st),some (.int C),some (.ref X),some (.ref mk),some (.ref g),some (.ref ev),v8,v9]/\y4 H8 G) ⟨none,none,rfl,y4.refl _⟩ (λi σ G _ ⟨_,_,_,ss⟩=>SqL.of (ss _ _ e8)) ?_ ?_⟩
 .clear e;rintro i y σ G hy ⟨v8,v9,rfl,sG⟩;rw[al]at hy;obtain⟨z,hz,rfl⟩:=cU.mp hy;have u:=bh.trans sG;refine i4 λM hM=>exI rfl (exI rfl (exI rfl ⟨z,n,X,W,rfl,(o.trans u) _ _ e2,w0,w5,by lia,hn,λr G1 bk bb=>hM _ _ ?_⟩));clear hM M;have k:=u.trans bk;refine i4 λM hM=>exI rfl (exI rfl (exI rfl ⟨g,ev,r,n,ts,L,S,an,exI rfl ⟨l.same k,k _ _ ay,hL.same k,au,av,ar,as,few,zw1.of bb,xt0 _ _ _ _,wa4 (by lia) wl w0,λG2 O=>exI rfl (o0 (exI rfl (exI rfl (exI rfl (exI rfl ⟨z,n,X,W,rfl,(o.trans (k.trans O)) _ _ e2,w0,w5,by lia,hn,λr2 G3 ag cj=>?_⟩)))))⟩⟩));obtain⟨d,bz,b',ax,ca⟩:=wa5 ((O.trans ag) _ _ bb) cj;refine⟨d,d,bz,b',ax,ax,exI rfl ?_⟩;rw[ca];refine o0 (hM _ _ ?_);clear hM M;have bi:=k.trans (O.trans ag);refine exI rfl (exI rfl ⟨_,_,rfl,rfl,⟨by decide,by decide⟩,exI rfl ⟨_,n,rfl,λv d' G4 bl hv cd=>⟨g,v,d',n,ts,S,rfl,l.same (bi.trans bl),hv,cd,λG5 ct=>exI rfl (o0 ⟨_,_,rfl,sG.trans (bk.trans (O.trans (ag.trans (bl.trans ct))))⟩)⟩⟩⟩)
 rintro σ G ⟨v8,v9,rfl,sG⟩;refine e _ _ ?_;clear e N;have u:=bh.trans sG;refine exI rfl (exI rfl (exI rfl (exI rfl ⟨X,exI rfl ⟨SqL.of ((o.trans u) _ _ e2),λwb cn=>?_⟩⟩)));rw[xq8];have sA:=y0 cn (.lst (tI (W.drop 1)));have eA:(upd G wb (.lst (tI (W.drop 1)))) wb=some (.lst (tI (W.drop 1))):=z4;generalize upd G wb (.lst (tI (W.drop 1)))=GA at sA eA ⊢;have sX:=u.trans sA;refine⟨g,ev,wb,n,ts,L,S,an,exI rfl ⟨l.same sX,sX _ _ ay,hL.same sX,au,av,ar,as,few,.inl eA,by rw[bH];lia,λx hx=>wl x (fv hx),λGB sB=>?_⟩⟩;have ad:=sX.trans sB;obtain⟨ef,_,_,_,cc,_⟩:=(l.same ad).at';refine exI rfl (i9 (exI rfl (Z6 cc rfl ⟨g,n,ts,S,rfl,l.same ad,λtl ex GC _ sC be bd=>?_⟩)));obtain⟨lE,lS⟩:=zm7 ts;have sM:=ad.trans sC;refine exI rfl ⟨_,_,.lst be (C4 bd),.lst (sM _ _ (bg _ _ ab)) (C4 (ac.same (bg.trans sM))),lS,lS,?_⟩;rw[lE];exact q _
end
def DI (K:W.Frag)(x:Str)(st:Stmt):Prop:=∃f fd,Fun K x x st f fd/\W.nsIn K mainGlobals x=some (some (.ref f))
def MI (K:W.Frag)(c:Addr)(m q:Str)(st:Stmt):Prop:=∃f fd,Fun K m q st f fd/\W.findIn K (.ref c) m=some (some (.ref f))/\W.isFn K (.ref f)=true
def xz1 (K:W.Frag)(c:Addr)(f:Str):Bool:=match W.findIn K (.ref c) f with|some none=>true|_=>false
def BA (x q:Str)(st:Stmt)(ps:List Str):Prop:=∀(kV doc pm:Value) (an:Option Addr) (cdv ct:Value) (us:List Value),us.length=ps.length->bindArgs (W.fnOf x q (Q5 st) (V4 st) (y6 st) .none kV doc pm an cdv ct) ⟨us,[]⟩=pure (ps.zip us)
structure CI (K:W.Frag) (c:Addr) (x:Str) (fs:List Str):Prop where
 n:W.nsIn K mainGlobals x=some (some (.ref c))
 cc:Cls K c
 ma:W.makesIn K c=true
 kp:W.keepIn K (.ref c)=true
 no:fs.all (xz1 K c)=true
structure EI (K:W.Frag) (x:Str) (C:Addr) (tl:List Value):Prop where
 n:W.nsIn K mainGlobals x=some (some (.ref C))
 c:zn0 K C tl "ValueError.__new__"
structure EO (K:W.Frag) (x:Str) (C TE:Addr):Prop where
 e:EI K x C (.ref TE::bmV)
 i:W.isIn K (.ref C) TE=true
structure ZZ (P:gf) (w:gp) (K:W.Frag) (mg:Str->Option Value) (base:Heap):Prop where
 mg:∀{x:Str} {v:Value},W.nsIn K mainGlobals x=some (some v)->mg x=some v
section
variable {P:gf}{w:gp}{K:W.Frag}{mg:Str->Option Value}{base:Heap}{x m q:Str}{st:Stmt}{ps fs:List Str}{k:Nat}{sp:Sp}{c C TE:Addr}{tl:List Value}
section
variable {f:Addr}{oc:Value}{od an:Option Addr}{sl:Array (Option Value)}{kV dc pm cd ct:Value}
theorem DI.of (a:W.nsIn K mainGlobals x=some (some (.ref f)))(l:K.lookup f=some ⟨oc,od,.func (W.fnOf x x (Q5 st) (V4 st) (y6 st) .none kV dc pm an cd ct),sl⟩)(h:W.codeIn K cd x=true)(k:W.keepIn K (.ref f)=true):DI K x st:=⟨f,_,yc6 l h k,a⟩
theorem MI.of (a:W.findIn K (.ref c) m=some (some (.ref f)))(l:K.lookup f=some ⟨oc,od,.func (W.fnOf m q (Q5 st) (V4 st) (y6 st) .none kV dc pm an cd ct),sl⟩)(h:W.codeIn K cd q=true)(k:W.keepIn K (.ref f)=true)(i:W.isFn K (.ref f)=true):MI K c m q st:=⟨f,_,yc6 l h k,a,i⟩
end
theorem CI.of (a:W.nsIn K mainGlobals x=some (some (.ref c)))(pg:W.plainGet K c Str.empty=true)(hd:W.hasDictIn K c=true)(po:W.plainOver K c=true)(sa:W.findIn K (.ref c) "__setattr__"=some (some (.builtin "object.__setattr__")))(mk:W.makesIn K c=true)(kp:W.keepIn K (.ref c)=true)(no:fs.all (xz1 K c)=true):CI K c x fs:=⟨a,⟨pg,hd,po,sa⟩,mk,kp,no⟩
theorem CI.f (I:CI K c x fs):m9 K c fs:=⟨I.cc,λf hf=>by
 have h:=bI.mp I.no f hf
 unfold xz1 at h
 split at h
 .assumption
 .cases h⟩
theorem EI.of (a:W.nsIn K mainGlobals x=some (some (.ref C)))
  (l:K.lookup C=some (excClassObj nm qn C N bs tl hdct sn sub ab col dd k0 k1 k2 k3 k5 "ValueError.__new__")) (n:K.lookup N=some oN) (o:W.nsOkIn K N=true) (i:W.nsIn K N "__init__"=some none) (t:W.tailIn K bmV tl=true):EI K x C tl:=⟨a,zn0.mk' l n o i t⟩
theorem EO.at (I:EO K x C TE)(Z:ZZ P w K mg base):zp7 K mg TE x C:=⟨Z.mg I.e.n,I.e.c,I.i⟩
theorem DI.kn (I:DI K x st)(Z:ZZ P w K mg base)(G:∀{f fd},Def K mg x st ps f fd->u7 P w K mg base CX0 k f fd ps sp)
  (h:BA x x st ps:=by trivial):p6 P w K mg base k x ps sp:=by
 obtain⟨f,fd,F,a⟩:=I;exact Def.known ⟨F,F.binds h,Z.mg a⟩ (G ⟨F,F.binds h,Z.mg a⟩)
theorem DI.kx {R:Prop}(I:DI K x st)(Z:ZZ P w K mg base)(G:∀{f fd},Def K mg x st ps f fd->R)
  (h:BA x x st ps:=by trivial):R:=by
 obtain⟨f,fd,F,a⟩:=I;exact G ⟨F,F.binds h,Z.mg a⟩
theorem MI.kn (I:MI K c m q st)(Z:ZZ P w K mg base)(G:∀{f fd},Fun K m q st f fd->u7 P w K mg base CX0 k f fd ps sp)
  (h:BA m q st ps:=by trivial):b9 P w K mg base k c m ps sp:=by
 obtain⟨f,fd,F,a,i⟩:=I;exact⟨f,fd,G F,⟨a,i,F.kp⟩,F.binds h⟩
theorem MI.kx (I:MI K c m q st)(Z:ZZ P w K mg base)(G:∀{f fd},Fun K m q st f fd->u7 P w K mg base (CX1 P w) k f fd ps sp)
  (h:BA m q st ps:=by trivial):xf6 P w K mg base k c m ps sp:=by
 obtain⟨f,fd,F,a,i⟩:=I;exact⟨f,fd,G F,⟨a,i,F.kp⟩,F.binds h⟩
theorem MI.mak (I:MI K c "__init__" q st)(Z:ZZ P w K mg base)(N:CI K c x fs)(G:∀{f fd},Fun K "__init__" q st f fd->u7 P w K mg base CX0 k f fd ps sp)
  (h:BA "__init__" q st ps:=by trivial):zw0 P w K mg base k c x ps sp:=by
 obtain⟨f,fd,F,a,i⟩:=I;exact⟨f,fd,G F,⟨N.ma,a,i,N.kp⟩,Z.mg N.n,F.binds h⟩
end
def MF (K:W.Frag)(f:Addr)(oc:Value)(od:Option Addr)(sl:Array (Option Value))(kV dc pm:Value)(an:Option Addr)(cd ct:Value)(m q:Str)(st:Stmt):Prop:=K.lookup f=some ⟨oc,od,.func (W.fnOf m q (Q5 st) (V4 st) (y6 st) .none kV dc pm an cd ct),sl⟩
theorem all_mk {l:W.OpenLaw}{w:gp}{K:W.Frag}{h:Heap}{mg:Str->Option Value}{fa fL:Addr}(X:K.In h)(G:h.Ns mainGlobals mg)(ah:mg "law"=some (.ref fa))
  (a0:DI K "is_whole" zd8) (a1:DI K "is_turning" E3) (a2:DI K "is_place" zd7) (a3:DI K "is_turning_of" R9) (a4:DI K "still" yf6) (a5:DI K "behind" zt4) (a6:DI K "back" ys8) (a7:DI K "turned" zt6) (a8:DI K "need_row" zd9) (a9:DI K "need_place" E5) (a10:DI K "row_of_places" Q0) (a11:DI K "is_line" zj9) (a12:DI K "is_recipe" B7) (a13:DI K "line_made" B8) (a14:DI K "worked" zt7) (a15:DI K "lines_named" L0) (a16:DI K "needed" zt5) (a17:DI K "line_renamed" O6) (a18:DI K "trimmed" zk0) (a19:DI K "need_group" E4) (a20:DI K "one_behind_another" X0) (a21:DI K "_law_cell" B6) (a22:DI K "_law_order" F7) (a23:DI K "_law_maker" F6) (a24:DI K "each_first" F9) (a25:DI K "fixing" zg7) (a26:DI K "_law_all" zd5) (a27:DI K "_law_places" M9) (a28:DI K "_law_bad" zd6) (a29:DI K "_law_refused" O5) (a30:DI K "_law_good" N9)
  {od an:Option Addr} {sl:Array (Option Value)} {oc kV dc pm cd ct:Value} (aL:W.nsIn K mainGlobals "law"=some (some (.ref fL))) (lL:MF K fL oc od sl kV dc pm an cd ct "law" "law" zm4) (cL:W.codeIn K cd "law"=true) (kL:W.keepIn K (.ref fL)=true)
  {co cp cq cr cs:Tok} (gc0:W.nsIn K mainGlobals "MOST_PLACES"=some (some (.int 60 co))) (gc1:W.nsIn K mainGlobals "MOST_MAKERS"=some (some (.int 200 cp))) (gc2:W.nsIn K mainGlobals "STILL_LINE"=some (some (.int 0 cq))) (gc3:W.nsIn K mainGlobals "MOST_LISTED"=some (some (.int 1000 cr))) (gc4:W.nsIn K mainGlobals "MOST_IN_ROW"=some (some (.int 60 cs)))
  {r:Addr} {A:Array DictEntry} {nN:Nat} {tA tB tC tD:Tok} (gN:W.nsIn K mainGlobals "NUMBERS_OF"=some (some (.ref r))) (lN:K.lookup r=some ⟨.type "dict",none,.dict A nN,#[]⟩) (kN:W.KeysLit w.params A.toList) (oN:(r==sysModules)=false) (vA:W.nsIn K r "still"=some (some (.int 0 tA))) (vB:W.nsIn K r "told"=some (some (.int 1 tB))) (vC:W.nsIn K r "behind"=some (some (.int 2 tC))) (vD:W.nsIn K r "back"=some (some (.int 1 tD))) {e:Addr} (nBook:CI K e "Book" zb5) {g:Addr} (nStep:CI K g "Step" M0) {b:Addr} (nChain:CI K b "Chain" Z1) {d:Addr} (nGroup:CI K d "Group" X8) (iBookinit:MI K e "__init__" "Book.__init__" R6) (iBookput:MI K e "put" "Book.put" zd4) (iBookput_behind:MI K e "put_behind" "Book.put_behind" V9) (iBookput_back:MI K e "put_back" "Book.put_back" W3) (iStepinit:MI K g "__init__" "Step.__init__" R8) (iStepput_mover:MI K g "put_mover" "Step.put_mover" T4) (iStepput_place:MI K g "put_place" "Step.put_place" X5) (iStepnext_pair:MI K g "next_pair" "Step.next_pair" T3) (iChaininit:MI K b "__init__" "Chain.__init__" T1) (iChainsifted:MI K b "sifted" "Chain.sifted" U1) (iChainholds:MI K b "holds" "Chain.holds" M8) (iChainfound_mover:MI K b "found_mover" "Chain.found_mover" Z0) (iChainsettle:MI K b "settle" "Chain.settle" O1) (iChaintake:MI K b "take" "Chain.take" G8) (iChainsize:MI K b "size" "Chain.size" G0) (iGroupinit:MI K d "__init__" "Group.__init__" T2) (iGrouptold:MI K d "told" "Group.told" F0) (iGroupsize:MI K d "size" "Group.size" G9) (iGrouphas:MI K d "has" "Group.has" R1) (iChainturning_to:MI K b "turning_to" "Chain.turning_to" Y0) (iChainbase_steps:MI K b "base_steps" "Chain.base_steps" W9) (iGroupneed_in:MI K d "need_in" "Group.need_in" R7) (iGroupnth:MI K d "nth" "Group.nth" B5) (iChainmovers_at:MI K b "movers_at" "Chain.movers_at" U0) (iGrouplean_makers:MI K d "lean_makers" "Group.lean_makers" X9) (iGrouprecipe:MI K d "recipe" "Group.recipe" O3) (iGrouplisted:MI K d "listed" "Group.listed" O2) {i:Addr} (nLists:CI K i "Lists" ["many"]) (iListsinit:MI K i "__init__" "Act.__init__" O0) (iListslooked:MI K i "looked" "Lists.looked" O4) {p:Addr} (xe0:EI K "TurnError" p bmV) {j:Addr} (xe1:EO K "NoThing" j p) {aa:Addr} (xe2:EO K "NoTurning" aa p) {ab:Addr} (xe3:EO K "NotIn" ab p) {ac:Addr} (xe4:EO K "TooMany" ac p) (xv:W.nsIn K mainGlobals "ValueError"=some none) (kSf:kSq K=true) (xa0:W.findIn K (.ref j) "__getattribute__"=some (some (.builtin "BaseException.__getattribute__"))) (xa1:W.findIn K (.ref j) "__getattr__"=some none) (xa2:W.findIn K (.ref j) "__class__"=some (some (.builtin "object.__class__"))) (xa3:W.mroIn K j (.type "BaseException")=some true) (xa4:W.mroIn K j (.type "object")=some true) (xa5:W.specialIn K (.builtin "object.__class__") "__get__"=some (some (.builtin "getset_descriptor.__get__"))) (xa6:W.takesIn K (.builtin "object.__class__")=some true) (xk2:W.kitOne K (.ref j) (.ref aa)=some false) (xk3:W.kitOne K (.ref j) (.ref ab)=some false)
  (zz:(["len","range","list","tuple","isinstance","int","bool","str","enumerate","sorted","sum","all","set","reversed","divmod","max","min"]:List Str).all (λx=>match W.nsIn K mainGlobals x with|some none=>true|_=>false)=true) :
  ∃fd:gz,(∀(s:fZ) (v:Value),BindsTo s fd ⟨[v],[]⟩ [("_law_script",v)])/\∀base:Heap,K.In base->base.Ns mainGlobals mg->u7 l.prog w K mg base CX0 11 fa fd ["_law_script"] (yy4 K):=by
 cases ah.symm.trans (W.mg_of X G aL)
 have bi:∀x∈(["len","range","list","tuple","isinstance","int","bool","str","enumerate","sorted","sum","all","set","reversed","divmod","max","min"]:List Str),mg x=none:=λx hx=>W.mg_none_of X G (by have h:=bI.mp zz x hx;split at h <;> first|assumption|cases h)
 have B:Blt mg:=by constructor <;> exact bi _ (by simp)
 have L:za6 mg "MOST_PLACES" (.int 60):=⟨_,W.mg_of X G gc0,⟨_,rfl⟩⟩
 have bf:za6 mg "MOST_MAKERS" (.int 200):=⟨_,W.mg_of X G gc1,⟨_,rfl⟩⟩
 have j6:za6 mg "STILL_LINE" (.int 0):=⟨_,W.mg_of X G gc2,⟨_,rfl⟩⟩
 have be:za6 mg "MOST_LISTED" (.int 1000):=⟨_,W.mg_of X G gc3,⟨_,rfl⟩⟩
 have bd:za6 mg "MOST_IN_ROW" (.int 60):=⟨_,W.mg_of X G gc4,⟨_,rfl⟩⟩
 refine⟨W.fnOf "law" "law" (Q5 zm4) (V4 zm4) (y6 zm4) .none kV dc pm an cd ct,λs v=>.of_eq rfl,λbase _ _=>?_⟩
 have Z:ZZ l.prog w K mg base:=⟨λa=>W.mg_of X G a⟩
 have bl:xu9 K w mg r:=⟨⟨_,W.mg_of X G gN,rfl⟩,⟨⟨_,_,lN,kN⟩,oN⟩,λl=>match l with | .still=>⟨_,vA⟩ | .told _=>⟨_,vB⟩ | .behind _ _=>⟨_,vC⟩ | .back _=>⟨_,vD⟩⟩
 have am:xf2 K mg p:=⟨Z.mg xe0.n,xe0.c,W.mg_none_of X G xv⟩
 have j9:=xe1.at Z
 have aj:=xe2.at Z
 have ak:=xe3.at Z
 have al:=xe4.at Z
 have ca:=we0 kSf
 have ai:yb4 K j:=⟨xa0,xa1,xa2,xa3,xa4,xa5,xa6⟩
 have bz:=xk2
 have b':=xk3
 have q:=nBook.f
 have o:=nStep.f
 have k:=nChain.f
 have m:=nGroup.f
 have z:=nLists.f
 have Y:=a0.kn Z λD=>yk4 D B
 have bx:=a1.kn Z λD=>zx4 D B Y L
 have bv:=a2.kn Z λD=>yk3 D B Y
 have T:=a3.kn Z λD=>zj2 D B bx
 have j8:=a4.kn Z λD=>xk7 D B
 have V:=a5.kn Z λD=>xc3 D B
 have j7:=a6.kn Z λD=>xs5 D B
 have cl:=a7.kn Z λD=>xc6 D B
 have cg:=a8.kx (R:=P4 l.prog w K mg base 1 "need_row" ["thing","most"] (ze2 j)) Z λD=>yk5 D B j9 ca
 have cf:=a9.kx Z λD=>zx6 D B bv j9
 have cj:=a10.kx Z λD=>zj3 D B cg cf
 have bu:=a11.kn Z λD=>yr6 D B Y bl
 have bw:=a12.kn Z λD=>ye1 D B bu
 have cb:=a13.kn Z λD=>ye2 D B j8 j7 V
 have cm:=a14.kn Z λD=>xc7 D B bw cb
 have U:=a15.kn Z λD=>zs4 D B
 have ch:=a16.kn Z λD=>xc5 D B U
 have cc:=a17.kn Z λD=>zn8 D B U
 have ck:=a18.kn Z λD=>yr7 D B ch cc
 have ce:=a19.kn Z λD=>zx5 D B Y T L bf
 have bj:=iBookinit.mak Z nBook λF=>yd5 F B q j8 j6
 have t:=iBookput.kn Z λF=>yj9 F B q
 have ar:=iBookput_behind.kn Z λF=>zc8 F B q t V j6
 have aq:=iBookput_back.kn Z λF=>zj0 F B q t j7
 have bk:=iStepinit.mak Z nStep λF=>yd8 F B o j8 j6
 have M:=iStepput_mover.kn Z λF=>zg1 F B o
 have bh:=iStepput_place.kn Z λF=>zg2 F B o j7
 have bg:=iStepnext_pair.kn Z λF=>zg0 F B o
 have N:=iChaininit.mak Z nChain λF=>zw5 F B k bj bk
 have H:=iChainsifted.kn (sp:=yg2 b e g) Z λF=>zn3 F B k o V
 have u:=iChainholds.kn Z λF=>zs0 F B k H
 have au:=iChainfound_mover.kn Z λF=>B0 F B k q o V bh ar aq M u
 have av:=iChainsettle.kn Z λF=>zn2 F B k o bg au
 have I:=iChaintake.kn Z λF=>zw7 F B k q o t M u av
 have aw:=iChainsize.kn (sp:=yt5 b e g) Z λF=>zw6 F B k o
 have O:=iGroupinit.mak Z nGroup λF=>zw8 F B m k ce N I
 have J:=iGrouptold.kn (sp:=yg3 d b e g) Z λF=>zx0 F B m
 have y:=iGroupsize.kn Z λF=>zw9 F B m k aw
 have ay:=iGrouphas.kn Z λF=>yd6 F B m k T u
 have ax:=iChainturning_to.kn (sp:=zv4 b e g) Z λF=>zb0 F B k q o
 have as:=iChainbase_steps.kn (sp:=yt3 b e g) Z λF=>za9 F B k o
 have a':=iGroupneed_in.kn Z λF=>zj1 F B m ay
 have ba:=iGroupnth.kn Z λF=>yd7 F B m k o y Y j8 as ax V
 have E:=iChainmovers_at.kn Z λF=>zc9 F B k q o
 have az:=iGrouplean_makers.kn Z λF=>B1 F B m k E
 have bc:=yj0 (iGrouplisted.kx (sp:=O9 ac d b e g) Z λF=>zn4 F B m y ba be al)
 have ci:=a20.kn Z λD=>D6 D B
 have bb:=iGrouprecipe.kn Z λF=>zn5 F B m k q a' H ci ck j6
 have P:=iListsinit.mak Z nLists λF=>yj8 F
 have C:=λn=>iListslooked.kx (sp:=xu2 (AHL i n) (LKL n) j) Z λF=>zn6 F z cj bd
 have ap:=λn=>yj2 (C n)
 have bo:=a21.kn Z λD=>yd9 D B
 have Q:=a22.kn Z λD=>zx2 D B
 have bq:=a23.kn Z λD=>zx1 D B Q
 have S:=a24.kn Z λD=>zx3 D B
 have bt:=a25.kn Z λD=>xc4 D B m k z P ap S O N I E az cl j7
 have ao:=a25.kx Z λD=>yk2 (cC:=b) (cB:=e) (cS:=g) D B m z P C S
 have bm:=a26.kn Z λD=>yk0 D B
 have br:=a27.kn Z λD=>zs3 D B
 have bn:=a28.kn Z λD=>yk1 D B
 have bs:=a29.kn Z λD=>zn7 D B ao am j9 aj ak ai bz b'
 have bp:=a30.kn Z λD=>ye0 D B m bt bc y bb J cm
 exact xz2 ⟨yc6 (st:=zm4) lL cL kL,(yc6 (st:=zm4) lL cL kL).binds (ps:=["_law_script"]) λ_ _ _ _ _ _ us hl=>match us,hl with|[_],_=>rfl,W.mg_of X G aL⟩ B m O J bo Q bq bm br bn bp bs
end Tb
open PySem PySem.W PyProof.Rows
set_option maxRecDepth 100000 in
set_option maxHeartbeats 0 in
theorem PySem.Challenge.cw_turnbase_k53_fixing_holds : PySem.Challenge.rw_turnbase_k53_fixing.Holds := by
 refine Tb.early.2 Tb.early2 Tb.early3 Tb.early4 Tb.early5 ?_;refine Tb.walk (l := PySem.Challenge.rw_turnbase_k53_fixing) (k := 11) (x := "_law_script") rfl rfl ⟨rfl, by decide, by decide⟩ (fun w h Y => PySem.W.kIn_of Y) ?F
 case F =>
  intro w mg fa h KX G hmg;refine' Tb.all_mk KX G hmg ?a0 ?a1 ?a2 ?a3 ?a4 ?a5 ?a6 ?a7 ?a8 ?a9 ?a10 ?a11 ?a12 ?a13 ?a14 ?a15 ?a16 ?a17 ?a18 ?a19 ?a20 ?a21 ?a22 ?a23 ?a24 ?a25 ?a26 ?a27 ?a28 ?a29 ?a30 ?aL ?lL ?cL ?kL ?gc0 ?gc1 ?gc2 ?gc3 ?gc4 ?gN ?lN ?kN ?oN ?vA ?vB ?vC ?vD ?nBook ?nStep ?nChain ?nGroup ?iBookinit ?iBookput ?iBookput_behind ?iBookput_back ?iStepinit ?iStepput_mover ?iStepput_place ?iStepnext_pair ?iChaininit ?iChainsifted ?iChainholds ?iChainfound_mover ?iChainsettle ?iChaintake ?iChainsize ?iGroupinit ?iGrouptold ?iGroupsize ?iGrouphas ?iChainturning_to ?iChainbase_steps ?iGroupneed_in ?iGroupnth ?iChainmovers_at ?iGrouplean_makers ?iGrouprecipe ?iGrouplisted ?nLists ?iListsinit ?iListslooked ?xe0 ?xe1 ?xe2 ?xe3 ?xe4 ?xv ?kSf ?xa0 ?xa1 ?xa2 ?xa3 ?xa4 ?xa5 ?xa6 ?xk2 ?xk3 ?zz;(case a0 | a1 | a2 | a3 | a4 | a5 | a6 | a7 | a8 | a9 | a10 | a11 | a12 | a13 | a14 | a15 | a16 | a17 | a18 | a19 | a20 | a21 | a22 | a23 | a24 | a25 | a26 | a27 | a28 | a29 | a30 => refine' Tb.DI.of ?x1 ?x2 ?x3 ?x4; (case x1 | x2 | x3 | x4 => first | k_is | kernel_rfl | (unfold Tb.MF; k_is)));(case nBook | nStep | nChain | nGroup | nLists => refine' Tb.CI.of ?x1 ?x2 ?x3 ?x4 ?x5 ?x6 ?x7 ?x8; (case x1 | x2 | x3 | x4 | x5 | x6 | x7 | x8 => first | k_is | kernel_rfl | (unfold Tb.MF; k_is)));(case iBookinit | iBookput | iBookput_behind | iBookput_back | iStepinit | iStepput_mover | iStepput_place | iStepnext_pair | iChaininit | iChainsifted | iChainholds | iChainfound_mover | iChainsettle | iChaintake | iChainsize | iGroupinit | iGrouptold | iGroupsize | iGrouphas | iChainturning_to | iChainbase_steps | iGroupneed_in | iGroupnth | iChainmovers_at | iGrouplean_makers | iGrouprecipe | iGrouplisted | iListsinit | iListslooked => refine' Tb.MI.of ?x1 ?x2 ?x3 ?x4 ?x5; (case x1 | x2 | x3 | x4 | x5 => first | k_is | kernel_rfl | (unfold Tb.MF; k_is)));(case xe0 => refine' Tb.EI.of ?x1 ?x2 ?x3 ?x4 ?x5 ?x6; (case x1 | x2 | x3 | x4 | x5 | x6 => first | k_is | kernel_rfl | (unfold Tb.MF; k_is)));(case xe1 | xe2 | xe3 | xe4 => refine' ⟨Tb.EI.of ?x1 ?x2 ?x3 ?x4 ?x5 ?x6, ?x7⟩; (case x1 | x2 | x3 | x4 | x5 | x6 | x7 => first | k_is | kernel_rfl | (unfold Tb.MF; k_is)));(case aL | lL | cL | kL | gc0 | gc1 | gc2 | gc3 | gc4 | gN | lN | vA | vB | vC | vD | xv | kSf | xa0 | xa1 | xa2 | xa3 | xa4 | xa5 | xa6 | xk2 | xk3 | zz => first | k_is | kernel_rfl | (unfold Tb.MF; k_is));(case kN => k_keys);(case oN => decide)

