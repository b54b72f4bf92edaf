import PyProof.Rows.All
import Wide.All
import OpenK.AllK
import Wide.FinOn
import HandS.ForMost
import HandS.ForExc
import HandS.Defaults
import HandS.IsInst
import HandS.ExcInit
import HandS.OwnEq
import PySem.Challenge.RW_whatopened_k02_houses_made
import HandS.ExcValue
import HandS.ExcField
import HandS.MakeKw
import KE.KExcIs
import HandS.LawCells
import HandS.OwnIter
import PyProof.InstEq
import HandS.IterVal
import HandS.Walk
import KE.GoesMore
import KE.GoesEnum
import PyProof.Draws
import HandS.CallSlots
import HandS.Star
import HandS.TupAny
import HandS.WordsExc
import HandS.Style
import HandS.Codes
import KE.KStateDown
import Lean
import HandS.Head0
import HandS.Head1
import HandS.Head2
import HandS.HeadEnd
import HandS.HeadHook1
import HandS.HeadHook2
set_option Elab.async false
set_option linter.all false
set_option maxRecDepth 100000
set_option maxHeartbeats 0
namespace My
open PySem PySem.Spec PyProof.Rows L2
def top (i : Nat) : Stmt := PySem.Challenge.pw_whatopened_k02_houses_made.main.body.getD i (.Pass ⟨0, 0, 0, 0⟩)
abbrev FnP (K : PySem.W.Frag) (x : Str) (st : Stmt) (f : Addr) (fd : FuncData) : Prop := FunD K x x (defArgs st) (defBody st) (defScope st) [] [] f fd
abbrev sCell : Stmt := top 13
abbrev sPool : Stmt := top 14
abbrev sTake : Stmt := top 15
/-! ### the pool -/
/-- a pool stands at p, at most n draws of its second kind were made -/
def Pool (H : Hp) (p : Addr) (n : Int) : Prop := ∃ g m c : Int, H p = some (.lst [.int g, .int m, .int c]) ∧ 0 ≤ g ∧ 0 ≤ m ∧ m < 1000000007 ∧ 0 ≤ c ∧ c ≤ n
def spCell1 (K : PySem.W.Frag) : Sp := fun vs H Q _ => ∃ (l : Addr) (ns : List Int) (j : Nat), vs = [.ref l, .int (j : Int)] ∧ SqL K H l (ns.map V.int) ∧ ∀ i : Int, Q (.int i) H
def spPool : Sp := fun vs H Q _ => ∃ g : Int, vs = [.int g] ∧ ∀ p H', H p = none → (∃ a b : Int, 0 ≤ a ∧ 0 ≤ b ∧ b < 1000000007 ∧ H' = upd H p (.lst [.int a, .int b, .int 0])) → Q (.ref p) H'
def spTake : Sp := fun vs H Q _ => ∃ (p : Addr) (many n : Int), vs = [.ref p, .int many] ∧ 0 < many ∧ many < 1073741824 ∧ Pool H p n ∧ n < 1099511627776 ∧
  ∀ (r : Int) (o : HO), 0 ≤ r → r < many → Pool (upd H p o) p (n + 1) → Q (.int r) (upd H p o)
theorem scCell : FnScope ["_law_script", "_law_k"] ["_law_script", "_law_k"] (defScope sCell) := ⟨rfl, rfl, rfl, by decide +kernel, rfl, by decide +kernel, by decide +kernel⟩
theorem scPool : FnScope ["_law_grain", "_law_folded"] ["_law_grain"] (defScope sPool) := ⟨rfl, rfl, rfl, by decide +kernel, rfl, by decide +kernel, by decide +kernel⟩
theorem scTake : FnScope ["_law_pool_here", "_law_many", "_law_draw", "_law_mixed"] ["_law_pool_here", "_law_many"] (defScope sTake) := ⟨rfl, rfl, rfl, by decide +kernel, rfl, by decide +kernel, by decide +kernel⟩
section
variable {P : Program} {w : World} {K : PySem.W.Frag} {mg : Str → Option Value} {base : Heap} {f : Addr} {fd : FuncData}
theorem ok_cell (F : FnP K "_law_cell" sCell f fd) (gL : mg "len" = none) : FnOk P w K mg base CX0 1 f fd ["_law_script", "_law_k"] (spCell1 K) := by
  refine F.ok scCell (fun vs H Q E h => ?_) (fun cdv A outer s H vs Q E hr h => ⟨_, PSs.nox (pss_cons (ps_if (pt_cmpR op_lt (pv 1) (pe_callB call_len (by rfl) gL boot_len (pa_cons (pv 0) pa_nil)) (nomark _)) (pss_one (ps_ret (pe_ix ix_list (pv 0) (pv 1) (fun _ _ => rfl)))) pss_nil) (pss_one (ps_ret pe_int))), ?_⟩)
  · obtain ⟨l, ns, j, rfl, _⟩ := h
    rfl
  · obtain ⟨l, ns, j, rfl, hS, q⟩ := h
    refine ⟨_, rfl, _, rfl, _, _, rfl, .inl ⟨_, hS, rfl⟩, _, _, rfl, rfl, _, rfl, ?_⟩
    refine ite2 (fun hj => ?_) (fun _ => ?_)
    · have hj' : j < ns.length := by
        have z := of_decide_eq_true hj
        rw [List.length_map] at z
        omega
      refine ⟨_, rfl, _, rfl, l, _, _, _, rfl, rfl, hS, atI_nat (by rw [List.getElem?_map, List.getElem?_eq_getElem hj'] <;> rfl), q _⟩
    · exact q 0
theorem ok_pool (F : FnP K "_law_pool" sPool f fd) (gI : mg "int" = none) : FnOk P w K mg base CX0 1 f fd ["_law_grain"] spPool := by
  refine F.ok scPool (fun vs H Q E h => ?_) (fun cdv A outer s H vs Q E hr h => ⟨_, PSs.nox (
    pss_cons (ps_set (i := 1) scPool.nd rfl (.inl rfl) (pe_op op_mul pe_int (pv 0)))
    (pss_cons (ps_if (pt_cmpR op_lt (pv 0) pe_int (nomark _)) (pss_one (ps_set (i := 1) scPool.nd rfl (.inl rfl) (pe_op op_sub (pe_op op_sub pe_int (pe_op op_mul pe_int (pv 0))) pe_int))) pss_nil)
    (pss_cons (ps_if (pt_cmpR op_ge (pv 1) (pe_op op_pow pe_int pe_int) (nomark _)) (pss_one (ps_ret (pe_lst (pa_cons (pv 1) (pa_cons (pe_op op_mod (pe_callTy call_int1 (by rfl) gI (by decide +kernel) (pa_cons (pv 1) pa_nil)) pe_int) (pa_cons pe_int pa_nil)))))) pss_nil)
    (pss_one (ps_ret (pe_lst (pa_cons pe_int (pa_cons (pe_op op_mod (pe_callTy call_int1 (by rfl) gI (by decide +kernel) (pa_cons (pv 1) pa_nil)) pe_int) (pa_cons pe_int pa_nil))))))))), ?_⟩)
  · obtain ⟨g, rfl, _⟩ := h
    rfl
  · obtain ⟨g, rfl, q⟩ := h
    refine ⟨_, rfl, _, _, rfl, rfl, .inl ⟨by decide, by decide⟩, _, rfl, _, _, rfl, rfl, _, rfl, ?_⟩
    have m1 : ∀ z : Int, 0 ≤ z % 1000000007 := fun z => Int.emod_nonneg z (by decide)
    have m2 : ∀ z : Int, z % 1000000007 < 1000000007 := fun z => Int.emod_lt_of_pos z (by decide)
    have lst3 : ∀ a b c : V, ([a, b, c] : List V).length ≤ sizeLine := fun a b c => by show 3 ≤ sizeLine; decide
    refine ite2 (fun hn => ?_) (fun hn => ?_)
    · have hn' := of_decide_eq_true hn
      refine ⟨_, rfl, _, _, rfl, rfl, .inl ⟨by decide, by decide⟩, _, _, rfl, rfl, _, _, rfl, rfl, ?_⟩
      refine ⟨_, rfl, _, _, rfl, rfl, ⟨by decide, by decide, by decide⟩, _, _, rfl, rfl, _, rfl, ?_⟩
      refine ite2 (fun _ => ?_) (fun _ => ?_)
      · refine ⟨_, rfl, _, rfl, .inl ⟨_, rfl, _, _, rfl, rfl, (show (0 : Int) < 1000000007 by decide), lst3 _ _ _, fun p hp => q p _ hp ⟨_, _, ?_, m1 _, m2 _, rfl⟩⟩⟩
        omega
      · refine ⟨_, rfl, .inl ⟨_, rfl, _, _, rfl, rfl, (show (0 : Int) < 1000000007 by decide), lst3 _ _ _, fun p hp => q p _ hp ⟨_, _, by decide, m1 _, m2 _, rfl⟩⟩⟩
    · have hn' : ¬ g < 0 := fun z => hn (decide_eq_true z)
      refine ⟨_, rfl, _, _, rfl, rfl, ⟨by decide, by decide, by decide⟩, _, _, rfl, rfl, _, rfl, ?_⟩
      refine ite2 (fun _ => ?_) (fun _ => ?_)
      · refine ⟨_, rfl, _, rfl, .inl ⟨_, rfl, _, _, rfl, rfl, (show (0 : Int) < 1000000007 by decide), lst3 _ _ _, fun p hp => q p _ hp ⟨_, _, ?_, m1 _, m2 _, rfl⟩⟩⟩
        omega
      · refine ⟨_, rfl, .inl ⟨_, rfl, _, _, rfl, rfl, (show (0 : Int) < 1000000007 by decide), lst3 _ _ _, fun p hp => q p _ hp ⟨_, _, by decide, m1 _, m2 _, rfl⟩⟩⟩
theorem ok_take (F : FnP K "_law_take" sTake f fd) (gI : mg "int" = none) : FnOk P w K mg base CX0 1 f fd ["_law_pool_here", "_law_many"] spTake := by
  refine F.ok scTake (fun vs H Q E h => ?_) (fun cdv A outer s H vs Q E hr h => ⟨_, PSs.nox (
    pss_cons (ps_if (pt_cmpR op_gt (pe_ix ix_list (pv 0) pe_int (fun _ _ => rfl)) pe_int (nomark _))
      (pss_cons (ps_set (i := 2) scTake.nd rfl (.inl rfl) (pe_op op_mod (pe_callTy call_int1 (by rfl) gI (by decide +kernel) (pa_cons (pe_ix ix_list (pv 0) pe_int (fun _ _ => rfl)) pa_nil)) (pv 1)))
      (pss_cons (ps_asg (pe_op op_fdiv (pe_ix ix_list (pv 0) pe_int (fun _ _ => rfl)) (pv 1)) (pg_sub (pv 0) pe_int set_list))
      (pss_one (ps_ret (pv 2))))) pss_nil)
    (pss_cons (ps_asg (pe_op op_add (pe_ix ix_list (pv 0) pe_int (fun _ _ => rfl)) pe_int) (pg_sub (pv 0) pe_int set_list))
    (pss_cons (ps_set (i := 3) scTake.nd rfl (.inl rfl) (pe_op op_mod (pe_callTy call_int1 (by rfl) gI (by decide +kernel) (pa_cons (pe_op op_pow (pe_op op_add (pe_op op_add (pe_ix ix_list (pv 0) pe_int (fun _ _ => rfl)) (pe_op op_mul pe_int (pe_ix ix_list (pv 0) pe_int (fun _ _ => rfl)))) pe_int) pe_int) pa_nil)) pe_int))
    (pss_one (ps_ret (pe_op op_mod (pe_op op_mod (pe_callTy call_int1 (by rfl) gI (by decide +kernel) (pa_cons (pe_op op_mul (pe_op op_add (pv 3) (pe_ix ix_list (pv 0) pe_int (fun _ _ => rfl))) pe_int) pa_nil)) pe_int) (pv 1))))))), ?_⟩)
  · obtain ⟨p, many, n, rfl, _⟩ := h
    rfl
  · obtain ⟨p, many, n, rfl, hm0, hm1, ⟨g, m, c, hp, hg, hm, hm', hc, hcn⟩, hn, q⟩ := h
    have SL : ∀ {H : Hp} {xs : List V}, H p = some (.lst xs) → SqL K H p xs := fun h => SqL.of h
    refine ⟨_, rfl, p, _, 0, .int g, rfl, rfl, SL hp, rfl, _, _, rfl, rfl, _, rfl, ?_⟩
    refine ite2 (fun hg0 => ?_) (fun _ => ?_)
    · refine ⟨_, rfl, p, _, 0, .int g, rfl, rfl, SL hp, rfl, .inl ⟨_, rfl, _, rfl, _, _, rfl, rfl, hm0, ?_⟩⟩
      refine ⟨_, rfl, p, _, 0, .int g, rfl, rfl, SL hp, rfl, _, rfl, _, _, rfl, rfl, ⟨hm0, hm1⟩, _, rfl, p, _, 0, 0, rfl, rfl, hp, rfl, ?_⟩
      refine ⟨_, rfl, q _ _ (Int.emod_nonneg _ (by omega)) (Int.emod_lt_of_pos _ hm0) ⟨g / many, m, c, upd_same, Int.ediv_nonneg hg (by omega), hm, hm', hc, by omega⟩⟩
    · refine ⟨_, rfl, p, _, 2, .int c, rfl, rfl, SL hp, rfl, _, _, rfl, rfl, _, rfl, p, _, 2, 2, rfl, rfl, hp, rfl, ?_⟩
      have h2 : upd H p (.lst (List.set [V.int g, V.int m, V.int c] 2 (V.int (c + 1)))) p = some (.lst [.int g, .int m, .int (c + 1)]) := upd_same
      refine ⟨_, rfl, p, _, 1, .int m, rfl, rfl, SL h2, rfl, _, rfl, p, _, 2, .int (c + 1), rfl, rfl, SL h2, rfl, _, _, rfl, rfl, .inl ⟨by decide, by decide⟩, _, _, rfl, rfl, _, _, rfl, rfl, _, _, rfl, rfl, ⟨by decide, by decide, ?_⟩, .inl ⟨_, rfl, _, _, rfl, rfl, (show (0 : Int) < 2147483647 by decide), ?_⟩⟩
      · omega
      refine ⟨_, rfl, _, rfl, p, _, 2, .int (c + 1), rfl, rfl, SL h2, rfl, _, _, rfl, rfl, _, _, rfl, rfl, .inr ⟨by decide, by decide⟩, .inl ⟨_, rfl, _, _, rfl, rfl, (show (0 : Int) < 2147483629 by decide), _, rfl, _, _, rfl, rfl, hm0, ?_⟩⟩
      exact q _ _ (Int.emod_nonneg _ (by omega)) (Int.emod_lt_of_pos _ hm0) ⟨g, m, c + 1, upd_same, hg, hm, hm', by omega, by omega⟩
end
end My

namespace PySem
namespace MyX
open PySem.HandSPX Builtin Builtin.ObjectAttr
section
variable {M : Model} {A : Around} {E : Value → Shared → Prop} {h : Heap} {g : Array GenState} {d : Drawn} {t : Nat} {os : OsState}
variable {nm q : Str} {C N : Addr} {bs bm mb : List Value} {hdct : Bool} {sn : List Str} {sub : List Value} {ab : Bool} {col : Option Bool} {dd : Option Addr} {k0 k1 k2 k3 k5 : Option Value} {B idN idI : String}
theorem chk_new (F : ExcBaseFacts B idN idI mb) (hT : ∀ X : String, bm.contains (.type X) = mb.contains (.type X)) {rs : List Value} {kw : List (Str × Value)} {Q : Unit → Shared → Prop}
    (hC : h.get? C = some (excClassObj nm q C N bs bm hdct sn sub ab col dd k0 k1 k2 k3 k5 idN)) (hq : Q () ⟨h, g, d, t, os⟩) :
    wpAny M A (checkBuiltinCall idN ⟨.ref C :: rs, kw⟩) Q E ⟨h, g, d, t, os⟩ := by
  have c1 : (Value.ref C :: bm).contains (.type B) = true := by
    rw [List.contains_cons, hT, F.hasB, Bool.or_true]
  have c2 := F.noStar
  simp only [checkBuiltinCall, F.newKind, F.newSplit, F.newRow]
  repeat (first | refine wpAny_loadPart_at hC ?_ | (refine wpAny_isSubtype_exc hC ?_; rw [c1]) | refine wpAny_staticBase_exc hC ?_ | refine wpAny_madeBy_exc hC ?_ | simp only [bne_self_eq_false, Bool.false_eq_true, if_false] | wp_step)
  exact hq
end
section
variable {prog : Program} {w : World} {A : Around} {E : Value → Shared → Prop} {R : Result → Shared → Prop} {h : Heap} {g : Array GenState} {d : Drawn} {t : Nat} {os : OsState}
variable {nm q : Str} {C N : Addr} {bs bm mb : List Value} {hdct : Bool} {sn : List Str} {sub : List Value} {ab : Bool} {col : Option Bool} {dd : Option Addr} {k0 k1 k2 k3 k5 : Option Value} {B idN idI : String}
theorem new_kw (F : ExcBaseFacts B idN idI mb) (hT : ∀ X : String, bm.contains (.type X) = mb.contains (.type X)) {rs : List Value} {kw : List (Str × Value)}
    (hC : h.get? C = some (excClassObj nm q C N bs bm hdct sn sub ab col dd k0 k1 k2 k3 k5 idN))
    (hq : R (.ok (.ret (.ref (h.objs.size + 1)))) ⟨(h.push (W.kdv_tup rs)).push (excO C h.objs.size), g, d, t, os⟩) (hrs : rs.length ≤ sizeLine) :
    codeAny (model prog w) A (.builtin idN ⟨.ref C :: rs, kw⟩) R ⟨h, g, d, t, os⟩ := by
  have c0 := F.ends
  have c1 : (Value.ref C :: bm).contains (.type B) = true := by
    rw [List.contains_cons, hT, F.hasB, Bool.or_true]
  have c2 : (Value.ref C :: bm).contains (.type "AttributeError") = false := by
    rw [List.contains_cons, hT, F.noAttr]; rfl
  have c3 : (Value.ref C :: bm).contains (.type "NameError") = false := by
    rw [List.contains_cons, hT, F.noName]; rfl
  refine codeAny_builtinAt F.entry ?_
  unfold Builtin.«BaseException.__new__»
  refine wpAt_bind ?_
  show wpAt _ _ _ (stack >>= _) _ _ _
  refine wpAt_bind (wpAt_stack fun p below => wpAt_of_wpAny ?_)
  wp_walk
  refine wpAt_of_wpAny ?_
  rw [F.owner]
  repeat (first | with_reducible refine wpAny_madeHere_exc F.canon hC ?_ | with_reducible refine wpAny_loadPart_at hC ?_ | (with_reducible refine wpAny_isSubtype_exc hC ?_; first | rw [c1] | rw [c2] | rw [c3]) | wp_step)
  show R _ _
  rw [Heap.size_push]
  exact hq
theorem tcall_kw (F : ExcBaseFacts B idN idI mb) (hT : ∀ X : String, bm.contains (.type X) = mb.contains (.type X)) {rs : List Value} {kw : List (Str × Value)} {fI : Addr} {Q : Fin → Shared → Prop}
    (hC : h.get? C = some (excClassObj nm q C N bs bm hdct sn sub ab col dd k0 k1 k2 k3 k5 idN))
    (hi : W.Looks (model prog w) h (typeLookup (.ref C) "__init__") (some (.ref fI))) (hb : ∀ self, W.Looks (model prog w) h (bindSpecial (.ref fI) self) (.ref fI, [self])) (hrs : rs.length ≤ sizeLine)
    (hq : codeAny (model prog w) A (.call (.ref fI) ⟨.ref (h.objs.size + 1) :: rs, kw⟩)
      (fun r s' => match r with | .ok (.ret v) => v = .none ∧ Q (.done (.ret (.ref (h.objs.size + 1)))) s' | .ok _ => False | .error e => E e s')
      ⟨(h.push (W.kdv_tup rs)).push (excO C h.objs.size), g, d, t, os⟩) :
    wpAny (model prog w) A (Builtin.«type.__call__» ⟨.ref C :: rs, kw⟩) Q E ⟨h, g, d, t, os⟩ := by
  repeat (first | with_reducible refine wpAny_loadPart_at hC ?_ | with_reducible refine wpAny_madeBy_exc hC ?_ | wp_step)
  refine codeAny_call_builtin_code (Code.quiet_builtin _ F.quiet) (chk_new F hT hC ?_)
  refine new_kw F hT hC ?_ hrs
  show wpAny _ _ _ _ _ _
  have k : ∀ b o, h.get? b = some o → ((h.push (W.kdv_tup rs)).push (excO C h.objs.size)).get? b = some o := fun b o e => Heap.get?_push_of_some _ (Heap.get?_push_of_some _ e)
  have hC1 := k _ _ hC
  have hget : ((h.push (W.kdv_tup rs)).push (excO C h.objs.size)).get? (h.objs.size + 1) = some (excO C h.objs.size) := by heap_get
  have hcC : (Value.ref C :: bm).contains (.ref C) = true := by simp
  have i1 := hi.keeps k
  have b1 := (hb (.ref (h.objs.size + 1))).keeps k
  unfold isInstance
  repeat (first | with_reducible refine wpAny_loadPart_at hget ?_ | (with_reducible refine wpAny_isSubtype_exc hC1 ?_; rw [hcC]) | wp_step)
  show wpAny _ _ (typeLookup (.ref C) _) _ _ _
  refine i1.at ?_
  refine wpAny_holding (wpAny_bind (b1.at ?_))
  refine wpAny_bind (wpAny_call (codeAny_mono hq fun r s' z => ?_))
  rcases r with e | (v | _ | _ | _) <;> first | exact z | exact z.elim | skip
  obtain ⟨rfl, z⟩ := z
  first
    | exact wpAny_pure (wpAny_pure z)
    | (wp_walk; exact z)
theorem call_kw (F : ExcBaseFacts B idN idI mb) (hT : ∀ X : String, bm.contains (.type X) = mb.contains (.type X)) {rs : List Value} {kw : List (Str × Value)} {fI : Addr}
    (hC : h.get? C = some (excClassObj nm q C N bs bm hdct sn sub ab col dd k0 k1 k2 k3 k5 idN))
    (hi : W.Looks (model prog w) h (typeLookup (.ref C) "__init__") (some (.ref fI))) (hb : ∀ self, W.Looks (model prog w) h (bindSpecial (.ref fI) self) (.ref fI, [self])) (hrs : rs.length ≤ sizeLine)
    (hq : codeAny (model prog w) (A.under (.builtin "type.__call__" ⟨.ref C :: rs, kw⟩)) (.call (.ref fI) ⟨.ref (h.objs.size + 1) :: rs, kw⟩) (W.InitBack (h.objs.size + 1) R)
      ⟨(h.push (W.kdv_tup rs)).push (excO C h.objs.size), g, d, t, os⟩) :
    codeAny (model prog w) A (.call (.ref C) ⟨rs, kw⟩) R ⟨h, g, d, t, os⟩ := by
  have f1 := tc_lookup
  have f2 := tc_bind (.ref C)
  have hTy : (⟨h, g, d, t, os⟩ : Shared).TypeIs (.ref C) "type" := ⟨_, hC, rfl⟩
  refine codeAny_of_tree ?_
  show wpAny _ _ (callAny (.ref C) _) _ _ _
  repeat (any_goals (first | assumption | with_reducible refine wpAny_loadPart_at hC ?_ | wp_step))
  refine ⟨rfl, ?_⟩
  refine codeAny_call_builtin_at (Code.quiet_builtin _ (by decide +kernel)) entry_typeCall (wpAny_check_type_call_sub hC (tcall_kw F hT hC hi hb hrs ?_))
  refine codeAny_mono hq fun r s' z => ?_
  rcases r with e | (v | _ | _ | _) <;> exact z
end
end MyX
end PySem

namespace My
open PySem PySem.Spec PyProof.Rows L2
/-! ### own exceptions as values -/
/-- what isinstance asks of the class of an exception -/
structure KitC (K : PySem.W.Frag) (C : Addr) : Prop where
  cl : (PySem.W.clsIn K C).isSome = true
  at_ : PySem.W.findIn K (.ref C) "__class__" = some (some (.builtin "object.__class__"))
  sp : PySem.W.specialIn K (.builtin "object.__class__") "__get__" = some (some (.builtin "getset_descriptor.__get__"))
  tk : PySem.W.takesIn K (.builtin "object.__class__") = some true
  ob : PySem.W.mroIn K C (.type "object") = some true
/-- an exception of the class at C stands at a: its one field f holds v -/
def ErrAt (H : Hp) (a C : Addr) (f : Str) (v : V) : Prop := ∃ d, H a = some (exo a C (some d)) ∧ H d = some (exd d [(f, v)])
theorem ErrAt.ext {H H' : Hp} {a C : Addr} {f : Str} {v : V} (e : ErrAt H a C f v) (x : Ext H H') : ErrAt H' a C f v := by
  obtain ⟨d, h1, h2⟩ := e
  exact ⟨d, x _ _ h1, x _ _ h2⟩
section
variable {X : Cx} {CX : CXT} {k : Nat} {C fI : Addr} {fd : FuncData} {ps : List Str} {sp : Sp}
theorem run_err {pins : List (Addr × Obj)} {σ : L2.St} {H : Hp} {s : Shared} {Q : VK} {us uz : List Value} {kw : List (Str × Value)} {vs : List V} (T : OexC X.K C) (iC : PySem.W.findIn X.K (.ref C) "__init__" = some (some (.ref fI)))
    (tI : PySem.W.typeIn X.K (.ref fI) = some (.type "function")) (Fn : FnOk X.prog X.w X.K X.mg X.base CX k fI fd ps sp) (hr : Room (k + 1) X.A) (hx : Passes CX X E0)
    (hb : ∀ (s : Shared) (a : Addr), X.K.In s.heap → BindsTo s fd ⟨.ref a :: us, kw⟩ (ps.zip (.ref a :: uz))) (hl : us.length ≤ 1000) (I : Inv X pins σ H s) (r : Vals vs uz)
    (h : ∀ a, H a = none → sp (.ref a :: vs) (upd H a (exo a C none)) (fun v H2 => v = .non ∧ Q (.ref a) H2) E0) :
    wpAny (model X.prog X.w) X.A (call (.ref C) us kw) (EP X pins σ Q) X.xe s := by
  obtain ⟨nm, q, N, bs, bm, sn, sub, ab, col, dd, k0, k1, k2, k3, k5, hC, hbm⟩ := T.cls
  obtain ⟨hp, g, dr, tk, os⟩ := s
  have hz : hp.objs.size ≤ hp.objs.size + 1 := Nat.le_succ _
  have hn : H (hp.objs.size + 1) = none := I.hok.fresh hz
  have hq := h (hp.objs.size + 1) hn
  have kk : ∀ b o, hp.get? b = some o → ((hp.push (PySem.W.kdv_tup us)).push (PySem.HandSPX.excO C hp.objs.size)).get? b = some o := fun b o e =>
    Heap.get?_push_of_some _ (Heap.get?_push_of_some _ e)
  have hg : ((hp.push (PySem.W.kdv_tup us)).push (PySem.HandSPX.excO C hp.objs.size)).get? (hp.objs.size + 1) = some (PySem.HandSPX.excO C hp.objs.size) := by
    heap_get
  have I2 : Inv X pins σ (upd H (hp.objs.size + 1) (exo (hp.objs.size + 1) C none)) ⟨(hp.push (PySem.W.kdv_tup us)).push (PySem.HandSPX.excO C hp.objs.size), g, dr, tk, os⟩ :=
    I.laid (t' := tk) (a := hp.objs.size + 1) (o := exo (hp.objs.size + 1) C none) (h' := (hp.push (PySem.W.kdv_tup us)).push (PySem.HandSPX.excO C hp.objs.size)) kk hz (exo_ok hg)
  have r2 : Vals (V.ref (hp.objs.size + 1) :: vs) (Value.ref (hp.objs.size + 1) :: uz) := .cons rfl r
  have hus : us.length ≤ sizeLine := by
    rw [sizeLine_eq]
    omega
  refine wpAny_call (PySem.MyX.call_kw PySem.F.excBase_ValueError (fun Y => PySem.HandSPX.refsVE_contains Y bm hbm) (I.kIn _ _ hC) (PySem.W.looks_findIn I.kIn iC) (fun self => PySem.W.bind_fn I.kIn self tI) hus
    (codeAny_mono (Fn.run _ X.stack _ _ ⟨Value.ref (hp.objs.size + 1) :: us, kw⟩ (Value.ref (hp.objs.size + 1) :: uz) _ _ E0 (hr.make C us kw) (I2.env0.make C us kw) (hb _ _ I2.kIn) r2 hq) fun r s' hq' => ?_))
  cases r with
  | error er => exact hx pins σ _ _ er s' I2 hq'
  | ok fl =>
    cases fl with
    | ret u =>
      obtain ⟨v, H', I3, rv, ev, q3⟩ := I2.after hq'
      subst ev
      exact ⟨rv, ⟨V.ref (hp.objs.size + 1), H', I3, rfl, q3⟩⟩
    | next => exact False.elim hq'
    | brk => exact False.elim hq'
    | cont => exact False.elim hq'
/-- C(e, ..) as a value -/
def tErr (C : Addr) (sp : Sp) (ta : TA) : TE := fun σ H Q => ta σ H fun vs H1 => vs.length ≤ 1000 ∧ ∀ a, H1 a = none → sp (.ref a :: vs) (upd H1 a (exo a C none)) (fun v H2 => v = .non ∧ Q (.ref a) H2) E0
theorem pe_err {x : Str} {e : Expr} {es : List Expr} {ta : TA} {p pos : Pos} (T : OexC X.K C) (iC : PySem.W.findIn X.K (.ref C) "__init__" = some (some (.ref fI)))
    (tI : PySem.W.typeIn X.K (.ref fI) = some (.type "function")) (Fn : FnOk X.prog X.w X.K X.mg X.base CX k fI fd ps sp) (hr : Room (k + 1) X.A) (hx : Passes CX X E0) (hb : Binds X.K fd ps [])
    (hg : Gl X x) (hm : X.mg x = some (.ref C)) (ha : PA X (e :: es) ta)
    (hdb : (x == ("__debug__" : Str)) = false := by decide) (he : starEach (e :: es) X.env = (false, eval e X.env) :: starEach es X.env := by rfl) (hpl : (backTo pos (starEach es X.env)).any (·.1) = false := by rfl) :
    PE X (.Call (.Name x p) (e :: es) [] pos) (tErr C sp ta) := by
  refine ⟨fun pins s σ H Q I h => ?_⟩
  refine wpAny_Call_Name_kw (ld_glob I hg hm ?_ hdb)
  refine PySem.W.callWith_K (h₀ := X.base) I.ok.mod.kin T.kC (thn (ha.run pos pins s σ H _ I h) fun us s1 ⟨vs, H1, I1, r1, hz, q1⟩ => ⟨I1.kIn, ?_⟩) he hpl
  have l0 : us.length ≤ 1000 := by
    rw [← Paired.length r1]
    exact hz
  have l1 : vs.length + 1 = ps.length := Fn.len _ _ _ _ (q1 (s1.heap.objs.size + 1) (I1.hok.fresh (Nat.le_succ _)))
  refine run_err T iC tI Fn hr hx (fun s a KX => ?_) l0 I1 r1 q1
  have z := hb s (Value.ref a :: us) KX (by rw [List.append_nil, List.length_cons, ← Paired.length r1]; exact l1)
  rw [List.append_nil] at z
  exact z
/-- C(f = e) as a value -/
theorem pe_errK {x kn : Str} {kws : List Keyword} {tk : TA} {p pos : Pos} (T : OexC X.K C) (iC : PySem.W.findIn X.K (.ref C) "__init__" = some (some (.ref fI)))
    (tI : PySem.W.typeIn X.K (.ref fI) = some (.type "function")) (Fn : FnOk X.prog X.w X.K X.mg X.base CX k fI fd ps sp) (hr : Room (k + 1) X.A) (hx : Passes CX X E0)
    (hb : ∀ (s : Shared) (u v : Value), X.K.In s.heap → BindsTo s fd ⟨[u], [(kn, v)]⟩ (ps.zip [u, v])) (hg : Gl X x) (hm : X.mg x = some (.ref C)) (hkw : PK X kws tk)
    (hall : (backToKw pos (keywordEach kws X.env)).all (·.1.isSome) = true := by rfl) (hks : (backToKw pos (keywordEach kws X.env)).filterMap (·.1) = [kn] := by rfl) (hdb : (x == ("__debug__" : Str)) = false := by decide)
    (hpl : ((backTo pos (starEach [] X.env)).any (·.1) || (backToKw pos (keywordEach kws X.env)).any (·.1.isNone)) = false := by rfl) :
    PE X (.Call (.Name x p) [] kws pos) (fun σ H Q => tk σ H fun vs H1 => ∃ v, vs = [v] ∧ tErr C sp (fun _ H Q => Q [v] H) σ H1 Q) := by
  refine ⟨fun pins s σ H Q I h => ?_⟩
  refine wpAny_Call_Name_kw (ld_glob I hg hm ?_ hdb)
  refine PySem.W.callWith_KW0 (h₀ := X.base) I.ok.mod.kin T.kC hall ?_ hpl
  refine thn (hkw.run pos pins s σ H _ I h) fun ws s2 ⟨zs, H2, I2, rz, v, ez, l2, q2⟩ => ⟨I2.kIn, ?_⟩
  rw [hks]
  subst ez
  cases rz with
  | cons rv rn =>
    cases rn
    exact run_err (us := []) T iC tI Fn hr hx (fun s a KX => hb s (.ref a) _ KX) (by decide) I2 (.cons rv .nil) q2
/-- e.f of such a value -/
def tErF (K : PySem.W.Frag) (f : Str) (te : TE) : TE := fun σ H Q => te σ H fun x H1 => ∃ a C v, x = .ref a ∧ ErrAt H1 a C f v ∧ XfC K C ∧ PySem.W.findIn K (.ref C) f = some none ∧ Q v H1
theorem pe_erF {e : Expr} {te : TE} {n : Str} {pos : Pos} (he : PE X e te) (hb : attributeBase e n X.env (eval e X.env) = eval e X.env := by rfl) : PE X (.Attribute e n pos) (tErF X.K n te) := by
  refine ⟨fun pins s σ H Q I h => ?_⟩
  refine attr_of hb (thn (he.run pins s σ H _ I h) fun u s1 hh => ?_)
  obtain ⟨x, H1, I1, rx, a, C, v, ex, ⟨d, ha, hd⟩, T, hno, q⟩ := hh
  subst ex
  obtain rfl : u = Value.ref a := rx
  obtain ⟨t1, ho⟩ := exo_at I1.hok ha
  obtain ⟨mA, hns, hr⟩ := exd_at I1.hok hd
  obtain ⟨od, hod, hl⟩ := lookIn_ns hns
  have l : List.lookup n [(n, v)] = some v := by
    simp [List.lookup]
  obtain ⟨u, hu, ru⟩ := RelO.some_of (v := v) (o := mA n) (by rw [← l]; exact hr n)
  have J : PySem.W.InstAt s1.heap a { cls := .ref C, dict := some d, data := .fields #[.ref t1, .none, .none, .none, .bool false, .none] } C (some od) := ⟨ho, rfl, rfl, hod⟩
  exact HandSPX.exc_get I1.kIn J T.ga T.gg T.exC (PySem.W.findObj_own T.hdC hno rfl (by rw [hl, hu])) (handed_of ru) ⟨v, H1, I1.tok _, ru, q⟩
/-- isinstance(e, D) of such a value, or of one without fields -/
def rIsX (K : PySem.W.Frag) : List V → Hp → VK → Prop := fun xs H Q => ∃ (a C : Addr) (c : V) (u : Value) (b : Bool), xs = [.ref a, c] ∧ ClsV c u ∧ ((∃ f v, ErrAt H a C f v) ∨ H a = some (ExO (.ref C) a)) ∧ XfC K C ∧ KitC K C ∧
  PySem.W.kitOne K (.ref C) u = some b ∧ Q (.bl b) H
theorem call_isX : CallR X (.builtin "isinstance") (rIsX X.K) := by
  intro pins s σ H xs us Q I r h
  obtain ⟨a, C, c, u, b, rfl, kc, ha, T, Z, e, q⟩ := h
  obtain ⟨u1, u2, rfl, r1, r2⟩ := vals2 r
  obtain rfl : u1 = Value.ref a := r1
  have e2 := kc.eq r2
  subst e2
  rcases ha with ⟨f, v, d, ha, hd⟩ | ha
  · obtain ⟨t1, ho⟩ := exo_at I.hok ha
    obtain ⟨mA, hns, hr⟩ := exd_at I.hok hd
    obtain ⟨od, hod, hl⟩ := lookIn_ns hns
    have J : PySem.W.InstAt s.heap a { cls := .ref C, dict := some d, data := .fields #[.ref t1, .none, .none, .none, .bool false, .none] } C (some od) := ⟨ho, rfl, rfl, hod⟩
    exact PySem.W.kia_one (PySem.W.kitx_exc Z.cl T.ga T.gg T.exC Z.at_ Z.sp Z.tk Z.ob) I.kIn J e (fun z => nomatch z) fun tk => ⟨.bl b, H, I.tok tk, rfl, q⟩
  · obtain ⟨⟨oe, vs, ho, hz, hdt, _⟩, _, _⟩ := I.hok a _ ha
    have J : PySem.W.InstAt s.heap a oe C none := ⟨ho, hz.1, by unfold PySem.W.notCls; rw [hdt] <;> rfl, by rw [hz.2]; exact True.intro⟩
    exact PySem.W.kia_one (PySem.W.kitx_exc Z.cl T.ga T.gg T.exC Z.at_ Z.sp Z.tk Z.ob) I.kIn J e (fun z => nomatch z) fun tk => ⟨.bl b, H, I.tok tk, rfl, q⟩
/-- C(), a class without fields -/
theorem pe_exc0 {bmB : List Value} {B newId initId : String} {x : Str} {p pos : Pos} (F : ExcBaseFacts B newId initId bmB) (q : PySem.W.excIn X.K C bmB newId = true) (gC : X.mg x = some (.ref C)) (kC : PySem.W.keepIn X.K (.ref C) = true) (hg : Gl X x)
    (hdb : (x == ("__debug__" : Str)) = false := by decide) :
    PE X (.Call (.Name x p) [] [] pos) (fun _ H Q => ∀ a, H a = none → Q (.ref a) (upd H a (ExO (.ref C) a))) := by
  refine ⟨fun pins s σ H Q I h => ?_⟩
  refine wpAny_Call_Name_kw (ld_glob I hg gC ?_ hdb)
  refine PySem.W.callWith_K0 I.kIn kC ?_
  obtain ⟨bm, N, nm, qn, bs, hdct, sn, sub, ab, col, dd, k0, k1, k2, k3, k5, mN, hC, hN, hni, T⟩ := exc_obj I.kIn q
  refine wpAny_call_exc_subT F T hC hN hni (fun h' a hm => ?_) (Nat.zero_le _)
  have hn : H a = none := I.hok.gone hm.new
  obtain ⟨t, ht, _, _⟩ := hm.there
  exact ⟨.ref a, upd H a (ExO (.ref C) a), I.laidN hm.keeps hm.new hn (exO_ok ht ⟨rfl, rfl⟩ rfl rfl rfl (show 4 < 6 by decide)), rfl, h a hn⟩
end
end My

namespace My
open PySem PySem.Spec PyProof.Rows L2
/-! ### a class of errors with one field -/
/-- what the written part says of the class at C, called x, with the field f; its __init__ stands at fI -/
structure ErrC (K : PySem.W.Frag) (mg : Str → Option Value) (x f : Str) (C fI : Addr) : Prop where
  gl : mg x = some (.ref C)
  oex : OexC K C
  xf : XfC K C
  kit : KitC K C
  iC : PySem.W.findIn K (.ref C) "__init__" = some (some (.ref fI))
  tI : PySem.W.typeIn K (.ref fI) = some (.type "function")
  no : PySem.W.findIn K (.ref C) f = some none
/-- __init__ of an error: the field is stored -/
def spInit (C : Addr) (f : Str) : Sp := fun vs H Q _ => ∃ (a : Addr) (v : V), vs = [.ref a, v] ∧ H a = some (exo a C none) ∧
  ∀ dx, H dx = none → dx ≠ a → Q .non (upd (upd H dx (exd dx [(f, v)])) a (exo a C (some dx)))
section
variable {P : Program} {w : World} {K : PySem.W.Frag} {mg : Str → Option Value} {base : Heap} {C fI : Addr} {fd : FuncData} {x f : Str}
theorem ok_init {st : Stmt} {qual : Str} (T : ErrC K mg x f C fI) (F : FunD K "__init__" qual (defArgs st) (defBody st) (defScope st) [] [] fI fd) (S : FnScope ["self", f] ["self", f] (defScope st))
    (hb : ∃ q1 q2 q3 q4, defBody st = [.Assign [.Attribute (.Name "self" q1) f q2] (.Name f q3) q4]) (d1 : (f == ("__debug__" : Str)) = false) (d2 : (f == ("__classdict__" : Str)) = false) :
    FnOk P w K mg base CX0 1 fI fd ["self", f] (spInit C f) := by
  obtain ⟨q1, q2, q3, q4, hb⟩ := hb
  refine F.ok S (fun vs H Q E h => ?_) (fun cdv A outer s H vs Q E hr h => ⟨_, PSs.nox (by
    rw [hb]
    exact pss_one (ps_ost (pe_var (i := 0) rfl (vis_par S List.mem_cons_self)) (pe_var (i := 1) rfl (vis_par S (List.mem_cons_of_mem _ List.mem_cons_self)) d1 d2))), ?_⟩)
  · obtain ⟨a, v, rfl, _⟩ := h
    rfl
  · obtain ⟨a, v, rfl, ha, q⟩ := h
    exact ⟨_, rfl, _, rfl, a, C, rfl, T.oex, T.no, .inl ⟨ha, fun dx n ne => q dx n ne⟩⟩
/-- all that a caller wants of such a class -/
def Er (P : Program) (w : World) (K : PySem.W.Frag) (mg : Str → Option Value) (base : Heap) (x f : Str) (C : Addr) : Prop := ∃ (fI : Addr) (fd : FuncData), ErrC K mg x f C fI ∧ FnOk P w K mg base CX0 1 fI fd ["self", f] (spInit C f) ∧
  Binds K fd ["self", f] [] ∧ ∀ (s : Shared) (u v : Value), K.In s.heap → BindsTo s fd ⟨[u], [(f, v)]⟩ ((["self", f] : List Str).zip [u, v])
/-- C(e), C(f = e) as values -/
def tEr (C : Addr) (f : Str) (te : TE) : TE := fun σ H Q => te σ H fun v H1 => ∀ a H', H1 a = none → Ext H1 H' → ErrAt H' a C f v → Q (.ref a) H'
theorem tEr_of {C : Addr} {f : Str} {v : V} {H : Hp} {Q : VK} (h : ∀ a H', H a = none → Ext H H' → ErrAt H' a C f v → Q (.ref a) H') {a : Addr} (ha : H a = none) :
    spInit C f [.ref a, v] (upd H a (exo a C none)) (fun z H2 => z = .non ∧ Q (.ref a) H2) E0 := by
  refine ⟨a, v, rfl, upd_same, fun dx n ne => ⟨rfl, ?_⟩⟩
  have hn : H dx = none := by
    rw [upd_ne ne] at n
    exact n
  refine h a _ ha (fun b o e => ?_) ⟨dx, upd_same, ?_⟩
  · rw [upd_ne (ne_of_none e ha), upd_ne (ne_of_none e hn), upd_ne (ne_of_none e ha)]
    exact e
  · rw [upd_ne ne, upd_same]
end
section
variable {X : Cx} {x f : Str} {C : Addr} {e : Expr} {te : TE} {p pos kpos : Pos}
theorem pe_er (E : Er X.prog X.w X.K X.mg X.base x f C) (hr : Room 2 X.A) (he : PE X e te) (hg : Gl X x := by rfl) (hdb : (x == ("__debug__" : Str)) = false := by decide)
    (h1 : starEach [e] X.env = (false, eval e X.env) :: starEach [] X.env := by rfl) (h2 : (backTo pos (starEach [] X.env)).any (·.1) = false := by rfl) :
    PE X (.Call (.Name x p) [e] [] pos) (tEr C f te) := by
  obtain ⟨fI, fd, T, F, b, _⟩ := E
  refine ⟨fun pins s σ H Q I h => ?_⟩
  refine wpAny_Call_Name_kw (ld_glob I hg T.gl ?_ hdb)
  refine PySem.W.callWith_K (h₀ := X.base) I.ok.mod.kin T.oex.kC ?_ h1 h2
  have ha : PA X [e] (tCons te tNil) := pa_cons he pa_nil h1
  refine thn (ha.run pos pins s σ H (fun vs H1 => match vs with | [v] => ∀ a H', H1 a = none → Ext H1 H' → ErrAt H' a C f v → Q (.ref a) H' | _ => False) I h) fun us s1 ⟨vs, H1, I1, r1, q1⟩ => ⟨I1.kIn, ?_⟩
  cases r1 with
  | nil => exact False.elim q1
  | cons rv rn =>
    cases rn with
    | cons _ _ => exact False.elim q1
    | nil =>
      refine run_err T.oex T.iC T.tI F hr pass0 (fun s a KX => b s [Value.ref a, _] KX rfl) (show 1 ≤ 1000 by decide) I1 (.cons rv .nil) fun a ha => tEr_of q1 ha
theorem pe_erK (E : Er X.prog X.w X.K X.mg X.base x f C) (hr : Room 2 X.A) (he : PE X e te) (hg : Gl X x := by rfl) (hdb : (x == ("__debug__" : Str)) = false := by decide)
    (hall : (backToKw pos (keywordEach [⟨some f, e, kpos⟩] X.env)).all (·.1.isSome) = true := by rfl) (hks : (backToKw pos (keywordEach [⟨some f, e, kpos⟩] X.env)).filterMap (·.1) = [f] := by rfl)
    (hpl : ((backTo pos (starEach [] X.env)).any (·.1) || (backToKw pos (keywordEach [⟨some f, e, kpos⟩] X.env)).any (·.1.isNone)) = false := by rfl) :
    PE X (.Call (.Name x p) [] [⟨some f, e, kpos⟩] pos) (tEr C f te) := by
  obtain ⟨fI, fd, T, F, _, b⟩ := E
  refine ⟨fun pins s σ H Q I h => ?_⟩
  refine wpAny_Call_Name_kw (ld_glob I hg T.gl ?_ hdb)
  refine PySem.W.callWith_KW0 (h₀ := X.base) I.ok.mod.kin T.oex.kC hall ?_ hpl
  have ha : PK X [⟨some f, e, kpos⟩] (tCons te tNil) := pk_cons he pk_nil
  refine thn (ha.run pos pins s σ H (fun vs H1 => match vs with | [v] => ∀ a H', H1 a = none → Ext H1 H' → ErrAt H' a C f v → Q (.ref a) H' | _ => False) I h) fun us s1 ⟨vs, H1, I1, r1, q1⟩ => ⟨I1.kIn, ?_⟩
  rw [hks]
  cases r1 with
  | nil => exact False.elim q1
  | cons rv rn =>
    cases rn with
    | cons _ _ => exact False.elim q1
    | nil => exact run_err (us := []) T.oex T.iC T.tI F hr pass0 (fun s a KX => b s _ _ KX) (by decide) I1 (.cons rv .nil) fun a ha => tEr_of q1 ha
end
/-! ### many errors at once -/
def AllErr (H : Hp) (v : V) : List Addr → List (Addr × Str) → Prop
  | [], [] => True
  | a :: as, c :: cs => ErrAt H a c.1 c.2 v ∧ AllErr H v as cs
  | _, _ => False
theorem AllErr.ext {H H' : Hp} {v : V} (x : Ext H H') : ∀ {as : List Addr} {cs : List (Addr × Str)}, AllErr H v as cs → AllErr H' v as cs
  | [], [], _ => True.intro
  | a :: as, c :: cs, h => ⟨h.1.ext x, AllErr.ext x h.2⟩
  | [], _ :: _, h => h.elim
  | _ :: _, [], h => h.elim
theorem AllErr.len {H : Hp} {v : V} : ∀ {as : List Addr} {cs : List (Addr × Str)}, AllErr H v as cs → as.length = cs.length
  | [], [], _ => rfl
  | a :: as, c :: cs, h => by rw [List.length_cons, List.length_cons, AllErr.len h.2]
  | [], _ :: _, h => h.elim
  | _ :: _, [], h => h.elim
theorem AllErr.app {H : Hp} {v : V} : ∀ {as bs : List Addr} {cs ds : List (Addr × Str)}, AllErr H v as cs → AllErr H v bs ds → AllErr H v (as ++ bs) (cs ++ ds)
  | [], _, [], _, _, k => k
  | a :: as, _, c :: cs, _, h, k => ⟨h.1, AllErr.app h.2 k⟩
  | [], _, _ :: _, _, h, _ => h.elim
  | _ :: _, _, [], _, h, _ => h.elim
theorem AllErr.at_ {H : Hp} {v : V} : ∀ {as : List Addr} {cs : List (Addr × Str)} {i : Nat} {c : Addr × Str}, AllErr H v as cs → cs[i]? = some c → ∃ a, as[i]? = some a ∧ ErrAt H a c.1 c.2 v
  | [], [], _, _, _, e => by simp at e
  | a :: as, c :: cs, 0, _, h, e => ⟨a, rfl, by cases e; exact h.1⟩
  | a :: as, c :: cs, i + 1, _, h, e => AllErr.at_ (i := i) h.2 e
  | [], _ :: _, _, _, h, _ => h.elim
  | _ :: _, [], _, _, h, _ => h.elim
def tErL : List (Addr × Str) → TE → TA
  | [], _ => tNil
  | c :: cs, te => tCons (tEr c.1 c.2 te) (tErL cs te)
theorem erL_run {i : Nat} {σ : L2.St} {v : V} (hi : σ[i]? = some (some v)) : ∀ (cs : List (Addr × Str)) (H : Hp) (Q : List V → Hp → Prop), (∀ as H', Ext H H' → AllErr H' v as cs → Q (as.map V.ref) H') → tErL cs (tVar i) σ H Q
  | [], H, Q, h => h [] H Ext.rfl' True.intro
  | c :: cs, H, Q, h => ⟨v, hi, fun a H1 _ x1 e1 => erL_run hi cs H1 _ fun as H2 x2 e2 => h (a :: as) H2 (x1.trans x2) ⟨e1.ext x2, e2⟩⟩
end My

namespace PySem
namespace MyD
open PySem.W Builtin
section
variable {prog : Program} {w : World} {A : Around} {E : Value → Shared → Prop} {s : Shared} {K : Frag} {x C f : Addr} {ox : Obj} {od : Option Obj}
/-- y in x, x an instance with an own __contains__ -/
theorem contains_own {M : Model} {y : Value} {Q : Bool → Shared → Prop} (X : K.In s.heap) (I : InstAt s.heap x ox C od) (hs : findIn K (.ref C) "__contains__" = some (some (.ref f))) (hf : isFn K (.ref f) = true)
    (h : wpAny M A (call (.ref f) [.ref x, y]) (fun r s' => ∃ b, r = .bool b ∧ Q b s') E s) : wpAny M A (contains (.ref x) y) Q E s := by
  have body : wpAny M A (callSpecialUnlessNone? (.ref x) "__contains__" [y] (do rule "in.none"; raiseError "TypeError" s!"'{← typeNameOf (.ref x)}' object is not a container")) (fun r s' => ∃ b, r = some (.bool b) ∧ Q b s') E s := by
    unfold callSpecialUnlessNone?
    refine wpAny_bind (wpAny_bind (I.type.here ((looks_findIn X hs).here ?_)))
    refine wpAny_holding (wpAny_bind ((bind_fn X _ (beq_iff_eq.mp hf)).here ?_))
    refine wpAny_bind (wpAny_mono h (fun r s' hr => ?_) fun _ _ e => e)
    obtain ⟨b, rfl, q⟩ := hr
    exact wpAny_pure ⟨b, rfl, q⟩
  unfold contains
  refine wpAny_holding ?_
  refine wpAny_bind (wpAny_bind (I.type.here ((looks_findIn X hs).here ?_)))
  rw [if_neg (show ¬ (some (Value.ref f) == some Value.none) = true from Bool.false_ne_true)]
  refine wpAny_bind (wpAny_mono body (fun r s' hr => ?_) fun _ _ e => e)
  obtain ⟨b, rfl, q⟩ := hr
  exact wpAny_truthy_bool q
/-- x != b, the class of x with an own __eq__ and object's __ne__ -/
theorem ne_own {b tb : Value} {Q : Value → Shared → Prop} (hu : A.units + 1 < cLine) (X : K.In s.heap) (I : InstAt s.heap x ox C od) (hb : Looks (model prog w) s.heap (typeOf b) tb) (hn : notFirst K C tb = true)
    (hne : findIn K (.ref C) "__ne__" = some (some (.builtin "object.__ne__"))) (hob : mroIn K C (.type "object") = some true) (hs : findIn K (.ref C) "__eq__" = some (some (.ref f))) (hf : isFn K (.ref f) = true)
    (h : wpAny (model prog w) A.in1 (call (.ref f) [.ref x, b]) (fun r s' => ∃ k, r = .bool k ∧ Q (.bool (!k)) s') E s) : wpAny (model prog w) A (richCompare .NotEq (.ref x) b) Q E s := by
  have sub : Looks (model prog w) s.heap (isInstance (.ref x) (.type "object")) true := I.type.andThen (looks_mroIn X hob)
  have go : wpAny (model prog w) A (call (.builtin "object.__ne__") ([.ref x] ++ [b])) (fun v s' => ∃ k, v = .bool (!k) ∧ Q (.bool (!k)) s') E s := by
    show wpAny _ _ (call (.builtin "object.__ne__") [.ref x, b]) _ _ _
    refine wpAny_call (codeAny_call_builtin F.cmp_object.ne.plain F.cmpEntry_ne ?_)
    refine check_slot F.cmpKind_ne F.cmpSplit_ne sub (F.cmpArgs_ne _ _) ?_
    unfold Builtin.«object.__ne__»
    refine wpAny_bind (wpAny_of_eq (a := ((Value.ref x : Value), [b])) (by first | rfl | (simp only [slotArgs]; rfl)) ?_)
    refine wpAny_bind (wpAny_cRoomFor hu ?_)
    refine wpAny_bind (ifBound_K X I hs hf (wpAny_mono h (fun v s' hv => ?_) fun _ _ e => e))
    obtain ⟨k, rfl, q⟩ := hv
    refine wpAny_bind (wpAny_truthy_bool ?_)
    exact wpAny_pure ⟨k, rfl, q⟩
  have bnd : wpAny (model prog w) A (callSpecialIfBound? (.ref x) "__ne__" [b]) (fun r s' => ∃ k, r = some (.bool (!k)) ∧ Q (.bool (!k)) s') E s := by
    simp only [callSpecialIfBound?, bindSpecialIfBound?]
    refine wpAny_holding (wpAny_bind (wpAny_bind (wpAny_bind (I.type.here ((looks_findIn X hne).here ?_)))))
    refine wpAny_bind (wpAny_askSetting (wpAny_ite ?_))
    have fin : wpAny (model prog w) A (call (.builtin "object.__ne__") ([.ref x] ++ [b]) >>= fun v => pure (some v)) (fun r s' => ∃ k, r = some (.bool (!k)) ∧ Q (.bool (!k)) s') E s := by
      refine wpAny_bind (wpAny_mono go (fun v s' hv => ?_) fun _ _ e => e)
      obtain ⟨k, rfl, q⟩ := hv
      exact wpAny_pure ⟨k, rfl, q⟩
    split
    · exact wpAny_bind (wpAny_of_eq (F.cmp_object.ne.bind _) (wpAny_pure (by exact fin)))
    · exact wpAny_tryCatch (wpAny_bind (wpAny_of_eq (F.cmp_object.ne.bind _) (wpAny_pure (by exact fin))))
  have one : wpAny (model prog w) A (tryCompare (.ref x) "__ne__" b) (fun r s' => ∃ v, r = some v ∧ Q v s') E s := by
    unfold tryCompare
    refine wpAny_bind (wpAny_mono bnd (fun r s' hv => ?_) fun _ _ e => e)
    obtain ⟨k, rfl, q⟩ := hv
    exact wpAny_pure ⟨_, rfl, q⟩
  unfold richCompare
  simp only [oneThing_ref]
  refine wpAny_holding (wpAny_bind (wpAny_cRoomFor (by omega) ?_))
  refine wpAny_bind (I.type.here (wpAny_bind (hb.here ?_)))
  split
  · rename_i q
    have e : subIn K tb (.ref C) = some false := by
      rcases Bool.or_eq_true_iff.mp hn with e | e
      · rw [beq_iff_eq.mp e] at q
        simp at q
      · exact beq_iff_eq.mp e
    refine wpAny_bind ((looks_subIn X e).here ?_)
    simp only [Bool.false_eq_true, if_false]
    refine wpAny_bind (wpAny_mono one (fun r s' z => ?_) fun _ _ e => e)
    obtain ⟨v, rfl, hq⟩ := z
    exact wpAny_pure hq
  · refine wpAny_bind (wpAny_pure ?_)
    simp only [Bool.false_eq_true, if_false]
    refine wpAny_bind (wpAny_mono one (fun r s' z => ?_) fun _ _ e => e)
    obtain ⟨v, rfl, hq⟩ := z
    exact wpAny_pure hq
end
end MyD
end PySem

namespace L2
open PySem PySem.Spec PyProof.Rows
/-! ### own operators, run -/
section
variable {X : Cx} {pins : List (Addr × Obj)} {σ : St} {H : Hp} {s : Shared} {CI : CXT} {f : Addr} {fd : FuncData} {ps : List Str} {sp : Sp} {EI : XK} {n : Nat} {A1 : Around}
theorem envSub (I : Inv X pins σ H s) (sb : Sub X n A1) : Env0 X.prog X.w X.K X.mg X.base A1 X.stack s H := by
  have e := I.env0
  exact ⟨by rw [sb.fr]; exact e.frames, e.mod, e.bs, e.bsz, e.funs, e.frf, e.hok, e.bare⟩
theorem rv2 (a : Addr) {y : V} {u : Value} (r : RelV y u) : Vals [V.ref a, y] [Value.ref a, u] := .cons rfl (.cons r .nil)
/-- a known def runs somewhere below the body -/
theorem run_sub {xs : List V} {us : List Value} {Q : VK} {base : Heap} (sb : Sub X n A1) (F : FnOk X.prog X.w X.K X.mg base CI n f fd ps sp) (e0 : Env0 X.prog X.w X.K X.mg base A1 X.stack s H) (hb : Binds X.K fd ps []) (hx : Passes CI X EI)
    (I : Inv X pins σ H s) (rv : Vals xs us) (hsp : sp xs H Q EI) : wpAny (model X.prog X.w) A1 (call (.ref f) us) (EP X pins σ Q) X.xe s := by
  have hl := F.len _ _ _ _ hsp
  have hl' : us.length = ps.length := by rw [← rv.length]; exact hl
  refine wpAny_call (codeAny_mono (F.run A1 X.stack s H ⟨us, []⟩ us xs Q EI sb.room e0 (by
    have := hb s us I.kIn (by simpa using hl')
    simpa using this) rv hsp) fun r s' hq => ?_)
  cases r with
  | error e => exact hx pins σ H s e s' I hq
  | ok fl =>
    cases fl with
    | ret u => exact I.after hq
    | next => exact False.elim hq
    | brk => exact False.elim hq
    | cont => exact False.elim hq
/-- a method under its name -/
structure OwnM (K : PySem.W.Frag) (C : Addr) (m : Str) (f : Addr) : Prop where
  at_ : PySem.W.findIn K (.ref C) m = some (some (.ref f))
  fn : PySem.W.isFn K (.ref f) = true
/-- x in o -/
def rInO (C : Addr) (sp : Sp) (E : XK) : R2 := fun x y H Q => ∃ a dx fs, y = .ref a ∧ H a = some (.ins C dx fs) ∧ sp [.ref a, x] H (fun v H' => ∃ b, v = .bl b ∧ Q (.bl b) H') E
theorem op_inO {C : Addr} (hr : Room n X.A) (M : OwnM X.K C "__contains__" f) (F : FnOk X.prog X.w X.K X.mg X.base CI n f fd ps sp) (hb : Binds X.K fd ps []) (hx : Passes CI X EI) : OpR X (compareOp .In) (rInO C sp EI) := by
  intro pins s σ H x y v u Q I rx ry h
  obtain ⟨a, dx, fs, rfl, ha, hsp⟩ := h
  cases ry
  obtain ⟨mA, J, _⟩ := ins_get I.hok ha
  obtain ⟨od, J, _⟩ := J.look
  show wpAny _ _ (contains (.ref a) v >>= fun z => pure (Value.bool z)) _ _ s
  refine wpAny_bind (wpAny_mono (MyD.contains_own (Q := fun b s' => EP X pins σ Q (.bool b) s') I.kIn J M.at_ M.fn ?_) (fun b s' hb => wpAny_pure hb) fun _ _ z => z)
  refine wpAny_mono (run_sub ⟨hr, rfl⟩ F (envSub I ⟨hr, rfl⟩) hb hx I (rv2 a rx) hsp) (fun w s' hq => ?_) fun _ _ z => z
  obtain ⟨z, H', I', rz, b, rfl, q⟩ := hq
  cases rz
  exact ⟨b, rfl, .bl b, H', I', rfl, q⟩
/-- o == y, o an instance with its own __eq__, y anything whose type is not one below o's class -/
def rEqO (K : PySem.W.Frag) (C : Addr) (sp : Sp) (E : XK) : R2 := fun x y H Q => ∃ a dx fs t, x = .ref a ∧ H a = some (.ins C dx fs) ∧ TyX K H y t ∧ PySem.W.notFirst K C t = true ∧ sp [.ref a, y] H (fun v H' => ∃ b, v = .bl b ∧ Q (.bl b) H') E
theorem op_eqO {C : Addr} (hr : Room n X.A) (M : OwnM X.K C "__eq__" f) (F : FnOk X.prog X.w X.K X.mg X.base CI n f fd ps sp) (hb : Binds X.K fd ps []) (hx : Passes CI X EI) : OpR X (compareOp .Eq) (rEqO X.K C sp EI) := by
  intro pins s σ H x y v u Q I rx ry h
  obtain ⟨a, dx, fs, t, rfl, ha, ty, nf, hsp⟩ := h
  cases rx
  obtain ⟨mA, J, _⟩ := ins_get I.hok ha
  obtain ⟨od, J, _⟩ := J.look
  obtain ⟨m, hF⟩ := I.fr
  obtain ⟨P, Z, p, hx'⟩ := kit_of I ry ty
  show wpAny _ _ (richCompare .Eq (.ref a) u) _ _ _
  refine PySem.W.cmp_K (op := .Eq) (tb := t) hr.units0 hF I.ok.mod.kin J (Z.ty _ _ I.kIn p) nf M.at_ M.fn ?_
  refine wpAny_mono (run_sub ⟨hr, rfl⟩ F (envSub I ⟨hr, rfl⟩) hb hx I (rv2 a ry) hsp) (fun w s' hq => ?_) fun _ _ z => z
  obtain ⟨z, H', I', rz, b, rfl, q⟩ := hq
  cases rz
  exact ⟨.bl b, H', I', rfl, q⟩
/-- o != y -/
def rNeO (K : PySem.W.Frag) (C : Addr) (sp : Sp) (E : XK) : R2 := fun x y H Q => ∃ a dx fs t, x = .ref a ∧ H a = some (.ins C dx fs) ∧ TyX K H y t ∧ PySem.W.notFirst K C t = true ∧ sp [.ref a, y] H (fun v H' => ∃ b, v = .bl b ∧ Q (.bl (!b)) H') E
theorem op_neO {C : Addr} (hr : Room (n + 1) X.A) (M : OwnM X.K C "__eq__" f) (hne : PySem.W.findIn X.K (.ref C) "__ne__" = some (some (.builtin "object.__ne__"))) (hob : PySem.W.mroIn X.K C (.type "object") = some true)
    (F : FnOk X.prog X.w X.K X.mg X.base CI n f fd ps sp) (hb : Binds X.K fd ps []) (hx : Passes CI X EI) : OpR X (compareOp .NotEq) (rNeO X.K C sp EI) := by
  intro pins s σ H x y v u Q I rx ry h
  obtain ⟨a, dx, fs, t, rfl, ha, ty, nf, hsp⟩ := h
  cases rx
  obtain ⟨mA, J, _⟩ := ins_get I.hok ha
  obtain ⟨od, J, _⟩ := J.look
  obtain ⟨P, Z, p, hx'⟩ := kit_of I ry ty
  have sb : Sub X n X.A.in1 := Sub.in1 (⟨hr, rfl⟩ : Sub X (n + 1) X.A)
  show wpAny _ _ (richCompare .NotEq (.ref a) u) _ _ _
  refine MyD.ne_own (by have := hr.un; omega) I.kIn J (Z.ty _ _ I.kIn p) nf hne hob M.at_ M.fn ?_
  refine wpAny_mono (run_sub sb F (envSub I sb) hb hx I (rv2 a ry) hsp) (fun w s' hq => ?_) fun _ _ z => z
  obtain ⟨z, H', I', rz, b, rfl, q⟩ := hq
  cases rz
  exact ⟨b, rfl, .bl (!b), H', I', rfl, q⟩
/-- len(o) -/
def rLenO (C : Addr) (sp : Sp) (E : XK) : List V → Hp → VK → Prop := fun xs H Q => ∃ a dx fs, xs = [.ref a] ∧ H a = some (.ins C dx fs) ∧ sp [.ref a] H (fun v H' => ∃ k : Int, v = .int k ∧ 0 ≤ k ∧ k < 2 ^ 63 ∧ Q (.int k) H') E
theorem call_lenO {C : Addr} (hr : Room (n + 1) X.A) (M : OwnM X.K C "__len__" f) (F : FnOk X.prog X.w X.K X.mg X.base CI n f fd ps sp) (hb : Binds X.K fd ps []) (hx : Passes CI X EI) : CallR X (.builtin "len") (rLenO C sp EI) := by
  intro pins s σ H xs us Q I rv h
  obtain ⟨a, dx, fs, rfl, ha, hsp⟩ := h
  obtain ⟨u, rfl, ru⟩ := rv.one
  cases ru
  obtain ⟨mA, J, _⟩ := ins_get I.hok ha
  obtain ⟨od, J, _⟩ := J.look
  obtain ⟨m, hF⟩ := I.fr
  have sb : Sub X n X.A.in1 := Sub.in1 (⟨hr, rfl⟩ : Sub X (n + 1) X.A)
  refine PySem.W.len_K hF I.ok.mod.kin J M.at_ M.fn ?_
  refine wpAny_mono (run_sub sb F (envSub I sb) hb hx I rv hsp) (fun w s' hq => ?_) fun _ _ z => z
  obtain ⟨z, H', I', rz, k, rfl, k0, k1, q⟩ := hq
  obtain ⟨t, rfl⟩ := rz
  exact ⟨⟨k0, k1⟩, .int k, H', I'.tok _, ⟨_, rfl⟩, q⟩
end
end L2

namespace L2
open PySem PySem.Spec PyProof.Rows
/-! ### a base with room behind it: what is not in it is young -/
def deadO : Obj := ⟨.none, none, .freed, #[]⟩
def padB (h : Heap) (n : Nat) : Heap := ⟨h.objs ++ Array.replicate n deadO, h.life⟩
theorem padB_get (h : Heap) (n : Nat) (b : Addr) : (padB h n).get? b = h.get? b := by
  by_cases k : b < h.objs.size
  · have e : (padB h n).objs[b]? = h.objs[b]? := by show (h.objs ++ Array.replicate n deadO)[b]? = _; rw [Array.getElem?_append_left k]
    unfold Heap.get?
    rw [e]
  · have e : h.get? b = none := by
      unfold Heap.get?
      rw [Array.getElem?_eq_none (Nat.le_of_not_lt k)]
    rw [e]
    unfold Heap.get?
    have e2 : (padB h n).objs[b]? = (Array.replicate n deadO)[b - h.objs.size]? := by
      show (h.objs ++ Array.replicate n deadO)[b]? = _
      rw [Array.getElem?_append_right (Nat.le_of_not_lt k)]
    rw [e2, Array.getElem?_replicate]
    split
    · rename_i q
      split at q
      · cases q; rfl
      · cases q
    · rename_i q
      split at q
      · exact absurd rfl (q _ _ _)
      · rw [if_neg (by assumption)]
theorem padB_size (h : Heap) (n : Nat) : (padB h n).objs.size = h.objs.size + n := by
  show (h.objs ++ Array.replicate n deadO).size = _
  rw [Array.size_append, Array.size_replicate]
theorem padB_keeps (h : Heap) (n : Nat) : ∀ b o, h.get? b = some o → (padB h n).get? b = some o := fun b o e => by rw [padB_get]; exact e
theorem Mod.pad {K : PySem.W.Frag} {mg : Str → Option Value} {base : Heap} (m : Mod K mg base) (n : Nat) : Mod K mg (padB base n) :=
  ⟨fun a o e => padB_keeps _ _ _ _ (m.kin a o e), m.glob.keeps (padB_keeps _ _), m.blt.elim fun mb h => ⟨mb, h.1.keeps (padB_keeps _ _), h.2⟩, m.nolimit.keeps (padB_keeps _ _)⟩
theorem funFrames_pad {h base : Heap} (n : Nat) : ∀ {l : List Env}, h.FunFrames base l → h.FunFrames (padB base n) l
  | [], _ => True.intro
  | _ :: _, ⟨a, ⟨L, o, e1, e2, e3⟩, r⟩ => ⟨a, ⟨L, o, e1, by rw [padB_get]; exact e2, e3⟩, funFrames_pad n r⟩
theorem Env0.pad {P : Program} {w : World} {K : PySem.W.Frag} {mg : Str → Option Value} {base : Heap} {A : Around} {outer : List Env} {s : Shared} {H : Hp} (e : Env0 P w K mg base A outer s H) {n : Nat} (hn : base.objs.size + n ≤ s.heap.objs.size) :
    Env0 P w K mg (padB base n) A outer s H := ⟨e.frames, e.mod.pad n, fun b o q => e.bs b o (by rw [padB_get] at q; exact q), by rw [padB_size]; exact hn, funFrames_pad n e.funs, e.frf, e.hok, e.bare⟩
/-! ### iter(tuple) as a value -/
def itT (l : Addr) (i : Nat) : Obj := { cls := .type "tuple_iterator", data := .fields #[.ref l, .int i 0] }
def ItoT (l it : Addr) : HO := .ext fun h => h.get? it = some (itT l 0)
theorem itoT_ok {P : Program} {w : World} {H : Hp} {h : Heap} {l it : Addr} (e : h.get? it = some (itT l 0)) : ObjOk P w H h it (ItoT l it) := ⟨e, ⟨_, e⟩, fun h1 h2 q k => k _ q⟩
def rIterT (K : PySem.W.Frag) (n : Nat) : List V → Hp → VK → Prop := fun xs H Q => ∃ (l : Addr) (zs : List V), xs = [.ref l] ∧ SqT K H l zs ∧ ∀ it, H it = Option.none → n ≤ it → Q (.ref it) (upd H it (ItoT l it))
section
variable {X : Cx} {pins : List (Addr × Obj)} {σ : St} {H : Hp} {s : Shared}
theorem call_iter_tup {prog : Program} {w : World} {A : Around} {E : Value → Shared → Prop} {l : Addr} {items : Array Value} {Q : Value → Shared → Prop} (hl : s.heap.IsTuple l items) (h : Q (.ref s.heap.objs.size) { s with heap := s.heap.push (itT l 0) }) : wpAny (model prog w) A (call (.builtin "iter") [.ref l]) Q E s := by
  refine Calls.call_function_entry (by decide +kernel) (by decide +kernel) PySem.W.kdk_entry_iter (PySem.W.kdk_args_iter _) ?_
  unfold Builtin.«iter»
  refine wpAny_bind (m := someArgs "iter" 1 2 _) (wpAny_of_eq (a := [Value.ref l]) (by first | rfl | kernel_rfl!) ?_)
  show wpAny _ _ (pyIter (.ref l) >>= _) _ _ _
  refine wpAny_bind (wpAny_pyIter_tuple hl ?_)
  exact wpAny_pure ⟨_, rfl, h⟩
theorem call_iterT : CallR X (.builtin "iter") (rIterT X.K X.base.objs.size) := by
  intro pins s σ H xs us Q I r h
  obtain ⟨l, zs, rfl, hq, q⟩ := h
  obtain ⟨u, rfl, ru⟩ := vals1 r
  cases ru
  obtain ⟨its, rv, pl, hz⟩ := I.tuple hq
  refine call_iter_tup (show s.heap.IsTuple l its.toArray from pl) ?_
  exact ⟨.ref s.heap.objs.size, _, I.laid (t' := s.toks) (fun b u e => Heap.get?_push_of_some _ e) (Nat.le_refl _) (itoT_ok (Heap.get?_push_size _ rfl)), rfl, q _ (I.hok.fresh (Nat.le_refl _)) (Nat.le_trans I.ok.bsz I.sz)⟩
theorem rv1 (a : Addr) : Vals [V.ref a] [Value.ref a] := .cons rfl .nil
/-! ### walked: an instance whose __iter__ gives iter(tuple) -/
/-- what __iter__ promises: N of the instance is a tuple at l -/
def spIter (K : PySem.W.Frag) (C : Addr) (N : Str) (n : Nat) : Sp := fun vs H Q _ => ∃ a dx fs l zs, vs = [.ref a] ∧ H a = some (.ins C dx fs) ∧ fs.lookup N = some (.ref l) ∧ SqT K H l zs ∧ ∀ it, H it = none → n ≤ it → Q (.ref it) (upd H it (ItoT l it))
def iOwn (K : PySem.W.Frag) (C : Addr) (N : Str) (te : TE) : TI := fun σ H R => te σ H fun x H1 => ∃ a dx fs l zs, x = .ref a ∧ H1 a = some (.ins C dx fs) ∧ fs.lookup N = some (.ref l) ∧ SqT K H1 l zs ∧ R (Itt K l) H1
variable {tg e : Expr} {te : TE} {C f : Addr} {fd : FuncData} {N : Str} {ps : List Str} {n : Nat}
theorem pi_own (hr : Room n X.A) (M : OwnM X.K C "__iter__" f) (Fi : ∀ base, FnOk X.prog X.w X.K X.mg base CX0 n f fd ps (spIter X.K C N base.objs.size)) (hb : Binds X.K fd ps []) (he : PE X e te) : PI X tg e (iOwn X.K C N te) := by
  refine ⟨fun pins s σ H R I h => ?_⟩
  refine thn (he.run pins s σ H _ I h) fun v s1 ⟨x, H1, I1, r1, q1⟩ => ?_
  obtain ⟨a, dx, fs, l, zs, rfl, ha, hf, hl, q⟩ := q1
  cases r1
  obtain ⟨mA, J, _⟩ := ins_get I1.hok ha
  obtain ⟨od, J, _⟩ := J.look
  obtain ⟨m, hF⟩ := I1.fr
  have sb : Sub X n X.A := ⟨hr, rfl⟩
  refine PySem.W.owit_iter hF I1.ok.mod.kin J M.at_ M.fn ?_
  have hsz : X.base.objs.size + (X.s_0.heap.objs.size - X.base.objs.size) = X.s_0.heap.objs.size := by have := I1.ok.bsz; omega
  have e0 := (envSub I1 sb).pad (n := X.s_0.heap.objs.size - X.base.objs.size) (by rw [hsz]; exact I1.sz)
  refine wpAny_mono (run_sub (Q := fun v H' => ∃ it, v = .ref it ∧ H1 it = none ∧ X.s_0.heap.objs.size ≤ it ∧ H' = upd H1 it (ItoT l it)) sb (Fi _) e0 hb (EI := fun _ _ _ => False) pass0 I1 (rv1 a) ⟨a, dx, fs, l, zs, rfl, ha, hf, hl, fun it h1 h2 => ⟨it, rfl, h1, by rw [padB_size, hsz] at h2; exact h2, rfl⟩⟩) (fun w s' hq => ?_) fun _ _ z => z
  obtain ⟨z, H', I', rz, it, rfl, hn, hy, rfl⟩ := hq
  cases rz
  have hit : upd H1 it (ItoT l it) it = some (ItoT l it) := upd_same
  have eo : s'.heap.get? it = some (itT l 0) := (I'.hok it _ hit).1
  have st : s'.heap.IsTupleIter it l 0 := ⟨_, eo, rfl, rfl⟩
  unfold PySem.W.OwitIt
  refine wpAny_specialOf st.typeIs PySem.F.slot_tuple_iterator_next.lookup ?_
  have hd : ItX.dropH (upd H1 it (ItoT l it)) it = H1 := ItX.dropH_upd hn
  have I2 := ItX.inv_drop I' (a := it) (φ := fun h => h.get? it = some (itT l 0)) hit
  have fp := ItX.inv_fp I' hit hy
  rw [hd] at I2 fp
  refine ⟨it, [it], _, _, H1, rfl, I2, turn_tuple l it, st, fun b hb => ?_, q⟩
  have e : b = it := by simpa using hb
  rw [e]
  exact fp
end
end L2

namespace PySem
namespace MyE
open PySem.W
/-- enumerate(v), one argument -/
theorem new1 {v : Value} {o : Obj} {H : Heap → Prop} (B : Begins v o H) :
    Meets (Builtin.«enumerate.__new__» ⟨[.type "enumerate", v], []⟩) (fun _ R s => H s.heap ∧
      R (.ok (.ret (.ref (s.heap.push o).objs.size))) { s with heap := (s.heap.push o).push { cls := .type "enumerate", data := .fields #[.none, .bool false, .ref s.heap.objs.size, rawInt 0, .none, .none] } }) :=
  .of_wp fun P1 w1 A1 R1 s1 z => by
    obtain ⟨hp, gs, dr, tk, oz⟩ := s1
    obtain ⟨z1, z2⟩ := z
    have subE := sub_enumerate
    have its : ∀ {A' : Around} {E : Value → Shared → Prop} {Q : Value → Shared → Prop}, Q (.ref hp.objs.size) ⟨hp.push o, gs, dr, tk, oz⟩ → wpAny (model P1 w1) A' (pyIter v) Q E ⟨hp, gs, dr, tk, oz⟩ :=
      fun q => B.iter P1 w1 _ _ ⟨hp, gs, dr, tk, oz⟩ _ z1 q
    wp_walk using its
    refine wpAny_stack_any fun _ => wpAny_pure ?_
    split
    · rename_i c _ _ _ _ _
      cases (c == Value.type "enumerate") <;> (wp_walk using its; exact ⟨_, rfl, z2⟩)
    · wp_walk using its
      exact ⟨_, rfl, z2⟩
theorem call1 {prog : Program} {w : World} {A : Around} {E : Value → Shared → Prop} {s : Shared} {v : Value} {o : Obj} {H : Heap → Prop} {Q : Value → Shared → Prop} (B : Begins v o H) (h1 : H s.heap)
    (h : ∀ h', IsEnum h' (s.heap.objs.size + 1) s.heap.objs.size 0 .none → h'.get? s.heap.objs.size = some o → (∀ b u, s.heap.get? b = some u → h'.get? b = some u) → Q (.ref (s.heap.objs.size + 1)) { s with heap := h' }) :
    wpAny (model prog w) A (call (.type "enumerate") [v]) Q E s := by
  refine callType_new F.called_enumerate (by decide) (F.typeCall_enumerate_1 _) (F.newCall_enumerate_1 _) (fun obj => F.args_object_init_2 obj _) F.entry_enumerate_new (new1 B) ⟨h1, ?_⟩
  have hz : (s.heap.push o).objs.size = s.heap.objs.size + 1 := Heap.size_push ..
  have he := Heap.get?_push_size (s.heap.push o) (o := { cls := .type "enumerate", data := .fields #[.none, .bool false, .ref s.heap.objs.size, rawInt 0, .none, .none] }) rfl
  show _ ∧ _
  rw [hz] at he ⊢
  exact ⟨⟨_, he, rfl⟩, h _ he (Heap.get?_push_of_some _ (Heap.get?_push_size _ B.free)) fun b u x => Heap.get?_push_of_some _ (Heap.get?_push_of_some _ x)⟩
end MyE
end PySem
namespace L2
open PySem PySem.Spec PyProof.Rows
/-! ### enumerate(tuple) -/
def IteT (K : PySem.W.Frag) (a : Addr) : It :=
  ⟨fun i H => ∃ (xs : List V) (x : V), SqT K H a xs ∧ xs[i]? = some x, fun i H v H' => ∃ T x, v = .ref T ∧ H T = none ∧ H' = upd H T (.tup [.int (i : Nat), x]) ∧ ∀ xs, SqT K H a xs → xs[i]? = some x, fun i H => ∃ xs : List V, SqT K H a xs ∧ xs.length = i⟩
theorem enum_ne {h : Heap} {e it l : Addr} {i : Int} {old : Value} {items : Array Value} (he : IsEnum h e it i old) (hl : h.IsTuple l items) : l ≠ e := fun z => by
  obtain ⟨o, ho, _, n, hd⟩ := hl
  rw [z, he] at ho
  cases ho
  cases hd
theorem iterT_ne {h : Heap} {it l : Addr} {i : Nat} {items : Array Value} (hi : h.IsTupleIter it l i) (hl : h.IsTuple l items) : l ≠ it := fun z => by
  obtain ⟨o, ho, _, n, hd⟩ := hl
  obtain ⟨o2, ho2, _, hd2⟩ := hi
  rw [z, ho2] at ho
  cases ho
  rw [hd2] at hd
  cases hd
theorem turn_enumT {P : Program} {w : World} {K : PySem.W.Frag} {elts : List Expr} {kk : Nat} {tpos : Pos} (a e it : Addr) :
    Turn P w K (.Tuple elts kk tpos) (IteT K a) [e, it] e (fun i h => (∃ old, IsEnum h e it ((i : Nat) : Int) old) ∧ h.IsTupleIter it a i ∧ e ≠ it) where
  mem := List.mem_cons_self
  obj := fun i h st b hb => by
    obtain ⟨⟨old, he⟩, ⟨o, ho, hc, hd⟩, _⟩ := st
    rcases List.mem_cons.mp hb with rfl | hb
    · exact ⟨_, he, fun v q => nomatch q⟩
    · rw [List.mem_singleton.mp hb]
      exact ⟨o, ho, fun v q => by rw [hd] at q; cases q⟩
  keep := fun i h h' st k => ⟨st.1.elim fun old z => ⟨old, k e List.mem_cons_self _ z⟩, st.2.1.at fun o q => k it (List.mem_cons_of_mem _ List.mem_cons_self) o q, st.2.2⟩
  item := by
    intro X hP hw hK hc i pins s σ H E I hf st hg
    subst hP hw hK
    obtain ⟨⟨old, he⟩, hit, hne⟩ := st
    obtain ⟨xs, x, hq, hx⟩ := hg
    obtain ⟨its, rv, p, hz⟩ := I.tuple hq
    obtain ⟨u, hu, ru⟩ := rv.get hx
    have pt : s.heap.IsTuple a its.toArray := p
    have hel : e < s.heap.objs.size := Heap.lt_size he
    have hlen : i < its.toArray.size := by
      rw [List.size_toArray]
      exact (List.getElem?_eq_some_iff.mp hu).1
    refine wpAny_pyNext_enum_itemD (Draws.tuple (A := X.A.in1) (I.ok.hd hc) it a (iterT_ne hit pt) its.toArray) he ⟨hit, pt⟩ hlen hne (by
      intro z
      rcases List.mem_cons.mp z with z | z
      · exact hne z
      · exact enum_ne he pt (List.mem_singleton.mp z).symm) fun y h' tk hy ho hit' hT hsz hk => ?_
    have ey : y = u := by
      rw [List.getElem?_toArray, hu] at hy
      exact (Option.some.inj hy).symm
    subst ey
    refine ⟨_, rfl, wpAny_letOwnedTupleGo_enum (s := { s with heap := h', toks := tk + 1 }) ho fun h'' he' sb => ?_⟩
    have hT2 : h''.get? s.heap.objs.size = some { cls := .type "tuple", data := .seq #[.int i tk, y] } := (sb.2 _ (Nat.ne_of_gt hel)).trans hT
    have new : ObjOk X.prog X.w (upd H s.heap.objs.size (.tup [.int (i : Nat), x])) h'' s.heap.objs.size (.tup [.int (i : Nat), x]) :=
      ⟨Nat.le_of_ble_eq_true rfl, [.int i tk, y], .cons ⟨_, rfl⟩ (.cons ru .nil), ⟨_, hT2, rfl, _, rfl⟩⟩
    have I1 : Inv X pins σ (upd H s.heap.objs.size (.tup [.int (i : Nat), x])) { s with heap := h'', toks := tk + 1 } :=
      I.turnedNew (ch := [e, it]) (fun b ob hb q => (sb.2 b (fun z => hb (by simp [z]))).trans (hk b ob (fun z => hb (by simp [z])) (fun z => hb (by simp [z])) q)) hf (Nat.le_refl _) new
    have hfr : H s.heap.objs.size = none := I.hok.fresh (Nat.le_refl _)
    refine ⟨.ref s.heap.objs.size, _, I1, rfl, ⟨_, x, rfl, hfr, rfl, fun ys hy => by rw [I.tuple_inj hy hq]; exact hx⟩, ⟨⟨y, ?_⟩, hit'.1.at fun o q => (sb.2 it (Ne.symm hne)).trans q, hne⟩, fun b hb => ?_⟩
    · have e1 : ((i + 1 : Nat) : Int) = (i : Int) + 1 := by omega
      rw [e1]
      exact he'
    · have bl : b < s.heap.objs.size := by
        rcases List.mem_cons.mp hb with rfl | hb
        · exact hel
        · rw [List.mem_singleton.mp hb]
          obtain ⟨_, z, _⟩ := hit
          exact Heap.lt_size z
      rw [upd_ne (Nat.ne_of_lt bl)]
      exact (hf b hb).1
  done := by
    intro X hP hw hK hc i pins s σ H E I hf st hg
    subst hP hw hK
    obtain ⟨⟨old, he⟩, hit, hne⟩ := st
    obtain ⟨xs, hq, hx⟩ := hg
    obtain ⟨its, rv, p, hz⟩ := I.tuple hq
    obtain ⟨f0, f1, f2, f3, f4, f5⟩ := hf it (List.mem_cons_of_mem _ List.mem_cons_self)
    have pt : s.heap.IsTuple a its.toArray := p
    have hn : its.toArray.size = i := by
      rw [List.size_toArray, ← rv.length]
      exact hx
    exact wpAny_pyNext_enum_endD (Draws.tuple (A := X.A.in1) (I.ok.hd hc) it a (iterT_ne hit pt) its.toArray) he (by rw [hn]; exact ⟨hit, pt⟩) fun h' eb => ⟨rfl, I.turned (t' := s.toks) (fun b o hb q => eb b o hb q) f0 f1 f3 f4 f5⟩
  self := fun A i s Q E st h => st.1.elim fun _ he => wpAny_pyIter_enum he h
def iEnumT (K : PySem.W.Frag) (ta : TA) : TI := fun σ H R => ta σ H fun vs H1 => ∃ a xs, vs = [.ref a] ∧ SqT K H1 a xs ∧ R (IteT K a) H1
/-- enumerate of a list or of a tuple -/
def iEnumS (K : PySem.W.Frag) (ta : TA) : TI := fun σ H R => ta σ H fun vs H1 => ∃ a xs, vs = [.ref a] ∧ ((SqL K H1 a xs ∧ R (Ite K a) H1) ∨ (SqT K H1 a xs ∧ R (IteT K a) H1))
theorem pi_enumS {X : Cx} {e : Expr} {ta : TA} {p pos tpos : Pos} {elts : List Expr} {kk : Nat} (hg : Gl X "enumerate") (hm : X.mg "enumerate" = none) (ha : PA X [e] ta) (hs : starEach [e] X.env = [(false, eval e X.env)] := by rfl) :
    PI X (.Tuple elts kk tpos) (.Call (.Name "enumerate" p) [e] [] pos) (iEnumS X.K ta) := by
  refine ⟨fun pins s σ H R I h => ?_⟩
  refine Call_ (ld_blt I hg hm boot_enumerate (PyProof.Rows.callWith_type1 (thn (ha.run pos pins s σ H _ I h) fun us s1 ⟨vs, H1, I1, r1, q1⟩ => ?_) hs rfl))
  obtain ⟨a, xs, rfl, q⟩ := q1
  obtain ⟨u, rfl, ru⟩ := r1.one
  cases ru
  have young : ∀ b, b ∈ [s1.heap.objs.size + 1, s1.heap.objs.size] → s1.heap.objs.size ≤ b := fun b hb => by
    rcases List.mem_cons.mp hb with z | z
    · rw [z]; exact Nat.le_add_right _ _
    · rw [List.mem_singleton.mp z]; exact Nat.le_refl _
  rcases q with ⟨hq, q⟩ | ⟨hq, q⟩
  · obtain ⟨its, rv, p', hz⟩ := I1.list hq
    refine MyE.call1 (begins_list a its.toArray) p'.isList fun h' he hit hk => wpAny_pyIter_enum he ?_
    exact ⟨s1.heap.objs.size + 1, [s1.heap.objs.size + 1, s1.heap.objs.size], _, _, H1, rfl, I1.kept (t' := s1.toks) hk, turn_enum a (s1.heap.objs.size + 1) s1.heap.objs.size, ⟨⟨.none, he⟩, ⟨_, hit, rfl, rfl⟩, Nat.succ_ne_self _⟩, fun b hb => I1.fpOk (young b hb) (I1.hok.fresh (young b hb)), q⟩
  · obtain ⟨its, rv, p', hz⟩ := I1.tuple hq
    refine MyE.call1 (begins_tuple a its.toArray) (show s1.heap.IsTuple a its.toArray from p') fun h' he hit hk => wpAny_pyIter_enum he ?_
    exact ⟨s1.heap.objs.size + 1, [s1.heap.objs.size + 1, s1.heap.objs.size], _, _, H1, rfl, I1.kept (t' := s1.toks) hk, turn_enumT a (s1.heap.objs.size + 1) s1.heap.objs.size, ⟨⟨.none, he⟩, ⟨_, hit, rfl, rfl⟩, Nat.succ_ne_self _⟩, fun b hb => I1.fpOk (young b hb) (I1.hok.fresh (young b hb)), q⟩
theorem walk_enumT {K : PySem.W.Frag} {a : Addr} {xs : List V} : Walk (IteT K a) xs.length (fun H => SqT K H a xs) (YPair (fun i => some (.int (i : Nat))) (fun i => xs[i]?)) := by
  refine ⟨fun i _ hi q => ⟨xs, xs[i], q, by simp [hi]⟩, fun _ q => ⟨xs, q, rfl⟩, fun i H v H' _ q y => ?_⟩
  obtain ⟨T, x, h1, h2, h3, h4⟩ := y
  exact ⟨T, .int (i : Nat), x, h1, h2, h3, rfl, h4 xs q⟩
end L2

namespace PySem
namespace MyN
open PySem.W Builtin PySem.SeqAt PySem.MeetsSeq MeetsSeq2
open AutoSeq1 (wpAny_loadPart')
/-- str.__eq__ with an object that holds no text -/
theorem str_no_plain (b : Str) (u : Tok) (l : Addr) (ob : Obj) (hd : ob.data = .plain) :
    Meets (Builtin.«str.__eq__» ⟨[.str b u, .ref l], []⟩) (fun _ R s => s.heap.get? l = some ob ∧ R (.ok (.ret .notImplemented)) s) :=
  .of_wp fun P1 w1 A1 R1 s1 z => by
    obtain ⟨hp, gs, dr, tk, oz⟩ := s1
    obtain ⟨z1, z2⟩ := z
    obtain ⟨oc, od, dt, sl⟩ := ob
    simp only at hd
    subst hd
    wp_walk using wpAny_loadPart' z1, wpAny_load z1
    exact ⟨_, rfl, z2⟩
theorem str_no_dict (b : Str) (u : Tok) (l : Addr) (ob : Obj) (es : Array DictEntry) (ep : Nat) (hd : ob.data = .dict es ep) :
    Meets (Builtin.«str.__eq__» ⟨[.str b u, .ref l], []⟩) (fun _ R s => s.heap.get? l = some ob ∧ R (.ok (.ret .notImplemented)) s) :=
  .of_wp fun P1 w1 A1 R1 s1 z => by
    obtain ⟨hp, gs, dr, tk, oz⟩ := s1
    obtain ⟨z1, z2⟩ := z
    obtain ⟨oc, od, dt, sl⟩ := ob
    simp only at hd
    subst hd
    wp_walk using wpAny_loadPart' z1, wpAny_load z1
    exact ⟨_, rfl, z2⟩
/-- dict.__eq__ with a text -/
theorem dict_no_str (b : Str) (u : Tok) (l : Addr) (ob : Obj) (hc : ob.cls = .type "dict") :
    Meets (Builtin.«dict.__eq__» ⟨[.ref l, .str b u], []⟩) (fun _ R s => s.heap.get? l = some ob ∧ R (.ok (.ret .notImplemented)) s) :=
  .of_wp fun P1 w1 A1 R1 s1 z => by
    obtain ⟨hp, gs, dr, tk, oz⟩ := s1
    obtain ⟨z1, z2⟩ := z
    obtain ⟨oc, od, dt, sl⟩ := ob
    simp only at hc
    subst hc
    have f1 := F.sub_str_dict
    wp_walk using wpAny_loadPart' z1, wpAny_load z1
    exact ⟨_, rfl, z2⟩
theorem eq_str_dict {A : Around} {s : Shared} {l : Addr} {ob : Obj} {es : Array DictEntry} {ep : Nat} (b : Str) (u : Tok) (hl : s.heap.get? l = some ob) (hc : ob.cls = .type "dict") (hd : ob.data = .dict es ep) (hu : A.units < cLine) : EqAt A s (.str b u) (.ref l) false := fun prog w E Q h => by
  unfold eqBool
  refine wpAny_holding ?_
  refine wpAny_ite_split (fun hab => absurd (eq_of_beq hab) nofun) (fun _ => ?_)
  refine wpAny_bind (rc_eq_decline_or (k := false) (typeIs_str s b u) ⟨_, hl, hc⟩ (by decide) F.sub_dict_str F.slot_str_eq F.slot_dict_eq_refl
    (fun _ hq => call_meets F.slot_str_eq (typeIs_str s b u) F.entry_str_eq (F.args_str_eq_2 _ _) (str_no_dict b u l ob es ep hd) ⟨hl, hq⟩)
    (fun _ hq => call_meets F.slot_dict_eq_refl ⟨_, hl, hc⟩ F.entry_dict_eq (F.args_dict_eq_2 _ _) (dict_no_str b u l ob hc) ⟨hl, hq⟩)
    (fun _ hq => wpAny_of_eq (rfl : isSame (.str b u) (.ref l) = pure false) hq) (.inr hu) (wpAny_truthy_bool h))
section
variable {prog : Program} {w : World} {A : Around} {E : Value → Shared → Prop} {s : Shared} {K : Frag} {x C f : Addr} {ox : Obj} {od : Option Obj}
/-- text == x, x an instance with its own __eq__: that one is asked -/
theorem eqb_str_own {b : Str} {u : Tok} {Q : Bool → Shared → Prop} (hu : A.units < cLine) (X : K.In s.heap) (I : InstAt s.heap x ox C od) (hp : ox.data = .plain) (nf : subIn K (.ref C) (.type "str") = some false)
    (hs : findIn K (.ref C) "__eq__" = some (some (.ref f))) (hf : isFn K (.ref f) = true)
    (h : wpAny (model prog w) A (call (.ref f) [.ref x, .str b u]) (fun r s' => ∃ k, r = .bool k ∧ Q k s') E s) : wpAny (model prog w) A (eqBool (.str b u) (.ref x)) Q E s := by
  have hx : s.heap.get? x = some ox := I.1
  have one : wpAny (model prog w) A (tryCompare (.ref x) "__eq__" (.str b u)) (fun r s' => ∃ k, r = some (.bool k) ∧ Q k s') E s := by
    unfold tryCompare
    refine wpAny_bind (ifBound_K X I hs hf (wpAny_mono h (fun v s' hv => ?_) fun _ _ e => e))
    obtain ⟨k, rfl, q⟩ := hv
    exact wpAny_pure ⟨k, rfl, q⟩
  unfold eqBool
  refine wpAny_holding ?_
  refine wpAny_ite_split (fun hab => absurd (eq_of_beq hab) nofun) (fun _ => ?_)
  refine wpAny_bind ?_
  have z := (typeIs_str s b u)
  simp only [richCompare, z.oneThing_none]
  refine wpAny_holding (wpAny_bind (wpAny_cRoomFor_or (.inr hu) ?_))
  refine wpAny_bind (wpAny_typeOf z (wpAny_bind (I.type.here ?_)))
  have ne : (Value.type "str" != Value.ref C) = true := rfl
  simp only [ne, if_true]
  refine wpAny_bind ((looks_subIn X nf).here ?_)
  simp only [Bool.false_eq_true, if_false, Bool.not_false, if_true]
  refine wpAny_bind (m := tryCompare (.str b u) _ (.ref x)) (wpAny_tryCompare_declines z F.slot_str_eq (call_meets F.slot_str_eq z F.entry_str_eq (F.args_str_eq_2 _ _) (str_no_plain b u x ox hp) ⟨hx, rfl, ?_⟩))
  refine wpAny_bind (m := tryCompare (.ref x) _ (.str b u)) (wpAny_mono one (fun r s' hr => ?_) fun _ _ e => e)
  obtain ⟨k, rfl, q⟩ := hr
  exact wpAny_pure (wpAny_truthy_bool q)
/-- x in a tuple, none of the items is equal to x; I stands all along -/
theorem in_none {l : Addr} {items : Array Value} {y : Value} {Q : Value → Shared → Prop} (J : Shared → Prop) (hl : s.heap.IsTuple l items)
    (turn : ∀ v, v ∈ items → ∀ s', J s' → wpAny (model prog w) A.in1 (eqBool v y) (fun r s2 => r = false ∧ J s2) E s') (fin : ∀ s', J s' → Q (.bool false) s') (h : J s) :
    wpAny (model prog w) A (compareOp .In y (.ref l)) Q E s := by
  obtain ⟨⟨cls, dd, data, sl⟩, ho, hc, n, hd⟩ := id hl
  simp only at hc hd
  subst hc hd
  have hT : s.TypeIs (.ref l) "tuple" := ⟨_, ho, rfl⟩
  have body : wpAny (model prog w) A (call (.builtin "tuple.__contains__") [.ref l, y]) (fun v s' => v = .bool false ∧ J s') E s := by
    refine GQ.call_here F.slot_tuple_contains hT F.entry_tuple_contains (F.args_tuple_contains_2 _ _) ?_
    obtain ⟨hp, gs, dr, tk, oz⟩ := s
    have go : ∀ v, v ∈ items.toList → ∀ s', J s' → wpAny (model prog w) A.in1 (eqBool v y) (fun r s2 => r = false ∧ J s2) (fun e s' => wants (fun v s' => v = Value.bool false ∧ J s') E (.error e) s') s' := fun v hv s' hj => turn v (by simpa using hv) s' hj
    wp_walk using wpAny_loadPart' ho, wpAny_forIn_array _ (fun rest b s' => b.1 = none ∧ (∀ v, v ∈ rest → v ∈ items.toList) ∧ J s') _
    case turn =>
      rintro v rest b s' ⟨hb, hmem, hJ⟩
      refine wpAny_bind (wpAny_mono (go v (hmem v (List.mem_cons_self ..)) s' hJ) (fun r s2 q => ?_) fun _ _ e => e)
      obtain ⟨rfl, hJ2⟩ := q
      wp_walk
      exact ⟨rfl, fun z hz => hmem z (List.mem_cons_of_mem _ hz), hJ2⟩
    case fin =>
      rintro ⟨b1, b2⟩ s' ⟨hb, -, hJ⟩
      simp only at hb
      subst hb
      wp_walk
      exact ⟨rfl, hJ⟩
    case h =>
      exact ⟨rfl, fun v hv => by simpa using hv, h⟩
  show wpAny _ A (do return .bool (← contains (.ref l) y)) Q E s
  refine wpAny_bind (wpAny_contains_slot hT F.slot_tuple_contains (wpAny_mono body (fun v s' hv => ?_) fun _ _ e => e))
  obtain ⟨rfl, hJ⟩ := hv
  exact wpAny_truthy_bool (wpAny_pure (fin s' hJ))
end
end MyN
end PySem

namespace L2
open PySem PySem.Spec PyProof.Rows
section
variable {X : Cx} {CI : CXT} {f : Addr} {fd : FuncData} {ps : List Str} {sp : Sp} {EI : XK} {n : Nat} {C : Addr}
/-- a list, a tuple or a dict -/
def NoText (K : PySem.W.Frag) (H : Hp) (x : V) : Prop := (∃ a xs, x = .ref a ∧ (SqL K H a xs ∨ SqT K H a xs)) ∨ ∃ a kvs, x = .ref a ∧ H a = some (.dK kvs)
theorem NoText.eqAt {pins : List (Addr × Obj)} {σ : St} {H : Hp} {s : Shared} {A : Around} {x : V} {u : Value} (I : Inv X pins σ H s) (rx : RelV x u) (h : NoText X.K H x) (hu : A.units < cLine) (b : Str) (t : Tok) : SeqAt.EqAt A s (.str b t) u false := by
  rcases h with ⟨a, xs, rfl, h | h⟩ | ⟨a, kvs, rfl, h⟩
  · cases rx
    obtain ⟨its, r, pl, _⟩ := I.list h
    exact SeqAt.EqAt.str_list b t pl.isList hu
  · cases rx
    obtain ⟨its, r, pl, _⟩ := I.tuple h
    exact SeqAt.EqAt.str_tuple b t (show s.heap.IsTuple a its.toArray from pl) hu
  · cases rx
    obtain ⟨_, _, vs, _, o, es, ep, h1, h2, h3, _⟩ := (show ObjOk X.prog X.w H s.heap a (.dK kvs) from I.hok a _ h)
    exact MyN.eq_str_dict b t h1 h2.1 h3 hu
theorem vals_str : ∀ {zs : List Str} {us : List Value}, Vals (zs.map V.str) us → ∀ u ∈ us, ∃ z t, z ∈ zs ∧ u = .str z t
  | [], _, .nil, u, hu => by cases hu
  | z :: zs, _, .cons r t, u, hu => by
    rcases List.mem_cons.mp hu with rfl | hu
    · obtain ⟨t, e⟩ := r
      exact ⟨z, t, List.mem_cons_self, e⟩
    · obtain ⟨z', t', h1, h2⟩ := vals_str t u hu
      exact ⟨z', t', List.mem_cons_of_mem _ h1, h2⟩
/-- x in a tuple of texts, x a list, a tuple, a dict -/
def rInN (K : PySem.W.Frag) : R2 := fun x y H Q => ∃ (p : Addr) (zs : List Str), y = .ref p ∧ SqT K H p (zs.map V.str) ∧ NoText K H x ∧ Q (.bl false) H
theorem op_inN (hu : X.A.units + 1 < cLine) : OpR X (compareOp .In) (rInN X.K) := by
  intro pins s σ H x y v u Q I rx ry h
  obtain ⟨p, zs, rfl, hq, nt, q⟩ := h
  cases ry
  obtain ⟨its, r, pl, hz⟩ := I.tuple hq
  refine SeqAt.in_tupleAt (fun _ => false) (show s.heap.IsTuple p its.toArray from pl) (fun w hw => ?_) ⟨.bl _, H, I, rfl, ?_⟩
  · obtain ⟨z, t, _, rfl⟩ := vals_str r w (by simpa using hw)
    exact nt.eqAt I rx (show X.A.in1.units < cLine from hu) z t
  · rw [show its.toArray.any (fun _ => false) = false by simp]
    exact q
/-- x in a tuple of texts, x an instance with its own == that gives False for them -/
def rInI (K : PySem.W.Frag) (C : Addr) (sp : Sp) (E : XK) : R2 := fun x y H Q => ∃ (p : Addr) (zs : List Str) (a dx : Addr) (fs : List (Str × V)), y = .ref p ∧ SqT K H p (zs.map V.str) ∧ x = .ref a ∧ H a = some (.ins C dx fs) ∧
  (∀ z H1, z ∈ zs → Ext H H1 → sp [.ref a, .str z] H1 (fun v H2 => v = .bl false ∧ Ext H1 H2) E) ∧ ∀ H', Ext H H' → Q (.bl false) H'
theorem op_inI (hr : Room (n + 1) X.A) (M : OwnM X.K C "__eq__" f) (nf : PySem.W.subIn X.K (.ref C) (.type "str") = some false) (F : FnOk X.prog X.w X.K X.mg X.base CI n f fd ps sp) (hb : Binds X.K fd ps []) (hx : Passes CI X EI) : OpR X (compareOp .In) (rInI X.K C sp EI) := by
  intro pins s σ H x y v u Q I rx ry h
  obtain ⟨p, zs, a, dx, fs, rfl, hq, rfl, ha, hsp, q⟩ := h
  cases ry
  cases rx
  obtain ⟨its, r, pl, hz⟩ := I.tuple hq
  have sb : Sub X n X.A.in1 := Sub.in1 (⟨hr, rfl⟩ : Sub X (n + 1) X.A)
  refine MyN.in_none (fun s' => ∃ H', Inv X pins σ H' s' ∧ Ext H H') (show s.heap.IsTuple p its.toArray from pl) (fun w hw s' hJ => ?_) (fun s' hJ => ?_) ⟨H, I, Ext.rfl'⟩
  · obtain ⟨z, t, hz, rfl⟩ := vals_str r w (by simpa using hw)
    obtain ⟨H', I', x'⟩ := hJ
    have ha' := x' _ _ ha
    obtain ⟨mA, J, _⟩ := ins_get I'.hok ha'
    obtain ⟨od, J, _⟩ := J.look
    refine MyN.eqb_str_own sb.room.units0 I'.kIn J rfl nf M.at_ M.fn ?_
    refine wpAny_mono (run_sub sb F (envSub I' sb) hb hx I' (rv2 a (y := .str z) (u := .str z t) ⟨t, rfl⟩) (hsp z H' hz x')) (fun w2 s2 hq2 => ?_) fun _ _ z => z
    obtain ⟨y2, H2, I2, rz, rfl, x2⟩ := hq2
    cases rz
    exact ⟨false, rfl, rfl, H2, I2, x'.trans x2⟩
  · obtain ⟨H', I', x'⟩ := hJ
    exact ⟨.bl false, H', I', rfl, q H' x'⟩
end
end L2

namespace L2
open PySem PySem.Spec PyProof.Rows
/-- C(..) where __init__ may raise, wished for at the caller's slots -/
def tMakeS (C : Addr) (sp : Sp) (ws : List V) (W : L2.St → XK) (t : TA) : TE := fun σ H Q => t σ H fun vs H1 => ∀ x dx, H1 x = none → H1 dx = none → dx ≠ x →
  sp (.ref x :: (vs ++ ws)) (upd (upd H1 dx (.own x)) x (.ins C dx [])) (fun v H2 => v = .non ∧ Q (.ref x) H2) (W σ)
section
variable {X : Cx} {CI : CXT} {n : Nat} {fI C : Addr} {fd : FuncData} {ps : List Str} {sp : Sp} {ws : List V} {wu : List Value} {W : L2.St → XK} {x : Str} {p pos : Pos} {e : Expr} {es : List Expr} {t : TA}
theorem make_sub {pins : List (Addr × Obj)} {σ : L2.St} {H : Hp} {s : Shared} {Q : VK} {us : List Value} {vs : List V} {EW : XK} (M : Mk X.K C fI) (Fi : FnOk X.prog X.w X.K X.mg X.base CI n fI fd ps sp) (room : Room (n + 1) X.A)
    (bi : Binds X.K fd ps wu) (rw' : Vals ws wu) (let_ : PassesAt CI X σ EW) (I : Inv X pins σ H s) (rv : Vals vs us)
    (go : ∀ y dy, H y = none → H dy = none → dy ≠ y → sp (.ref y :: (vs ++ ws)) (upd (upd H dy (.own y)) y (.ins C dy [])) (fun v H2 => v = .non ∧ Q (.ref y) H2) EW) :
    wpAny (model X.prog X.w) X.A (call (.ref C) us) (EP X pins σ Q) X.xe s := by
  have want := go (s.heap.objs.size + 1) s.heap.objs.size (I.hok.fresh (Nat.le_succ _)) (I.hok.fresh (Nat.le_refl _)) (Nat.ne_of_lt (Nat.lt_succ_self _))
  have J := Inv.made (C := C) I
  have all : Vals (V.ref (s.heap.objs.size + 1) :: (vs ++ ws)) (Value.ref (s.heap.objs.size + 1) :: (us ++ wu)) := .cons rfl (rv.append rw')
  have many : (Value.ref (s.heap.objs.size + 1) :: us ++ wu).length = ps.length := all.length.symm.trans (Fi.len _ _ _ _ want)
  have ran := Fi.run _ X.stack _ _ ⟨Value.ref (s.heap.objs.size + 1) :: us, []⟩ _ _ _ EW (room.make C us []) (J.env0.make C us []) (bi _ _ J.kIn many) all want
  refine wpAny_call (make_map (f := fI) I.kIn M.makes M.init (beq_iff_eq.mp M.fn) (codeAny_mono ran ?_))
  rintro (er | fl) s' back
  · exact let_ pins _ _ er s' J back
  · cases fl with
    | ret u =>
      obtain ⟨v, H', J', ru, ⟨ev, q⟩⟩ := J.after back
      subst ev
      exact ⟨ru, .ref _, H', J', rfl, q⟩
    | next => exact back.elim
    | brk => exact back.elim
    | cont => exact back.elim
theorem pe_makeS (M : Mk X.K C fI) (Fi : FnOk X.prog X.w X.K X.mg X.base CI n fI fd ps sp) (room : Room (n + 1) X.A) (gl : Gl X x) (gm : X.mg x = some (.ref C)) (bi : Binds X.K fd ps wu) (rw' : Vals ws wu) (let_ : ∀ σ, PassesAt CI X σ (W σ))
    (ha : PA X (e :: es) t) (nd : (x == ("__debug__" : Str)) = false := by decide) (h1 : starEach (e :: es) X.env = (false, eval e X.env) :: starEach es X.env := by rfl) (h2 : (backTo pos (starEach es X.env)).any (·.1) = false := by rfl) :
    PE X (.Call (.Name x p) (e :: es) [] pos) (tMakeS C sp ws W t) :=
  ⟨fun pins s σ H Q I h => wpAny_Call_Name_kw (ld_glob I gl gm (PySem.W.callWith_K (h₀ := X.base) I.ok.mod.kin M.kp (thn (ha.run pos pins s σ H _ I h) fun _ _ ⟨_, _, I1, r, q⟩ => ⟨I1.kIn, make_sub M Fi room bi rw' (let_ σ) I1 r q⟩) h1 h2) nd)⟩
end
end L2

namespace L2
open PySem PySem.Spec PyProof.Rows
/-- a dict == a text -/
def rEqDS : R2 := fun x y H Q => ∃ a kvs z, x = .ref a ∧ y = .str z ∧ H a = some (.dK kvs) ∧ Q (.bl false) H
theorem op_eqDS {X : Cx} (hu : X.A.units < cLine) : OpR X (compareOp .Eq) rEqDS := by
  intro pins s σ H x y v u Q I rx ry h
  obtain ⟨a, kvs, z, rfl, rfl, ha, q⟩ := h
  cases rx
  obtain ⟨t, rfl⟩ := ry
  obtain ⟨_, _, vs, _, o, es, ep, h1, h2, h3, _⟩ := (show ObjOk X.prog X.w H s.heap a (.dK kvs) from I.hok a _ ha)
  show wpAny _ _ (richCompare .Eq (.ref a) (.str z t)) _ _ s
  exact SeqAt.rc_eq_decline_or (k := false) ⟨_, h1, h2.1⟩ (PySem.typeIs_str s z t) (by decide) F.sub_str_dict F.slot_dict_eq F.slot_str_eq_refl
    (fun _ hq => call_meets F.slot_dict_eq ⟨_, h1, h2.1⟩ F.entry_dict_eq (F.args_dict_eq_2 _ _) (MyN.dict_no_str z t a o h2.1) ⟨h1, hq⟩)
    (fun _ hq => call_meets F.slot_str_eq_refl (PySem.typeIs_str s z t) F.entry_str_eq (F.args_str_eq_2 _ _) (MyN.str_no_dict z t a o es ep h3) ⟨h1, hq⟩)
    (fun _ hq => wpAny_of_eq (rfl : isSame (.ref a) (.str z t) = pure false) hq) (.inr hu) ⟨.bl false, H, I, rfl, q⟩
end L2

namespace L2
open PySem
theorem SqT.extX {K : PySem.W.Frag} {H H' : Hp} {a : Addr} {xs : List V} (h : SqT K H a xs) (e : Ext H H') : SqT K H' a xs := SqT.ext h e
theorem TyX.ext {K : PySem.W.Frag} {H H' : Hp} {x : V} {t : Value} (h : TyX K H x t) (e : Ext H H') : TyX K H' x t := by
  cases h with
  | base h =>
    refine .base ?_
    cases h with
    | non => exact .non
    | bl x => exact .bl x
    | int i => exact .int i
    | str x => exact .str x
    | flt x => exact .flt x
    | lst z => exact .lst (e _ _ z)
    | frz z => exact .frz (e _ _ z)
    | tup z => exact .tup (e _ _ z)
    | dK z => exact .dK (e _ _ z)
    | dT z => exact .dT (e _ _ z)
    | ins z a b c d f => exact .ins (e _ _ z) a b c d f
  | byt b => exact .byt b
  | set z => exact .set (e _ _ z)
  | kList z c => exact .kList z c
  | kTuple z c => exact .kTuple z c
  | kDict z c => exact .kDict z c
  | fTuple z => exact .fTuple (e _ _ z)
  | fDict z => exact .fDict (e _ _ z)
/-- a place that was free may be written -/
theorem Ext.over {H H' : Hp} {D : Addr} {o : HO} (x : Ext H H') (h : H D = none) : Ext H (L2.upd H' D o) := fun a u e => by
  rw [upd_ne (ne_of_none e h)]
  exact x a u e
theorem tyx_lst {K : PySem.W.Frag} {H : Hp} {a : Addr} {xs : List V} (h : H a = some (.lst xs)) : TyX K H (.ref a) (.type "list") := .base (.lst h)
theorem tyx_tup {K : PySem.W.Frag} {H : Hp} {a : Addr} {xs : List V} (h : H a = some (.tup xs)) : TyX K H (.ref a) (.type "tuple") := .base (.tup h)
end L2
namespace My
open PySem PySem.Spec PyProof.Rows L2
abbrev sIsList : Stmt := top 6
abbrev sIsName : Stmt := top 7
theorem scIsList : FnScope ["thing"] ["thing"] (defScope sIsList) := ⟨rfl, rfl, rfl, by decide +kernel, rfl, by decide +kernel, by decide +kernel⟩
theorem scIsName : FnScope ["thing", "letter"] ["thing"] (defScope sIsName) := ⟨rfl, rfl, rfl, by decide +kernel, rfl, by decide +kernel, by decide +kernel⟩
theorem lcYes {σ : L2.St} {H : Hp} {A B : Hp → Prop} (h : A H) : tYes σ H (fun b H3 => if b = true then A H3 else B H3) := by
  show (if true = true then A H else B H)
  rw [if_pos rfl]
  exact h
def letters : Str := "abcdefghijklmnopqrstuvwxyz"
def signB (z : Str) : List Bool := z.cps.toList.map fun c => decide (c ∈ letters.cps.toList)
theorem sign_snoc {z : Str} {i c : Nat} (h : z.cps[i]? = some c) : (signB z).take i ++ [decide (c ∈ letters.cps.toList)] = (signB z).take (i + 1) := by
  have e : (signB z)[i]? = some (decide (c ∈ letters.cps.toList)) := by
    unfold signB
    rw [List.getElem?_map, Array.getElem?_toList, h]
    rfl
  rw [List.take_add_one, e]
  rfl
def nameB (z : Str) : Bool := decide ((1 : Int) ≤ z.length) && (decide ((z.length : Int) ≤ 8) && (signB z).all id)
/-- isinstance(x, (list, tuple)) -/
def spIsList (K : PySem.W.Frag) : Sp := fun vs H Q _ => ∃ x t b, vs = [x] ∧ TyX K H x t ∧ PySem.W.kitAny K t [.type "list", .type "tuple"] = some b ∧ ∀ H', Ext H H' → Q (.bl b) H'
/-- whether x is a name -/
def spIsName (K : PySem.W.Frag) : Sp := fun vs H Q _ => ∃ x, vs = [x] ∧ ((∃ z, x = .str z ∧ z.length ≤ sizeLine ∧ ∀ H', Ext H H' → Q (.bl (nameB z)) H') ∨ (∃ t, TyX K H x t ∧ PySem.W.kitOne K t (.type "str") = some false ∧ ∀ H', Ext H H' → Q (.bl false) H'))
section
variable {P : Program} {w : World} {K : PySem.W.Frag} {mg : Str → Option Value} {base : Heap} {f : Addr} {fd : FuncData}
theorem ok_isList (Fn : FnP K "is_list" sIsList f fd) (gI : mg "isinstance" = none) (gL : mg "list" = none) (gT : mg "tuple" = none) : FnOk P w K mg base CX0 1 f fd ["thing"] (spIsList K) := by
  refine Fn.ok scIsList (fun vs H Q E h => ?_) (fun cdv A outer s H vs Q E hr h => ⟨_, PSs.nox
    (pss_one (ps_ret (pe_callB call_isiT (by rfl) gI boot_isinstance (pa_cons (pv 0) (pa_cons (pe_tup (pa_cons (pe_bltn (v := .ty "list") (by rfl) gL boot_list rfl) (pa_cons (pe_bltn (v := .ty "tuple") (by rfl) gT boot_tuple rfl) pa_nil))) pa_nil))))), ?_⟩)
  · obtain ⟨x, t, b, rfl, _⟩ := h
    rfl
  · obtain ⟨x, t, b, rfl, ty, kt, q⟩ := h
    exact ⟨_, rfl, Nat.le_of_ble_eq_true rfl, fun p hp => ⟨x, p, [.ty "list", .ty "tuple"], t, _, b, rfl, upd_same, .cons (.ty _) (.cons (.ty _) .nil), ty.ext (Ext.upd hp), kt, q _ (Ext.upd hp)⟩⟩
theorem ok_isName (Fn : FnP K "is_name" sIsName f fd) (gI : mg "isinstance" = none) (gS : mg "str" = none) (gN : mg "len" = none) (gA : mg "all" = none) {t8 tL : Tok} (g8 : mg "LONGEST" = some (.int 8 t8)) (gL : mg "LETTERS" = some (.str letters tL)) :
    FnOk P w K mg base CX0 1 f fd ["thing"] (spIsName K) := by
  refine Fn.ok scIsName (fun vs H Q E h => ?_) (fun cdv A outer s H vs Q E hr h => ⟨_, PSs.nox
    (pss_cons (ps_if (PW.pt (pw_or (pt_not (pt_val (pe_callB call_isi (by rfl) gI boot_isinstance (pa_cons (pv 0) (pa_cons (pe_bltn (v := .ty "str") (by rfl) gS boot_str rfl) pa_nil)))))
        (pw_or1 (pt_not (pt_chain op_le op_le pe_int (pe_callB call_len (by rfl) gN boot_len (pa_cons (pv 0) pa_nil)) (pe_glob (v := .int 8) (by rfl) g8 ⟨_, rfl⟩)))))) (pss_one (ps_ret pe_bl)) pss_nil)
    (pss_one (ps_ret (pe_callB (cr_all rfl) (by rfl) gA boot_all (pa_cons (pe_lc (own := [("letter", 1)]) (g := gName 1) (tt := tYes) rfl scIsName.nd (pi_str (pv 0)) (blkOk_by (N := ["thing", "letter"]) (sc := defScope sIsName) (by decide +kernel))
      (fun _ _ _ _ _ => pg_name (i := 1) scIsName.nd rfl (Or.inl rfl)) (fun _ _ _ _ _ => pts_nil) (fun _ _ _ _ _ => pe_cmpR op_in_sign (pv 1) (pe_glob (v := .str letters) (by rfl) gL ⟨_, rfl⟩) (by rfl))) pa_nil))))), ?_⟩)
  · obtain ⟨x, rfl, _⟩ := h
    rfl
  · obtain ⟨x, rfl, h⟩ := h
    rcases h with ⟨z, rfl, hz, q⟩ | ⟨t, ty, kt, q⟩
    · refine ⟨_, rfl, .str z, .ty "str", .type "str", .type "str", true, rfl, .ty _, .base (.str _), kit_ty (by decide +kernel), true, rfl, ?_⟩
      refine iteF ?_
      refine ⟨_, rfl, .str z, z.length, rfl, ⟨hz, rfl⟩, _, _, rfl, rfl, _, rfl, ?_⟩
      refine ite2 (fun h1 => ?_) (fun h1 => ?_)
      · refine ⟨_, _, rfl, rfl, _, rfl, ?_⟩
        refine ite2 (fun h2 => ?_) (fun h2 => ?_)
        · have h2' : (!decide ((z.length : Int) ≤ 8)) = true := h2
          have q1 := q H Ext.rfl'
          have e : nameB z = false := by
            unfold nameB
            rw [show decide ((z.length : Int) ≤ 8) = false by simpa using h2', Bool.false_and, Bool.and_false]
          rw [e] at q1
          exact q1
        · have e2 : decide ((z.length : Int) ≤ 8) = true := by simpa using h2
          have e1 : decide ((1 : Int) ≤ z.length) = true := h1
          refine ⟨_, rfl, _, rfl, fun D hD => lc_it (walk_str (z := z)) (fun i H' => Ext H H' ∧ H' D = some (.lst (((signB z).take i).map V.bl))) ⟨Ext.upd hD, upd_same⟩ (fun _ _ _ _ => True.intro) ?_ ?_⟩
          · intro i x H1 H2 hi ⟨x1, l1⟩ hy
            obtain ⟨rfl, c, hc, rfl⟩ := hy
            refine ⟨rfl, ?_⟩
            refine lcYes ?_
            refine ⟨_, rfl, c, letters, rfl, rfl, _, l1, ?_, ?_, ?_⟩
            · rw [List.length_map, List.length_take]
              exact Nat.lt_of_le_of_lt (Nat.min_le_left _ _) (Nat.lt_of_lt_of_le hi hz)
            · exact x1.over hD
            · rw [upd_same, ← sign_snoc hc, List.map_append]
              rfl
          · intro H1 ⟨x1, l1⟩
            refine ⟨D, signB z, rfl, ?_, ?_⟩
            · have e : (signB z).take z.cps.size = signB z := by
                rw [List.take_of_length_le]
                unfold signB
                rw [List.length_map, Array.length_toList]
                exact Nat.le_refl _
              rw [e] at l1
              exact SqL.of l1
            · have e : nameB z = (signB z).all id := by
                unfold nameB
                rw [e1, e2, Bool.true_and, Bool.true_and]
              rw [← e]
              exact q H1 x1
      · have e1 : decide ((1 : Int) ≤ z.length) = false := by simpa using h1
        have e : nameB z = false := by
          unfold nameB
          rw [e1, Bool.false_and]
        have q1 := q H Ext.rfl'
        rw [e] at q1
        exact ⟨_, rfl, q1⟩
    · refine ⟨_, rfl, x, .ty "str", t, .type "str", false, rfl, .ty _, ty, kt, false, rfl, ?_⟩
      exact q _ Ext.rfl'
end
end My

namespace My
open PySem PySem.Spec PyProof.Rows L2
abbrev sWrongName : Stmt := top 9
theorem scWrongName : FnScope ["things", "at", "thing"] ["things"] (defScope sWrongName) := ⟨rfl, rfl, rfl, by decide +kernel, rfl, by decide +kernel, by decide +kernel⟩
/-- what may be told to is_name -/
def Thing (K : PySem.W.Frag) (H : Hp) (x : V) : Prop := (∃ z, x = .str z ∧ z.length ≤ sizeLine) ∨ ((∀ z, x ≠ .str z) ∧ ∃ t, TyX K H x t ∧ PySem.W.kitOne K t (.type "str") = some false)
theorem Thing.ext {K : PySem.W.Frag} {H H' : Hp} {x : V} (h : Thing K H x) (e : Ext H H') : Thing K H' x := by
  rcases h with h | ⟨n, t, ty, k⟩
  · exact .inl h
  · exact .inr ⟨n, t, ty.ext e, k⟩
def nameV : V → Bool
  | .str z => nameB z
  | _ => false
theorem nameV_flat {x : V} (h : nameV x = true) : flatV x = true := by
  cases x <;> first | rfl | exact absurd (show false = true from h) Bool.false_ne_true
/-- the i-th is no name or stood before -/
def badAt (xs : List V) (i : Nat) : Bool := match xs[i]? with
  | some y => !nameV y || inV y (xs.take i)
  | none => false
def SeqAt2 (K : PySem.W.Frag) (H : Hp) (a : Addr) (xs : List V) : Prop := SqL K H a xs ∨ SqT K H a xs
theorem SeqAt2.ext {K : PySem.W.Frag} {H H' : Hp} {a : Addr} {xs : List V} (h : SeqAt2 K H a xs) (e : Ext H H') : SeqAt2 K H' a xs := h.elim (fun z => .inl (z.ext e)) fun z => .inr (z.ext e)
/-- the first wrong one's place | None -/
def spWrongName (K : PySem.W.Frag) : Sp := fun vs H Q _ => ∃ a xs, vs = [.ref a] ∧ SeqAt2 K H a xs ∧ (∀ y ∈ xs, Thing K H y) ∧ (∀ H', Ext H H' → (∀ i, i < xs.length → badAt xs i = false) → Q .non H') ∧
  ∀ i H', Ext H H' → i < xs.length → badAt xs i = true → (∀ j, j < i → badAt xs j = false) → Q (.int (i : Nat)) H'
theorem cut_take {xs : List V} {i : Nat} (h : i < xs.length) : cutV xs none (some ((i : Nat) : Int)) = xs.take i := by
  unfold cutV
  rw [HT.sIx_none, HT.sIx_nat, Nat.min_eq_left (Nat.le_of_lt h), Nat.sub_zero, List.drop_zero]
theorem flat_take {xs : List V} {i : Nat} (hb : ∀ j, j < i → badAt xs j = false) : (xs.take i).all flatV = true := by
  rw [List.all_eq_true]
  intro y hy
  obtain ⟨j, hj, e⟩ := List.getElem_of_mem hy
  rw [List.length_take] at hj
  have h2 : xs[j]? = some y := by
    rw [List.getElem_take] at e
    rw [← e]
    exact List.getElem?_eq_getElem _
  have h3 := hb j (Nat.lt_of_lt_of_le hj (Nat.min_le_left _ _))
  unfold badAt at h3
  rw [h2] at h3
  have h4 : nameV y = true := by
    cases h5 : nameV y with
    | true => rfl
    | false =>
      rw [show (match some y with | some y => !nameV y || inV y (xs.take j) | none => false) = (!nameV y || inV y (xs.take j)) from rfl, h5] at h3
      exact absurd h3 (by simp)
  exact nameV_flat h4
section
variable {P : Program} {w : World} {K : PySem.W.Frag} {mg : Str → Option Value} {base : Heap} {f fN : Addr} {fd fdN : FuncData}
theorem ok_wrongName (Fn : FnP K "wrong_name" sWrongName f fd) (FN : FnOk P w K mg base CX0 1 fN fdN ["thing"] (spIsName K)) (gN : mg "is_name" = some (.ref fN)) (kN : PySem.W.keepIn K (.ref fN) = true) (bN : Binds K fdN ["thing"] []) (gE : mg "enumerate" = none) :
    FnOk P w K mg base CX0 2 f fd ["things"] (spWrongName K) := by
  refine Fn.ok scWrongName (fun vs H Q E h => ?_) (fun cdv A outer s H vs Q E hr h => ⟨_, PSs.nox
    (pss_cons (ps_for PassesOwn.never rfl (pi_enumS (by rfl) gE (pa_cons (pv 0) pa_nil)) (pg_tup rfl (pgs_cons (pg_name (i := 1) scWrongName.nd rfl (Or.inl rfl)) (pgs_cons (pg_name (i := 2) scWrongName.nd rfl (Or.inl rfl)) pgs_nil)))
      (pss_one (ps_if (PW.pt (pw_or (pt_not (pt_val (pe_call FN hr (by rfl) gN kN bN .nil pass0 (pa_cons (pv 2) pa_nil))))
        (pw_or1 (pt_cmpR op_in_seq (pv 2) (pe_slice (sl_list.or sl_tupA) (pv 0) po_none (po_some (pv 1))) (by rfl))))) (pss_one (ps_ret (pv 1))) pss_nil)))
    (pss_one (ps_ret pe_non))), ?_⟩)
  · obtain ⟨a, xs, rfl, _⟩ := h
    rfl
  · obtain ⟨a, xs, rfl, sq, th, q0, q1⟩ := h
    refine ⟨_, rfl, a, xs, rfl, ?_⟩
    rcases sq with sq | sq
    · refine .inl ⟨sq, ?_⟩
      refine for_it (walk_enum (xs := xs)) (fun i σ H' => Ext H H' ∧ (∃ u v, σ = [some (.ref a), u, v]) ∧ ∀ j, j < i → badAt xs j = false) ⟨Ext.rfl', ⟨none, none, rfl⟩, fun j hj => absurd hj (Nat.not_lt_zero _)⟩ (fun i σ H' _ p => sq.ext p.1) ?_ ?_
      · intro i x σ H1 H2 hi p y
        obtain ⟨x1, ⟨u, v, rfl⟩, hb⟩ := p
        obtain ⟨T, y1, y2, rfl, hT, rfl, e1, e2⟩ := y
        cases e1
        have e2 : xs[i]? = some y2 := e2
        have x2 : Ext H (upd H1 T (.tup [.int i, y2])) := x1.upd' hT
        refine ⟨T, _, rfl, SqT.of upd_same, rfl, _, _, rfl, _, _, rfl, rfl, ?_⟩
        have hmem : y2 ∈ xs := List.mem_of_getElem? e2
        have notbad : badAt xs i = false → ∀ j, j < i + 1 → badAt xs j = false := fun h j hj => by
          rcases Nat.lt_or_eq_of_le (Nat.le_of_lt_succ hj) with z | z
          · exact hb j z
          · rw [z]; exact h
        have eb : badAt xs i = (!nameV y2 || inV y2 (xs.take i)) := by
          unfold badAt
          rw [e2]
        have bad : badAt xs i = true → ∀ H', Ext H H' → Q (.int (i : Nat)) H' := fun h H' z => q1 i H' z hi h hb
        rcases th y2 hmem with ⟨z, rfl, hz⟩ | ⟨hns, t, ty, kt⟩
        · refine ⟨_, rfl, _, rfl, .inl ⟨z, rfl, hz, fun H3 x3 => ?_⟩⟩
          refine ⟨nameB z, rfl, ?_⟩
          have x13 : Ext H H3 := x2.trans x3
          cases hn : nameB z with
          | false =>
            exact ⟨_, rfl, bad (by rw [eb]; show (!nameB z || _) = true; rw [hn]; rfl) H3 x13⟩
          | true =>
            have fl := flat_take hb
            have cont : ∀ H4, Ext H H4 → (if inV (.str z) (xs.take i) = true then (∃ v, ([some (.ref a), some (.int (i : Nat)), some (.str z)] : L2.St)[1]? = some (some v) ∧ Q v H4) else Ext H H4 ∧ (∃ u v, ([some (.ref a), some (.int (i : Nat)), some (.str z)] : L2.St) = [some (.ref a), u, v]) ∧ ∀ j, j < i + 1 → badAt xs j = false) := fun H4 x4 => by
              cases hi2 : inV (.str z) (xs.take i) with
              | true => exact ⟨_, rfl, bad (by rw [eb, hi2, Bool.or_true]) H4 x4⟩
              | false => exact ⟨x4, ⟨_, _, rfl⟩, notbad (by rw [eb, hi2]; show (!nameB z || false) = false; rw [hn]; rfl)⟩
            refine ⟨_, rfl, _, rfl, _, rfl, _, rfl, .inl ⟨a, xs, rfl, sq.ext x13, fun p hp => ?_⟩⟩
            rw [cut_take hi]
            refine ⟨p, _, rfl, .inl (SqL.of upd_same), rfl, fl, _, rfl, ?_⟩
            exact cont _ (x13.upd' hp)
        · refine ⟨_, rfl, _, rfl, .inr ⟨t, ty.ext x2, kt, fun H3 x3 => ?_⟩⟩
          refine ⟨false, rfl, ?_⟩
          exact ⟨_, rfl, bad (by
            rw [eb]
            have e : nameV y2 = false := by
              cases y2 <;> first | rfl | exact absurd rfl (hns _)
            rw [e]; rfl) H3 (x2.trans x3)⟩
      · intro σ H1 p
        exact q0 H1 p.1 p.2.2
    · refine .inr ⟨sq, ?_⟩
      refine for_it (walk_enumT (xs := xs)) (fun i σ H' => Ext H H' ∧ (∃ u v, σ = [some (.ref a), u, v]) ∧ ∀ j, j < i → badAt xs j = false) ⟨Ext.rfl', ⟨none, none, rfl⟩, fun j hj => absurd hj (Nat.not_lt_zero _)⟩ (fun i σ H' _ p => sq.ext p.1) ?_ ?_
      · intro i x σ H1 H2 hi p y
        obtain ⟨x1, ⟨u, v, rfl⟩, hb⟩ := p
        obtain ⟨T, y1, y2, rfl, hT, rfl, e1, e2⟩ := y
        cases e1
        have e2 : xs[i]? = some y2 := e2
        have x2 : Ext H (upd H1 T (.tup [.int i, y2])) := x1.upd' hT
        refine ⟨T, _, rfl, SqT.of upd_same, rfl, _, _, rfl, _, _, rfl, rfl, ?_⟩
        have hmem : y2 ∈ xs := List.mem_of_getElem? e2
        have notbad : badAt xs i = false → ∀ j, j < i + 1 → badAt xs j = false := fun h j hj => by
          rcases Nat.lt_or_eq_of_le (Nat.le_of_lt_succ hj) with z | z
          · exact hb j z
          · rw [z]; exact h
        have eb : badAt xs i = (!nameV y2 || inV y2 (xs.take i)) := by
          unfold badAt
          rw [e2]
        have bad : badAt xs i = true → ∀ H', Ext H H' → Q (.int (i : Nat)) H' := fun h H' z => q1 i H' z hi h hb
        rcases th y2 hmem with ⟨z, rfl, hz⟩ | ⟨hns, t, ty, kt⟩
        · refine ⟨_, rfl, _, rfl, .inl ⟨z, rfl, hz, fun H3 x3 => ?_⟩⟩
          refine ⟨nameB z, rfl, ?_⟩
          have x13 : Ext H H3 := x2.trans x3
          cases hn : nameB z with
          | false =>
            exact ⟨_, rfl, bad (by rw [eb]; show (!nameB z || _) = true; rw [hn]; rfl) H3 x13⟩
          | true =>
            have fl := flat_take hb
            have cont : ∀ H4, Ext H H4 → (if inV (.str z) (xs.take i) = true then (∃ v, ([some (.ref a), some (.int (i : Nat)), some (.str z)] : L2.St)[1]? = some (some v) ∧ Q v H4) else Ext H H4 ∧ (∃ u v, ([some (.ref a), some (.int (i : Nat)), some (.str z)] : L2.St) = [some (.ref a), u, v]) ∧ ∀ j, j < i + 1 → badAt xs j = false) := fun H4 x4 => by
              cases hi2 : inV (.str z) (xs.take i) with
              | true => exact ⟨_, rfl, bad (by rw [eb, hi2, Bool.or_true]) H4 x4⟩
              | false => exact ⟨x4, ⟨_, _, rfl⟩, notbad (by rw [eb, hi2]; show (!nameB z || false) = false; rw [hn]; rfl)⟩
            refine ⟨_, rfl, _, rfl, _, rfl, _, rfl, .inr ⟨a, xs, rfl, sq.ext x13, fun hw => ?_, fun _ p hp => ?_⟩⟩
            · have h2 := hw.2
              rw [HT.sIx_nat, Nat.min_eq_left (Nat.le_of_lt hi)] at h2
              exact absurd hi (by omega)
            rw [cut_take hi]
            refine ⟨p, _, rfl, .inr (SqT.of upd_same), rfl, fl, _, rfl, ?_⟩
            exact cont _ (x13.upd' hp)
        · refine ⟨_, rfl, _, rfl, .inr ⟨t, ty.ext x2, kt, fun H3 x3 => ?_⟩⟩
          refine ⟨false, rfl, ?_⟩
          exact ⟨_, rfl, bad (by
            rw [eb]
            have e : nameV y2 = false := by
              cases y2 <;> first | rfl | exact absurd rfl (hns _)
            rw [e]; rfl) H3 (x2.trans x3)⟩
      · intro σ H1 p
        exact q0 H1 p.1 p.2.2
end
end My

namespace L2
open PySem
theorem tyx_sqL {K : PySem.W.Frag} {H : Hp} {a : Addr} {xs : List V} (h : SqL K H a xs) : TyX K H (.ref a) (.type "list") := by
  rcases h with (h | ⟨o, h⟩) | ⟨o, its, n, h1, h2, _⟩
  · exact .base (.lst h)
  · exact .base (.frz h)
  · exact .kList h1 h2
theorem tyx_sqT {K : PySem.W.Frag} {H : Hp} {a : Addr} {xs : List V} (h : SqT K H a xs) : TyX K H (.ref a) (.type "tuple") := by
  rcases h with (h | ⟨o, h⟩) | ⟨o, its, n, h1, h2, _⟩
  · exact .base (.tup h)
  · exact .fTuple h
  · exact .kTuple h1 h2
end L2
namespace My
open PySem PySem.Spec PyProof.Rows L2
abbrev sWrongPart : Stmt := top 10
theorem scWrongPart : FnScope ["folders", "things", "at"] ["folders", "things"] (defScope sWrongPart) := ⟨rfl, rfl, rfl, by decide +kernel, rfl, by decide +kernel, by decide +kernel⟩
def optV : Option Nat → V
  | none => .non
  | some i => .int (i : Nat)
def wrongOf (xs : List V) : Option Nat := (List.range xs.length).find? (badAt xs)
def spWN (K : PySem.W.Frag) : Sp := fun vs H Q _ => ∃ a xs, vs = [.ref a] ∧ SeqAt2 K H a xs ∧ (∀ y ∈ xs, Thing K H y) ∧ ∀ H', Ext H H' → Q (optV (wrongOf xs)) H'
theorem wrong_none {xs : List V} (h : ∀ i, i < xs.length → badAt xs i = false) : wrongOf xs = none := List.find?_range_eq_none.mpr fun i hi => by rw [h i hi]; rfl
theorem wrong_some {xs : List V} {i : Nat} (hi : i < xs.length) (h : badAt xs i = true) (h2 : ∀ j, j < i → badAt xs j = false) : wrongOf xs = some i := List.find?_range_eq_some.mpr ⟨h, List.mem_range.mpr hi, fun j hj => by rw [h2 j hj]; rfl⟩
theorem wn_imp {K : PySem.W.Frag} (vs : List V) (H : Hp) (Q : VK) (E : XK) (h : spWN K vs H Q E) : spWrongName K vs H Q E := by
  obtain ⟨a, xs, rfl, sq, th, q⟩ := h
  refine ⟨a, xs, rfl, sq, th, fun H' x h => ?_, fun i H' x hi h h2 => ?_⟩
  · have z := q H' x
    rw [wrong_none h] at z
    exact z
  · have z := q H' x
    rw [wrong_some hi h h2] at z
    exact z
/-- a list or a tuple of things, or neither -/
def Lk (K : PySem.W.Frag) (H : Hp) (x : V) : Option (List V) → Prop
  | some xs => ∃ a, x = .ref a ∧ SeqAt2 K H a xs ∧ ∀ y ∈ xs, Thing K H y
  | none => ∃ t, TyX K H x t ∧ PySem.W.kitAny K t [.type "list", .type "tuple"] = some false
theorem Lk.ext {K : PySem.W.Frag} {H H' : Hp} {x : V} {o : Option (List V)} (h : Lk K H x o) (e : Ext H H') : Lk K H' x o := by
  cases o with
  | none =>
    obtain ⟨t, ty, k⟩ := h
    exact ⟨t, ty.ext e, k⟩
  | some xs =>
    obtain ⟨a, rfl, sq, th⟩ := h
    exact ⟨a, rfl, sq.ext e, fun y hy => (th y hy).ext e⟩
theorem Lk.kit {K : PySem.W.Frag} {H : Hp} {x : V} {o : Option (List V)} (h : Lk K H x o) : ∃ t, TyX K H x t ∧ PySem.W.kitAny K t [.type "list", .type "tuple"] = some o.isSome := by
  cases o with
  | none => exact h
  | some xs =>
    obtain ⟨a, rfl, sq, _⟩ := h
    rcases sq with sq | sq
    · exact ⟨_, tyx_sqL sq, kitAny_cons (b := true) (kit_ty (by decide +kernel)) (fun z => nomatch z) (fun _ => rfl)⟩
    · exact ⟨_, tyx_sqT sq, kitAny_cons (b := false) (kit_ty (by decide +kernel)) (fun _ => kitAny_cons (b := true) (kit_ty (by decide +kernel)) (fun z => nomatch z) (fun _ => rfl)) (fun z => nomatch z)⟩
theorem kit_no {K : PySem.W.Frag} {a : String} (h1 : kitB a "list" = some false) (h2 : kitB a "tuple" = some false) : PySem.W.kitAny K (.type a) [.type "list", .type "tuple"] = some false :=
  kitAny_cons (b := false) (kit_ty h1) (fun _ => kitAny_cons (b := false) (kit_ty h2) (fun _ => kitAny_nil) (fun z => nomatch z)) (fun z => nomatch z)
/-- BadHouse's index | None -/
def partOf (o o' : Option (List V)) : Option Nat := match o with
  | none => some 0
  | some xs => if xs.length = 0 then some 0 else match o' with
    | some ys => wrongOf (xs ++ ys)
    | none => match wrongOf xs with
      | none => some xs.length
      | some i => some i
def spWrongPart (K : PySem.W.Frag) : Sp := fun vs H Q _ => ∃ x y o o', vs = [x, y] ∧ Lk K H x o ∧ Lk K H y o' ∧ (∀ xs ys, o = some xs → o' = some ys → (xs ++ ys).length ≤ sizeLine) ∧ ∀ H', Ext H H' → Q (optV (partOf o o')) H'
section
variable {P : Program} {w : World} {K : PySem.W.Frag} {mg : Str → Option Value} {base : Heap} {f fL fW : Addr} {fd fdL fdW : FuncData}
theorem ok_wrongPart (Fn : FnP K "wrong_part" sWrongPart f fd) (FL : FnOk P w K mg base CX0 1 fL fdL ["thing"] (spIsList K)) (gL : mg "is_list" = some (.ref fL)) (kL : PySem.W.keepIn K (.ref fL) = true) (bL : Binds K fdL ["thing"] [])
    (FW : FnOk P w K mg base CX0 2 fW fdW ["things"] (spWN K)) (gW : mg "wrong_name" = some (.ref fW)) (kW : PySem.W.keepIn K (.ref fW) = true) (bW : Binds K fdW ["things"] []) (gN : mg "len" = none) :
    FnOk P w K mg base CX0 3 f fd ["folders", "things"] (spWrongPart K) := by
  refine Fn.ok scWrongPart (fun vs H Q E h => ?_) (fun cdv A outer s H vs Q E hr h => ⟨_, PSs.nox
    (pss_cons (ps_if (PW.pt (pw_or (pt_not (pt_val (pe_call FL (hr.mono (by decide)) (by rfl) gL kL bL .nil pass0 (pa_cons (pv 0) pa_nil)))) (pw_or1 (pt_cmpR op_eq (pe_callB call_len (by rfl) gN boot_len (pa_cons (pv 0) pa_nil)) pe_int (nomark _))))) (pss_one (ps_ret pe_int)) pss_nil)
    (pss_cons (ps_if (pt_val (pe_call FL (hr.mono (by decide)) (by rfl) gL kL bL .nil pass0 (pa_cons (pv 1) pa_nil))) (pss_one (ps_ret (pe_call FW hr (by rfl) gW kW bW .nil pass0 (pa_cons (pe_lst (StX.pa_star (pv 0) (StX.pa_star (pv 1) pa_nil))) pa_nil)))) pss_nil)
    (pss_cons (ps_set (i := 2) scWrongPart.nd rfl (.inl rfl) (pe_call FW hr (by rfl) gW kW bW .nil pass0 (pa_cons (pv 0) pa_nil)))
    (pss_one (ps_ret (pe_ifExp (pt_cmpR op_isN (pv 2) pe_non (nomark _)) (pe_callB call_len (by rfl) gN boot_len (pa_cons (pv 0) pa_nil)) (pv 2))))))), ?_⟩)
  · obtain ⟨x, y, o, o', rfl, _⟩ := h
    rfl
  · obtain ⟨x, y, o, o', rfl, hx, hy, hz, q⟩ := h
    obtain ⟨tx, tyx, kx⟩ := hx.kit
    refine ⟨x, rfl, x, tx, _, rfl, tyx, kx, fun H1 x1 => ?_⟩
    refine ⟨_, rfl, ?_⟩
    cases o with
    | none => exact q H1 x1
    | some xs =>
      obtain ⟨a, rfl, sq, th⟩ := hx
      have sq1 := sq.ext x1
      refine iteF ?_
      refine ⟨_, rfl, _, xs.length, rfl, ?_, rfl, _, rfl, ?_⟩
      · exact sq1.elim (fun z => .inl ⟨_, z, rfl⟩) fun z => .inr ⟨_, z, rfl⟩
      refine ite2 (fun h0 => ?_) (fun h0 => ?_)
      · have e : partOf (some xs) o' = some 0 := if_pos (by simpa using h0)
        have z := q H1 x1
        rw [e] at z
        exact z
      · have n0 : ¬ xs.length = 0 := by simpa using h0
        obtain ⟨ty, tyy, ky⟩ := (hy.ext x1).kit
        refine ⟨y, rfl, y, ty, _, rfl, tyy, ky, fun H2 x2 => ?_⟩
        refine ⟨_, rfl, ?_⟩
        have sq2 := sq1.ext x2
        have th2 : ∀ z ∈ xs, Thing K H2 z := fun z hz => ((th z hz).ext x1).ext x2
        cases o' with
        | some ys =>
          obtain ⟨b, rfl, sqy, thy⟩ := hy
          have sy2 := (sqy.ext x1).ext x2
          refine iteT ?_
          refine ⟨_, rfl, a, xs, rfl, sq2.symm, _, rfl, b, ys, rfl, sy2.symm, ?_⟩
          have hlen := hz xs ys rfl rfl
          refine ⟨(show (xs ++ (ys ++ [])).length ≤ sizeLine by rw [List.append_nil]; exact hlen), fun p hp => ⟨p, xs ++ ys, rfl, .inl (SqL.of (by rw [upd_same, List.append_nil])), fun z hz => ?_, fun H3 x3 => ?_⟩⟩
          · refine Thing.ext ?_ (Ext.upd hp)
            rcases List.mem_append.mp hz with hz | hz
            · exact th2 z hz
            · exact ((thy z hz).ext x1).ext x2
          · have e : partOf (some xs) (some ys) = wrongOf (xs ++ ys) := if_neg n0
            rw [← e]
            exact q H3 (((x1.trans x2).upd' hp).trans x3)
        | none =>
          refine iteF ?_
          refine ⟨_, rfl, a, xs, rfl, sq2, th2, fun H3 x3 => ?_⟩
          have z := q H3 ((x1.trans x2).trans x3)
          refine ⟨_, rfl, rfl, _, rfl, ?_⟩
          cases hw : wrongOf xs with
          | none =>
            have e : partOf (some xs) none = some xs.length := by
              show (if xs.length = 0 then some 0 else match wrongOf xs with | none => some xs.length | some i => some i) = _
              rw [if_neg n0, hw]
            rw [e] at z
            refine iteT ?_
            exact ⟨_, rfl, _, xs.length, rfl, (sq2.ext x3).elim (fun z => .inl ⟨_, z, rfl⟩) (fun z => .inr ⟨_, z, rfl⟩), z⟩
          | some i =>
            have e : partOf (some xs) none = some i := by
              show (if xs.length = 0 then some 0 else match wrongOf xs with | none => some xs.length | some i => some i) = _
              rw [if_neg n0, hw]
            rw [e] at z
            refine iteF ?_
            exact ⟨_, rfl, z⟩
end
end My

namespace My
open PySem PySem.Spec PyProof.Rows L2
def inCls (s : Stmt) (i : Nat) : Stmt := match s with
  | .ClassDef (body := b) .. => b.getD i (.Pass ⟨0, 0, 0, 0⟩)
  | _ => .Pass ⟨0, 0, 0, 0⟩
abbrev sHInit : Stmt := inCls (top 11) 0
abbrev sHLen : Stmt := inCls (top 11) 1
abbrev sHHas : Stmt := inCls (top 11) 2
abbrev sHIter : Stmt := inCls (top 11) 3
abbrev sHEq : Stmt := inCls (top 11) 4
theorem scHInit : FnScope ["self", "folders", "things", "at"] ["self", "folders", "things"] (defScope sHInit) := ⟨rfl, rfl, rfl, by decide +kernel, rfl, by decide +kernel, by decide +kernel⟩
theorem scHLen : FnScope ["self"] ["self"] (defScope sHLen) := ⟨rfl, rfl, rfl, by decide +kernel, rfl, by decide +kernel, by decide +kernel⟩
theorem scHHas : FnScope ["self", "x"] ["self", "x"] (defScope sHHas) := ⟨rfl, rfl, rfl, by decide +kernel, rfl, by decide +kernel, by decide +kernel⟩
theorem scHIter : FnScope ["self"] ["self"] (defScope sHIter) := ⟨rfl, rfl, rfl, by decide +kernel, rfl, by decide +kernel, by decide +kernel⟩
theorem scHEq : FnScope ["self", "other"] ["self", "other"] (defScope sHEq) := ⟨rfl, rfl, rfl, by decide +kernel, rfl, by decide +kernel, by decide +kernel⟩
/-- a house stands at a: its folders, its things -/
def HouseAt (H : Hp) (K : PySem.W.Frag) (C a : Addr) (fo th : List V) : Prop := ∃ dx fs f t n, H a = some (.ins C dx fs) ∧ fs.lookup ("folders" : Str) = some (V.ref f) ∧ fs.lookup ("things" : Str) = some (V.ref t) ∧ fs.lookup ("nodes" : Str) = some (V.ref n) ∧
  SqT K H f fo ∧ SqT K H t th ∧ SqT K H n (fo ++ th)
theorem HouseAt.ext {H H' : Hp} {K : PySem.W.Frag} {C a : Addr} {fo th : List V} (h : HouseAt H K C a fo th) (e : Ext H H') : HouseAt H' K C a fo th := by
  obtain ⟨dx, fs, f, t, n, h1, h2, h3, h4, h5, h6, h7⟩ := h
  exact ⟨dx, fs, f, t, n, e _ _ h1, h2, h3, h4, h5.ext e, h6.ext e, h7.ext e⟩
/-- what the written part says of the class -/
structure HouC (K : PySem.W.Frag) (C : Addr) : Prop where
  cl : Cls K C
  nf : NoAttr K C "folders"
  nt : NoAttr K C "things"
  nn : NoAttr K C "nodes"
  ha : PySem.W.findIn K (.ref C) "__class__" = some (some (.builtin "object.__class__"))
  hn : PySem.W.specialIn K (.builtin "object.__class__") "__get__" = some (some (.builtin "getset_descriptor.__get__"))
  htk : PySem.W.takesIn K (.builtin "object.__class__") = some true
  hm : PySem.W.mroIn K C (.type "object") = some true
/-- all but what stands at a stays -/
def But (H H' : Hp) (a : Addr) : Prop := ∀ b u, b ≠ a → H b = some u → H' b = some u
theorem ext_but {H H' : Hp} {a : Addr} (e : Ext H H') : But H H' a := fun b u _ k => e b u k
theorem But.trans {H H1 H2 : Hp} {a : Addr} (x : But H H1 a) (y : But H1 H2 a) : But H H2 a := fun b u n k => y b u n (x b u n k)
theorem But.upd {H H1 : Hp} {a : Addr} {o : HO} (x : But H H1 a) : But H (L2.upd H1 a o) a := fun b u n k => by
  rw [upd_ne n]
  exact x b u n k
theorem sqT_but {K : PySem.W.Frag} {H H' : Hp} {a C dx f : Addr} {fs : List (Str × V)} {xs : List V} (h : SqT K H f xs) (b : But H H' a) (ha : H a = some (.ins C dx fs)) : SqT K H' f xs := by
  rcases h with (h | ⟨o, h⟩) | h
  · exact .inl (.inl (b _ _ (ne_of h ha (fun z => nomatch z)) h))
  · exact .inl (.inr ⟨o, b _ _ (ne_of h ha (fun z => nomatch z)) h⟩)
  · exact .inr h
theorem sqL_but {K : PySem.W.Frag} {H H' : Hp} {a C dx f : Addr} {fs : List (Str × V)} {xs : List V} (h : SqL K H f xs) (b : But H H' a) (ha : H a = some (.ins C dx fs)) : SqL K H' f xs := by
  rcases h with (h | ⟨o, h⟩) | h
  · exact .inl (.inl (b _ _ (ne_of h ha (fun z => nomatch z)) h))
  · exact .inl (.inr ⟨o, b _ _ (ne_of h ha (fun z => nomatch z)) h⟩)
  · exact .inr h
/-- tuple(a) -/
theorem tup_of {K : PySem.W.Frag} {H : Hp} {a : Addr} {xs : List V} {Q : VK} (sq : SeqAt2 K H a xs) (q : ∀ t H', Ext H H' → SqT K H' t xs → Q (.ref t) H') :
    ∃ p ys, [V.ref a] = [.ref p] ∧ ((SqL K H p ys ∧ ∀ l, H l = none → Q (.ref l) (L2.upd H l (.tup ys))) ∨ (SqT K H p ys ∧ Q (.ref p) H)) := by
  rcases sq with sq | sq
  · exact ⟨a, xs, rfl, .inl ⟨sq, fun l hl => q l _ (Ext.upd hl) (SqT.of upd_same)⟩⟩
  · exact ⟨a, xs, rfl, .inr ⟨sq, q a H Ext.rfl' sq⟩⟩
/-- a + b, tuples -/
theorem cat_of {K : PySem.W.Frag} {H : Hp} {a b : Addr} {xs ys : List V} {Q : VK} (h1 : SqT K H a xs) (h2 : SqT K H b ys) (hz : (xs ++ ys).length ≤ sizeLine) (q : ∀ t H', Ext H H' → SqT K H' t (xs ++ ys) → Q (.ref t) H') : rCatA K (.ref a) (.ref b) H Q := by
  refine ⟨a, b, xs, ys, rfl, rfl, h1, h2, by rw [← List.length_append]; exact hz, fun e => ?_, fun _ e => ?_, fun _ _ p hp => q p _ (Ext.upd hp) (SqT.of upd_same)⟩
  · subst e
    exact q b H Ext.rfl' h2
  · subst e
    exact q a H Ext.rfl' (by rw [List.append_nil]; exact h1)
def rTup (K : PySem.W.Frag) : List V → Hp → VK → Prop := fun xs H Q => ∃ a zs, xs = [.ref a] ∧ SeqAt2 K H a zs ∧ ∀ t H', Ext H H' → SqT K H' t zs → Q (.ref t) H'
theorem call_tup {X : Cx} : CallR X (.type "tuple") (rTup X.K) := by
  intro pins s σ H xs us Q I rv h
  obtain ⟨a, zs, rfl, sq, q⟩ := h
  exact call_tuple_of pins s σ H _ us Q I rv (tup_of sq q)
def rCat (K : PySem.W.Frag) : R2 := fun x y H Q => ∃ a b xs ys, x = .ref a ∧ y = .ref b ∧ SqT K H a xs ∧ SqT K H b ys ∧ (xs ++ ys).length ≤ sizeLine ∧ ∀ t H', Ext H H' → SqT K H' t (xs ++ ys) → Q (.ref t) H'
theorem op_cat {X : Cx} : OpR X (binaryOp .Add) (rCat X.K) := by
  intro pins s σ H x y v u Q I rx ry h
  obtain ⟨a, b, xs, ys, rfl, rfl, h1, h2, hz, q⟩ := h
  exact op_catA pins s σ H _ _ v u Q I rx ry (cat_of h1 h2 hz q)
/-- House.__init__ -/
def spHInit (K : PySem.W.Frag) (C CB : Addr) : Sp := fun vs H Q E => ∃ a dx x y o o', vs = [.ref a, x, y] ∧ H a = some (.ins C dx []) ∧ Lk K H x o ∧ Lk K H y o' ∧ (∀ xs ys, o = some xs → o' = some ys → (xs ++ ys).length ≤ sizeLine) ∧
  (∀ xs ys H', o = some xs → o' = some ys → partOf o o' = none → But H H' a → HouseAt H' K C a xs ys → Q .non H') ∧
  ∀ i d H', partOf o o' = some i → Ext H H' → H d = none → H' d = some (.xd [(("index" : Str), V.int (i : Nat))]) → E (.ref CB) (some d) H'
theorem part_some {o o' : Option (List V)} (h : partOf o o' = none) : ∃ xs ys, o = some xs ∧ o' = some ys := by
  cases o with
  | none => cases h
  | some xs =>
    cases o' with
    | some ys => exact ⟨xs, ys, rfl, rfl⟩
    | none =>
      unfold partOf at h
      split at h
      · cases h
      · rename_i z
        cases z
        split at h
        · cases h
        · split at h
          · rename_i z
            cases z
          · split at h <;> cases h
section
variable {P : Program} {w : World} {K : PySem.W.Frag} {mg : Str → Option Value} {base : Heap} {f fW C CB : Addr} {fd fdW : FuncData} {dvs : List V}
theorem ok_hInit (Fn : FunD K "__init__" "House.__init__" (defArgs sHInit) (defBody sHInit) (defScope sHInit) dvs [] f fd) (T : HouC K C) (FW : FnOk P w K mg base CX0 3 fW fdW ["folders", "things"] (spWrongPart K)) (gW : mg "wrong_part" = some (.ref fW)) (kW : PySem.W.keepIn K (.ref fW) = true) (bW : Binds K fdW ["folders", "things"] [])
    (EB : Er P w K mg base "BadHouse" "index" CB) (gT : mg "tuple" = none) :
    FnOk P w K mg base (L2.CX P w) 4 f fd ["self", "folders", "things"] (spHInit K C CB) := by
  obtain ⟨fI, fdI, TB, FB, bB, _⟩ := EB
  refine Fn.ok scHInit (fun vs H Q E h => ?_) (fun cdv A outer s H vs Q E hr h => ⟨_,
    (pss_cons (ps_set (i := 3) scHInit.nd rfl (.inl rfl) (pe_call FW hr (by rfl) gW kW bW .nil pass0 (pa_cons (pv 1) (pa_cons (pv 2) pa_nil))))
    (pss_cons (ps_if (pt_cmpR op_notN (pv 3) pe_non (nomark _)) (pss_one (ps_raise rfl (takes_of rfl rfl rfl rfl) (pmk_oex TB.oex TB.iC TB.tI FB (hr.mono (by decide)) bB .nil pass0 (by rfl) TB.gl (pa_cons (pv 3) pa_nil)))) pss_nil)
    (pss_cons (ps_fld (pv 0) (pe_callTy call_tup (by rfl) gT (by decide +kernel) (pa_cons (pv 1) pa_nil)) rfl)
    (pss_cons (ps_fld (pv 0) (pe_callTy call_tup (by rfl) gT (by decide +kernel) (pa_cons (pv 2) pa_nil)) rfl)
    (pss_one (ps_fld (pv 0) (pe_op op_cat (pe_fld (pv 0) rfl) (pe_fld (pv 0) rfl)) rfl)))))), ?_⟩)
  · obtain ⟨a, dx, x, y, o, o', rfl, _⟩ := h
    rfl
  · obtain ⟨a, dx, x, y, o, o', rfl, ha, hx, hy, hz, qn, qe⟩ := h
    refine ⟨_, rfl, _, rfl, x, y, o, o', rfl, hx, hy, hz, fun H1 x1 => ?_⟩
    refine ⟨_, rfl, rfl, _, rfl, ?_⟩
    cases hp : partOf o o' with
    | some i =>
      refine iteT ?_
      refine ⟨_, rfl, Nat.le_of_ble_eq_true rfl, fun e he => ?_⟩
      refine ⟨e, _, rfl, upd_same, fun d hd ne => ⟨rfl, d, [("index", optV (some i))], upd_same, ?_, ?_, ?_⟩⟩
      · rw [upd_ne ne, upd_same]
      · rw [upd_ne ne] at hd
        exact hd
      · rw [upd_ne ne] at hd
        refine qe i d _ hp (fun b u k => ?_) ?_ upd_same
        · have k1 := x1 b u k
          rw [upd_ne (ne_of_none k1 hd), del_ne (ne_of_none k1 he), upd_ne (ne_of_none k1 he), upd_ne (ne_of_none k1 hd), upd_ne (ne_of_none k1 he)]
          exact k1
        · cases hh : H d with
          | none => rfl
          | some u => exact absurd (x1 d u hh) (by rw [hd]; exact fun z => nomatch z)
    | none =>
      refine iteF ?_
      obtain ⟨xs, ys, rfl, rfl⟩ := part_some hp
      obtain ⟨ax, rfl, sqx, _⟩ := hx
      obtain ⟨ay, rfl, sqy, _⟩ := hy
      have hz' := hz xs ys rfl rfl
      refine ⟨_, rfl, ax, xs, rfl, sqx.ext x1, fun t2 H2 x2 s2 => ?_⟩
      have a2 : H2 a = some (.ins C dx []) := x2 _ _ (x1 _ _ ha)
      refine ⟨_, rfl, a, C, dx, _, rfl, a2, T.cl, T.nf, Nat.le_of_ble_eq_true rfl, ?_⟩
      obtain ⟨H3, hH3⟩ : ∃ H3, H3 = L2.upd H2 a (.ins C dx (putF "folders" (.ref t2) [])) := ⟨_, rfl⟩
      rw [← hH3]
      have a3 : H3 a = some (.ins C dx (putF "folders" (.ref t2) [])) := by rw [hH3, upd_same]
      have b3 : But H2 H3 a := by
        rw [hH3]
        exact But.upd (ext_but Ext.rfl')
      have b03 : But H H3 a := (ext_but (x1.trans x2)).trans b3
      have sqy3 : SeqAt2 K H3 ay ys := sqy.elim (fun z => .inl (sqL_but z b03 ha)) fun z => .inr (sqT_but z b03 ha)
      refine ⟨_, rfl, ay, ys, rfl, sqy3, fun t4 H4 x4 s4 => ?_⟩
      refine ⟨_, rfl, a, C, dx, _, rfl, x4 _ _ a3, T.cl, T.nt, Nat.le_of_ble_eq_true rfl, ?_⟩
      obtain ⟨H5, hH5⟩ : ∃ H5, H5 = L2.upd H4 a (.ins C dx (putF "things" (.ref t4) (putF "folders" (.ref t2) []))) := ⟨_, rfl⟩
      rw [← hH5]
      have a5 : H5 a = some (.ins C dx (putF "things" (.ref t4) (putF "folders" (.ref t2) []))) := by rw [hH5, upd_same]
      have b5 : But H4 H5 a := by
        rw [hH5]
        exact But.upd (ext_but Ext.rfl')
      have s2' : SqT K H5 t2 xs := sqT_but (sqT_but s2 (b3.trans (ext_but x4)) a2) b5 (x4 _ _ a3)
      have s4' : SqT K H5 t4 ys := sqT_but s4 b5 (x4 _ _ a3)
      refine ⟨_, rfl, a, C, dx, _, _, rfl, a5, T.cl, T.nf, rfl, _, rfl, a, C, dx, _, _, rfl, a5, T.cl, T.nt, rfl, t2, t4, xs, ys, rfl, rfl, s2', s4', hz', fun t6 H6 x6 s6 => ?_⟩
      refine ⟨_, rfl, a, C, dx, _, rfl, x6 _ _ a5, T.cl, T.nn, Nat.le_of_ble_eq_true rfl, ?_⟩
      obtain ⟨H7, hH7⟩ : ∃ H7, H7 = L2.upd H6 a (.ins C dx (putF "nodes" (.ref t6) (putF "things" (.ref t4) (putF "folders" (.ref t2) [])))) := ⟨_, rfl⟩
      rw [← hH7]
      have b7 : But H6 H7 a := by
        rw [hH7]
        exact But.upd (ext_but Ext.rfl')
      have a6 := x6 _ _ a5
      refine qn xs ys H7 rfl rfl hp (((b03.trans (ext_but x4)).trans b5).trans ((ext_but x6).trans b7)) ?_
      exact ⟨dx, _, t2, t4, t6, by rw [hH7, upd_same], rfl, rfl, rfl, sqT_but (s2'.ext x6) b7 a6, sqT_but (s4'.ext x6) b7 a6, sqT_but s6 b7 a6⟩
end
end My

namespace My
open PySem PySem.Spec PyProof.Rows L2
/-! ### tuples and lists of texts as data -/
theorem dpAll_str {K : PySem.W.Frag} {H : Hp} : ∀ zs : List Str, DpAll K H (zs.map V.str) (zs.map PyData.str)
  | [] => .nil
  | z :: zs => .cons (.str z) (dpAll_str zs)
def OkS (zs : List Str) : Prop := ∀ z, z ∈ zs → PyData.strOk z = true
theorem canLay_str : ∀ zs : List Str, OkS zs → PyData.canLayAll0 (zs.map PyData.str) = true
  | [], _ => rfl
  | z :: zs, h => by
    show (PyData.strOk z && PyData.canLayAll0 (zs.map PyData.str)) = true
    rw [canLay_str zs fun y hy => h y (List.mem_cons_of_mem _ hy), h z List.mem_cons_self]
    rfl
theorem depths_str : ∀ zs : List Str, PyData.depthAll (zs.map PyData.str) ≤ 1
  | [] => Nat.zero_le _
  | z :: zs => Nat.max_le.mpr ⟨Nat.le_of_ble_eq_true rfl, depths_str zs⟩
theorem shaped_strT (zs : List Str) (h0 : OkS zs) : SeqAt.shaped (.tuple (zs.map PyData.str)) = true := by
  refine Bool.and_eq_true_iff.mpr ⟨canLay_str zs h0, decide_eq_true ?_⟩
  have h := depths_str zs
  show PyData.depthAll (zs.map PyData.str) + 1 ≤ 64
  omega
theorem shaped_strL (zs : List Str) (h0 : OkS zs) : SeqAt.shaped (.list (zs.map PyData.str)) = true := by
  refine Bool.and_eq_true_iff.mpr ⟨canLay_str zs h0, decide_eq_true ?_⟩
  have h := depths_str zs
  show PyData.depthAll (zs.map PyData.str) + 1 ≤ 64
  omega
theorem eqvAll_str : ∀ zs ws : List Str, PyData.eqvAll (zs.map PyData.str) (ws.map PyData.str) = decide (zs = ws)
  | [], [] => rfl
  | [], _ :: _ => rfl
  | _ :: _, [] => rfl
  | z :: zs, w :: ws => by
    show (PyData.eqv (.str z) (.str w) && PyData.eqvAll (zs.map PyData.str) (ws.map PyData.str)) = _
    rw [eqvAll_str zs ws]
    show ((z == w) && decide (zs = ws)) = _
    by_cases h : z = w
    · subst h
      simp
    · simp [h]
theorem eqv_strT (zs ws : List Str) : PyData.eqv (.tuple (zs.map PyData.str)) (.tuple (ws.map PyData.str)) = decide (zs = ws) := eqvAll_str zs ws
/-- a house of names -/
def Hou (H : Hp) (K : PySem.W.Frag) (C a : Addr) (fo th : List Str) : Prop := HouseAt H K C a (fo.map V.str) (th.map V.str) ∧ OkS fo ∧ OkS th
theorem Hou.ext {H H' : Hp} {K : PySem.W.Frag} {C a : Addr} {fo th : List Str} (h : Hou H K C a fo th) (e : Ext H H') : Hou H' K C a fo th := ⟨HouseAt.ext h.1 e, h.2⟩
theorem Hou.ins {H : Hp} {K : PySem.W.Frag} {C a : Addr} {fo th : List Str} (h : Hou H K C a fo th) : ∃ dx fs, H a = some (.ins C dx fs) := by
  obtain ⟨⟨dx, fs, _, _, _, h1, _⟩, _⟩ := h
  exact ⟨dx, fs, h1⟩
def spHLen (K : PySem.W.Frag) (C : Addr) : Sp := fun vs H Q _ => ∃ a fo th, vs = [.ref a] ∧ Hou H K C a fo th ∧ Q (.int ((fo ++ th).length : Nat)) H
def spHEq (K : PySem.W.Frag) (C : Addr) : Sp := fun vs H Q _ => ∃ a fo th y, vs = [.ref a, y] ∧ Hou H K C a fo th ∧ ((∃ t, TyX K H y t ∧ PySem.W.kitOne K t (.ref C) = some false ∧ Q (.bl false) H) ∨
  ∃ b fo2 th2, y = .ref b ∧ Hou H K C b fo2 th2 ∧ Q (.bl (decide (fo = fo2) && decide (th = th2))) H)
def spHHas (K : PySem.W.Frag) (C : Addr) : Sp := fun vs H Q _ => ∃ a fo th y, vs = [.ref a, y] ∧ Hou H K C a fo th ∧ ((flatV y = true ∧ Q (.bl (inV y ((fo ++ th).map V.str))) H) ∨ (NoText K H y ∧ Q (.bl false) H) ∨
  ∃ b fo2 th2, y = .ref b ∧ Hou H K C b fo2 th2 ∧ ∀ H', Ext H H' → Q (.bl false) H')
theorem tyH {K : PySem.W.Frag} {H : Hp} {C a : Addr} {fo th : List Str} (T : HouC K C) (h : Hou H K C a fo th) : TyX K H (.ref a) (.ref C) := by
  obtain ⟨dx, fs, e⟩ := h.ins
  exact .base (.ins e T.cl T.ha T.hn T.htk T.hm)
section
variable {P : Program} {w : World} {K : PySem.W.Frag} {mg : Str → Option Value} {base : Heap} {f fE C : Addr} {fd fdE : FuncData}
theorem ok_hLen (Fn : FunD K "__len__" "House.__len__" (defArgs sHLen) (defBody sHLen) (defScope sHLen) [] [] f fd) (T : HouC K C) (gN : mg "len" = none) : FnOk P w K mg base CX0 1 f fd ["self"] (spHLen K C) := by
  refine Fn.ok scHLen (fun vs H Q E h => ?_) (fun cdv A outer s H vs Q E hr h => ⟨_, PSs.nox (pss_one (ps_ret (pe_callB call_len (by rfl) gN boot_len (pa_cons (pe_fld (pv 0) rfl) pa_nil)))), ?_⟩)
  · obtain ⟨a, fo, th, rfl, _⟩ := h
    rfl
  · obtain ⟨a, fo, th, rfl, ⟨⟨dx, fs, f, t, n, h1, h2, h3, h4, h5, h6, h7⟩, ok1, ok2⟩, q⟩ := h
    refine ⟨_, rfl, a, C, dx, fs, _, rfl, h1, T.cl, T.nn, h4, _, _, rfl, .inr ⟨_, h7, rfl⟩, ?_⟩
    rw [← List.map_append, List.length_map]
    exact q
theorem ok_hIter (Fn : FunD K "__iter__" "House.__iter__" (defArgs sHIter) (defBody sHIter) (defScope sHIter) [] [] f fd) (T : HouC K C) (gI : mg "iter" = none) : FnOk P w K mg base CX0 1 f fd ["self"] (spIter K C "nodes" base.objs.size) := by
  refine Fn.ok scHIter (fun vs H Q E h => ?_) (fun cdv A outer s H vs Q E hr h => ⟨_, PSs.nox (pss_one (ps_ret (pe_callB call_iterT (by rfl) gI boot_iter (pa_cons (pe_fld (pv 0) rfl) pa_nil)))), ?_⟩)
  · obtain ⟨a, _, _, _, _, rfl, _⟩ := h
    rfl
  · obtain ⟨a, dx, fs, l, zs, rfl, h1, h2, h3, q⟩ := h
    exact ⟨_, rfl, a, C, dx, fs, _, rfl, h1, T.cl, T.nn, h2, l, zs, rfl, h3, q⟩
theorem ok_hEq (Fn : FunD K "__eq__" "House.__eq__" (defArgs sHEq) (defBody sHEq) (defScope sHEq) [] [] f fd) (T : HouC K C) (gI : mg "isinstance" = none) (gH : mg "House" = some (.ref C)) (kC : PySem.W.kitOne K (.ref C) (.ref C) = some true) :
    FnOk P w K mg base CX0 1 f fd ["self", "other"] (spHEq K C) := by
  refine Fn.ok scHEq (fun vs H Q E h => ?_) (fun cdv A outer s H vs Q E hr h => ⟨_, PSs.nox (pss_one (ps_ret
    (pe_and (pe_callB call_isi (by rfl) gI boot_isinstance (pa_cons (pv 1) (pa_cons (pe_glob (v := .ref C) (by rfl) gH rfl) pa_nil)))
    (pe_and (pe_cmpR (op_eqD hr.units) (pe_fld (pv 0) rfl) (pe_fld (pv 1) rfl) (nomark _))
    (pe_one (pe_cmpR (op_eqD hr.units) (pe_fld (pv 0) rfl) (pe_fld (pv 1) rfl) (nomark _))))))), ?_⟩)
  · obtain ⟨a, _, _, _, rfl, _⟩ := h
    rfl
  · obtain ⟨a, fo, th, y, rfl, ho, h⟩ := h
    rcases h with ⟨t, ty, kt, q⟩ | ⟨b, fo2, th2, rfl, ho2, q⟩
    · refine ⟨_, rfl, y, .ref C, t, .ref C, false, rfl, .own C, ty, kt, false, rfl, ?_⟩
      exact q
    · refine ⟨_, rfl, .ref b, .ref C, .ref C, .ref C, true, rfl, .own C, tyH T ho2, kC, true, rfl, ?_⟩
      refine iteT ?_
      obtain ⟨⟨dx, fs, f, t, n, h1, h2, h3, h4, h5, h6, h7⟩, ok1, ok2⟩ := ho
      obtain ⟨⟨dx', fs', f', t', n', g1, g2, g3, g4, g5, g6, g7⟩, pk1, pk2⟩ := ho2
      refine ⟨_, rfl, a, C, dx, fs, _, rfl, h1, T.cl, T.nf, h2, _, rfl, b, C, dx', fs', _, rfl, g1, T.cl, T.nf, g2, _, _, .tup h5 (dpAll_str fo), .tup g5 (dpAll_str fo2), shaped_strT fo ok1, shaped_strT fo2 pk1, _, rfl, ?_⟩
      rw [eqv_strT]
      refine ite2 (fun e => ?_) (fun e => ?_)
      · refine ⟨_, rfl, a, C, dx, fs, _, rfl, h1, T.cl, T.nt, h3, _, rfl, b, C, dx', fs', _, rfl, g1, T.cl, T.nt, g3, _, _, .tup h6 (dpAll_str th), .tup g6 (dpAll_str th2), shaped_strT th ok2, shaped_strT th2 pk2, ?_⟩
        rw [eqv_strT]
        rw [e, Bool.true_and] at q
        exact q
      · have e' : decide (fo = fo2) = false := by simpa using e
        rw [e', Bool.false_and] at q
        exact q
theorem ok_hHas (Fn : FunD K "__contains__" "House.__contains__" (defArgs sHHas) (defBody sHHas) (defScope sHHas) [] [] f fd) (T : HouC K C) (nf : PySem.W.subIn K (.ref C) (.type "str") = some false) (Me : OwnM K C "__eq__" fE)
    (FE : FnOk P w K mg base CX0 1 fE fdE ["self", "other"] (spHEq K C)) (bE : Binds K fdE ["self", "other"] []) (kS : PySem.W.kitOne K (.type "str") (.ref C) = some false) : FnOk P w K mg base CX0 3 f fd ["self", "x"] (spHHas K C) := by
  refine Fn.ok scHHas (fun vs H Q E h => ?_) (fun cdv A outer s H vs Q E hr h => ⟨_, PSs.nox (pss_one (ps_ret
    (pe_cmpR (OpR.or op_in_seq (OpR.or (op_inN (Nat.lt_of_le_of_lt (Nat.add_le_add_left (by decide : 1 ≤ 64) _) hr.units)) (op_inI (EI := E0) hr Me nf FE bE pass0))) (pv 1) (pe_fld (pv 0) rfl) (by rfl)))), ?_⟩)
  · obtain ⟨a, _, _, _, rfl, _⟩ := h
    rfl
  · obtain ⟨a, fo, th, y, rfl, ho, h⟩ := h
    have ho' := ho
    obtain ⟨⟨dx, fs, f, t, n, h1, h2, h3, h4, h5, h6, h7⟩, ok1, ok2⟩ := ho
    rw [← List.map_append] at h7
    refine ⟨_, rfl, _, rfl, a, C, dx, fs, _, rfl, h1, T.cl, T.nn, h4, ?_⟩
    rcases h with ⟨fy, q⟩ | ⟨ny, q⟩ | ⟨b, fo2, th2, rfl, ho2, q⟩
    · exact .inl ⟨n, _, rfl, .inr h7, fy, by rw [List.all_map]; exact List.all_eq_true.mpr fun _ _ => rfl, q⟩
    · exact .inr (.inl ⟨n, fo ++ th, rfl, h7, ny, q⟩)
    · obtain ⟨dx', fs', g1⟩ := ho2.ins
      refine .inr (.inr ⟨n, fo ++ th, b, dx', fs', rfl, h7, rfl, g1, fun z H1 _ x1 => ?_, q⟩)
      exact ⟨b, fo2, th2, .str z, rfl, ho2.ext x1, .inl ⟨_, .base (.str z), kS, rfl, Ext.rfl'⟩⟩
end
end My

namespace My
open PySem PySem.Spec PyProof.Rows L2
abbrev sNames : Stmt := top 16
abbrev nNames : List Str := ["_law_pool_here", "_law_many", "_law_found", "_law_k", "_law_size", "_law_word", "_law_spare", "_law_j", "_law_letter", "_law_each"]
theorem scNames : FnScope nNames ["_law_pool_here", "_law_many"] (defScope sNames) := ⟨rfl, rfl, rfl, by decide +kernel, rfl, by decide +kernel, by decide +kernel⟩
/-! ### names -/
def Nm (z : Str) : Prop := nameB z = true ∧ z.length ≠ 4 ∧ z ≠ "zq" ∧ z.length ≤ 8 ∧ PyData.strOk z = true
instance (z : Str) : Decidable (Nm z) := by unfold Nm; exact inferInstance
def az : Str := "abcdefghijklmnopqrstuvwxy"
def ap : Str := "abcdefghijklmnop"
def spares : List Str := ap.cps.toList.map fun c => ("z" : Str) ++ (⟨#[c]⟩ : Str) ++ ("q" : Str)
theorem spares_nm : ∀ z ∈ spares, Nm z := by decide +kernel
theorem spares_nd : spares.Nodup := by decide +kernel
theorem spares_len : spares.length = 16 := by decide +kernel
theorem nodup_sub : ∀ (as bs : List Str), as.Nodup → (∀ x, x ∈ as → x ∈ bs) → as.length ≤ bs.length
  | [], bs, _, _ => Nat.zero_le _
  | a :: as, bs, nd, h => by
    obtain ⟨na, nd'⟩ := List.nodup_cons.mp nd
    have ha := h a List.mem_cons_self
    have ih := nodup_sub as (bs.erase a) nd' fun x hx => (List.mem_erase_of_ne (fun e => by rw [e] at hx; exact na hx)).mpr (h x (List.mem_cons_of_mem _ hx))
    rw [List.length_erase_of_mem ha] at ih
    have : 0 < bs.length := List.length_pos_of_mem ha
    rw [List.length_cons]
    omega
theorem inV_str (z : Str) (zs : List Str) : inV (.str z) (zs.map V.str) = decide (z ∈ zs) := by
  unfold inV
  rw [List.any_map, Bool.eq_iff_iff, List.any_eq_true, decide_eq_true_iff]
  constructor
  · rintro ⟨x, hx, e⟩
    have e' : x = z := eq_of_beq e
    exact e' ▸ hx
  · intro h
    exact ⟨z, h, beq_self_eq_true z⟩
/-- the first of the spare ones that is not found as yet -/
def freshOf (w : Str) (zs : List Str) : List Str := (w :: spares).filter fun z => !decide (z ∈ zs)
theorem fresh_ne {w : Str} {zs : List Str} (h : zs.length < 16) : ∃ z r, freshOf w zs = z :: r := by
  cases e : freshOf w zs with
  | cons z r => exact ⟨z, r, rfl⟩
  | nil =>
    exfalso
    have hall : ∀ x, x ∈ spares → x ∈ zs := fun x hx => by
      have h1 := List.filter_eq_nil_iff.mp e x (List.mem_cons_of_mem _ hx)
      simpa using h1
    have := nodup_sub spares zs spares_nd hall
    rw [spares_len] at this
    omega
theorem fresh_mem {w z : Str} {zs r : List Str} (h : freshOf w zs = z :: r) (hw : Nm w) : Nm z ∧ z ∉ zs := by
  have hm : z ∈ freshOf w zs := by rw [h]; exact List.mem_cons_self
  obtain ⟨h1, h2⟩ := List.mem_filter.mp hm
  refine ⟨?_, by simpa using h2⟩
  rcases List.mem_cons.mp h1 with rfl | h1
  · exact hw
  · exact spares_nm z h1
/-- a word of signs from a to y -/
theorem joinL_one : ∀ cs : List Nat, TL.joinL [] (cs.map fun c => [c]) = cs
  | [] => rfl
  | [_] => rfl
  | c :: d :: r => by
    show [c] ++ ([] ++ TL.joinL [] ((d :: r).map fun c => [c])) = _
    rw [joinL_one (d :: r)]
    rfl
theorem join_one (cs : List Nat) : (Txt.join "" (cs.map fun c => (⟨#[c]⟩ : Str))).cps.toList = cs := by
  rw [TL.join_eq]
  have h := TL.tl_join "" (cs.map fun c => (⟨#[c]⟩ : Str))
  rw [List.map_map] at h
  exact h.trans (joinL_one cs)
theorem word_nm {z : Str} {cs : List Nat} (e : z.cps.toList = cs) (hc : ∀ c, c ∈ cs → c ∈ az.cps.toList) (hn : cs.length ∈ [1, 1, 2, 3, 8]) : Nm z := by
  have len : z.length = cs.length := by
    show z.cps.size = _
    rw [← Array.length_toList, e]
  have all : ∀ c, c ∈ cs → c ∈ letters.cps.toList ∧ c < 122 := fun c h => by
    have h1 := hc c h
    have key : ∀ c, c ∈ az.cps.toList → c ∈ letters.cps.toList ∧ c < 122 := by decide +kernel
    exact key c h1
  have l18 : 1 ≤ cs.length ∧ cs.length ≤ 8 ∧ cs.length ≠ 4 := by
    simp only [List.mem_cons, List.not_mem_nil, or_false] at hn
    omega
  refine ⟨?_, by rw [len]; exact l18.2.2, fun h => ?_, by rw [len]; exact l18.2.1, ?_⟩
  · unfold nameB
    rw [decide_eq_true (by rw [len]; omega), decide_eq_true (by rw [len]; omega), Bool.true_and, Bool.true_and, List.all_eq_true]
    intro b hb
    unfold signB at hb
    obtain ⟨c, hc', rfl⟩ := List.mem_map.mp hb
    rw [e] at hc'
    exact decide_eq_true (all c hc').1
  · have h122 : (122 : Nat) ∈ cs := by
      rw [← e, h]
      decide +kernel
    exact absurd (all 122 h122).2 (Nat.lt_irrefl _)
  · show z.cps.all _ = true
    rw [← Array.all_toList, e, List.all_eq_true]
    intro c h
    exact decide_eq_true (Nat.lt_trans (all c h).2 (by decide))
theorem sum_one : ∀ cs : List Nat, (((cs.map fun c => (⟨#[c]⟩ : Str))).map (·.length)).sum = cs.length
  | [] => rfl
  | c :: r => by
    show 1 + (((r.map fun c => (⟨#[c]⟩ : Str))).map (·.length)).sum = _
    rw [sum_one r, List.length_cons, Nat.add_comm]
theorem pool_ext {H H' : Hp} {p : Addr} {n : Int} (h : Pool H p n) (e : Ext H H') : Pool H' p n := by
  obtain ⟨g, m, c, h1, h2⟩ := h
  exact ⟨g, m, c, e _ _ h1, h2⟩
theorem pool_at {H H' : Hp} {p : Addr} {n : Int} (h : Pool H p n) (e : H' p = H p) : Pool H' p n := by
  obtain ⟨g, m, c, h1, h2⟩ := h
  exact ⟨g, m, c, by rw [e]; exact h1, h2⟩
theorem pool_ne {H : Hp} {p l : Addr} {n : Int} (h : Pool H p n) (e : H l = none) : l ≠ p := fun z => by
  obtain ⟨g, m, c, h1, _⟩ := h
  rw [z, h1] at e
  cases e
theorem But.ext {H H1 H2 : Hp} {a : Addr} (b : But H H1 a) (e : Ext H1 H2) : But H H2 a := b.trans (ext_but e)
/-- names: unlike, none of four signs, none zq -/
def Nms (zs : List Str) : Prop := zs.Nodup ∧ ∀ z, z ∈ zs → Nm z
def spNames (K : PySem.W.Frag) : Sp := fun vs H Q _ => ∃ (p : Addr) (m : Nat) (n : Int), vs = [.ref p, .int (m : Int)] ∧ m ≤ 12 ∧ Pool H p n ∧ n < 1000000 ∧
  ∀ l zs H', But H H' p → Pool H' p (n + 9 * m) → H' l = some (.lst (zs.map V.str)) → H l = none → zs.length = m → Nms zs → Q (.ref l) H'
section
variable {P : Program} {w : World} {K : PySem.W.Frag} {mg : Str → Option Value} {base : Heap} {f fT : Addr} {fd fdT : FuncData}
theorem ok_names (Fn : FnP K "_law_names" sNames f fd) (FT : FnOk P w K mg base CX0 1 fT fdT ["_law_pool_here", "_law_many"] spTake) (gT : mg "_law_take" = some (.ref fT)) (kT : PySem.W.keepIn K (.ref fT) = true) (bT : Binds K fdT ["_law_pool_here", "_law_many"] []) (gR : mg "range" = none) :
    FnOk P w K mg base CX0 2 f fd ["_law_pool_here", "_law_many"] (spNames K) := by
  refine Fn.ok scNames (fun vs H Q E h => ?_) (fun cdv A outer s H vs Q E hr h => ⟨_, PSs.nox
    (pss_cons (ps_set (i := 2) scNames.nd rfl (.inr rfl) (pe_lst pa_nil))
    (pss_cons (ps_for PassesOwn.never rfl (pi_range1 (by rfl) gR (pa_cons (pv 1) pa_nil)) (pg_name (i := 3) scNames.nd rfl (Or.inl rfl))
      (pss_cons (ps_set (i := 4) scNames.nd rfl (.inl rfl) (pe_ix ix_list (pe_lst (pa_cons pe_int (pa_cons pe_int (pa_cons pe_int (pa_cons pe_int (pa_cons pe_int pa_nil)))))) (pe_call FT hr (by rfl) gT kT bT .nil pass0 (pa_cons (pv 0) (pa_cons pe_int pa_nil))) (fun _ _ => rfl)))
      (pss_cons (ps_set (i := 5) scNames.nd rfl (.inl rfl) (pe_bm PySem.F.plainAttrs_str PySem.F.slot_str_join PySem.F.type_str_join mt_join pe_str (pa_cons (pe_lc (own := [("_law_j", 7)]) (g := gName 7) (tt := tYes) rfl scNames.nd (pi_range1 (by rfl) gR (pa_cons (pv 4) pa_nil)) (blkOk_by (N := nNames) (sc := defScope sNames) (by decide +kernel))
          (fun _ _ _ _ _ => pg_name (i := 7) scNames.nd rfl (Or.inl rfl)) (fun _ _ _ _ _ => pts_nil) (fun _ _ _ _ _ => pe_ix ix_str pe_str (pe_call FT (hr.mono (by decide)) (by rfl) gT kT bT .nil pass0 (pa_cons (pv 0) (pa_cons pe_int pa_nil))) (fun _ _ => rfl))) pa_nil)))
      (pss_cons (ps_set (i := 6) scNames.nd rfl (.inl rfl) (pe_op L2.op_cat (pe_lst (pa_cons (pv 5) pa_nil)) (pe_lc (own := [("_law_letter", 8)]) (g := gName 8) (tt := tYes) rfl scNames.nd (pi_str pe_str) (blkOk_by (N := nNames) (sc := defScope sNames) (by decide +kernel))
          (fun _ _ _ _ _ => pg_name (i := 8) scNames.nd rfl (Or.inl rfl)) (fun _ _ _ _ _ => pts_nil) (fun _ _ _ _ _ => pe_op op_add_str (pe_op op_add_str pe_str (pv 8)) pe_str))))
      (pss_one (ps_expr (pe_bm PySem.F.plainAttrs_list PySem.F.slot_list_append PySem.F.type_list_append mt_append (pv 2) (pa_cons (pe_ix ix_list (pe_lc (own := [("_law_each", 9)]) (g := gName 9) (tt := tTest (tOp (rIn K true) (tVar 9) (tVar 2))) rfl scNames.nd (pi_list (pv 6)) (blkOk_by (N := nNames) (sc := defScope sNames) (by decide +kernel))
          (fun _ _ _ _ _ => pg_name (i := 9) scNames.nd rfl (Or.inl rfl)) (fun _ _ _ _ _ => pts_one (pt_cmpR op_notIn_seq (pv 9) (pv 2) (by rfl))) (fun _ _ _ _ _ => pv 9)) pe_int (fun _ _ => rfl)) pa_nil))))))))
    (pss_one (ps_ret (pv 2))))), ?_⟩)
  · obtain ⟨p, m, n, rfl, _⟩ := h
    rfl
  · obtain ⟨p, m, n, rfl, hm, hp, hn, q⟩ := h
    refine ⟨Nat.zero_le _, fun l hl => ?_⟩
    refine ⟨_, rfl, (m : Int), rfl, Int.le_trans (by decide) (Int.natCast_nonneg m), Int.lt_of_le_of_lt (Int.ofNat_le.mpr hm) (by decide), for_range (lo := 0) (n := m) (fun k σ H' => ∃ v3 v4 v5 v6 zs, σ = [some (.ref p), some (.int (m : Int)), some (.ref l), v3, v4, v5, v6, none, none, none] ∧ But H H' p ∧ Pool H' p (n + 9 * k) ∧ H' l = some (.lst (zs.map V.str)) ∧ zs.length = k ∧ Nms zs) ?_ ?_ ?_⟩
    · exact ⟨none, none, none, none, [], rfl, fun b u _ e => by rw [upd_ne (ne_of_none e hl)]; exact e, by
        obtain ⟨g, mm, c, h1, h2⟩ := hp
        refine ⟨g, mm, c, by rw [upd_ne (ne_of_none h1 hl)]; exact h1, ?_⟩
        rw [show n + 9 * ((0 : Nat) : Int) = n by omega]
        exact h2, upd_same, rfl, List.nodup_nil, fun z hz => by cases hz⟩
    · rintro k σ H1 hk ⟨v3, v4, v5, v6, zs, rfl, b1, p1, l1, len1, ns1⟩
      refine ⟨Nat.le_of_ble_eq_true rfl, fun l2 hl2 => ?_⟩
      have lp : l ≠ p := pool_ne hp hl
      obtain ⟨Ha, hHa⟩ : ∃ Ha, Ha = L2.upd H1 l2 (.lst [.int 1, .int 1, .int 2, .int 3, .int 8]) := ⟨_, rfl⟩
      rw [← hHa]
      have xa : Ext H1 Ha := by
        rw [hHa]
        exact Ext.upd hl2
      have l2a : Ha l2 = some (.lst [.int 1, .int 1, .int 2, .int 3, .int 8]) := by rw [hHa, upd_same]
      have l2p : l2 ≠ p := pool_ne p1 hl2
      refine ⟨_, rfl, p, 5, _, rfl, by decide, by decide, pool_ext p1 xa, by omega, fun r o r0 r1 gp => ?_⟩
      obtain ⟨Hb, hHb⟩ : ∃ Hb, Hb = L2.upd Ha p o := ⟨_, rfl⟩
      rw [← hHb] at gp
      rw [← hHb]
      have bb : But Ha Hb p := by
        rw [hHb]
        exact But.upd (ext_but Ext.rfl')
      have lb : Hb l = some (.lst (zs.map V.str)) := bb _ _ lp (xa _ _ l1)
      obtain ⟨j, rfl⟩ := Int.eq_ofNat_of_zero_le r0
      have hj : j < 5 := by omega
      obtain ⟨sz, hsz, hin⟩ : ∃ sz : Nat, ([.int 1, .int 1, .int 2, .int 3, .int 8] : List V)[j]? = some (.int (sz : Int)) ∧ sz ∈ [1, 1, 2, 3, 8] := by
        match j, hj with
        | 0, _ => exact ⟨1, rfl, by decide⟩
        | 1, _ => exact ⟨1, rfl, by decide⟩
        | 2, _ => exact ⟨2, rfl, by decide⟩
        | 3, _ => exact ⟨3, rfl, by decide⟩
        | 4, _ => exact ⟨8, rfl, by decide⟩
      have hsz8 : sz ≤ 8 := by
        simp only [List.mem_cons, List.not_mem_nil, or_false] at hin
        omega
      refine ⟨l2, _, _, _, rfl, rfl, SqL.of (bb _ _ l2p l2a), atI_nat hsz, ?_⟩
      refine ⟨rfl, _, rfl, (sz : Int), rfl, Int.le_trans (by decide) (Int.natCast_nonneg sz), Int.lt_of_le_of_lt (Int.ofNat_le.mpr hsz8) (by decide), fun D hD => lc_it (walk_range (lo := 0) (n := sz))
        (fun i H' => But Hb H' p ∧ Pool H' p (n + 9 * k + 1 + i) ∧ ∃ cs : List Nat, cs.length = i ∧ (∀ c, c ∈ cs → c ∈ az.cps.toList) ∧ H' D = some (.lst (cs.map fun c => V.str ⟨#[c]⟩)))
        ⟨ext_but (Ext.upd hD), pool_ext (by rw [show n + 9 * (k : Int) + 1 + ((0 : Nat) : Int) = n + 9 * k + 1 by omega]; exact gp) (Ext.upd hD), [], rfl, (fun c hc => by cases hc), upd_same⟩ (fun _ _ _ _ => True.intro) ?_ ?_⟩
      · rintro i x H2 H3 hi ⟨b2, p2, cs, hcs, hall, ld⟩ ⟨rfl, rfl⟩
        refine ⟨rfl, ?_⟩
        refine lcYes ?_
        have Dp : D ≠ p := pool_ne gp hD
        refine ⟨_, rfl, p, 25, _, rfl, by decide, by decide, p2, by omega, fun r o r0 r1 gp => ?_⟩
        obtain ⟨c1, rfl⟩ := Int.eq_ofNat_of_zero_le r0
        have hc1 : c1 < az.cps.toList.length := by
          rw [show az.cps.toList.length = 25 by decide +kernel]
          omega
        refine ⟨az, _, az.cps.toList[c1], rfl, rfl, Nat.le_of_ble_eq_true (by decide +kernel), atI_nat (List.getElem?_eq_getElem hc1), cs.map (fun c => V.str ⟨#[c]⟩), ?_, ?_, ?_⟩
        · rw [upd_ne Dp]
          exact ld
        · rw [List.length_map, hcs, sizeLine_eq]
          omega
        · refine ⟨?_, ?_, cs ++ [az.cps.toList[c1]], by rw [List.length_append, hcs]; rfl, fun c hc => ?_, by rw [upd_same, List.map_append]; rfl⟩
          · intro b u hb hu
            rw [upd_ne (ne_of_none hu hD), upd_ne hb]
            exact b2 b u hb hu
          · refine pool_at (n := n + 9 * k + 1 + ((i + 1 : Nat) : Int)) (H := L2.upd H3 p o) ?_ (upd_ne (Ne.symm Dp))
            rw [show n + 9 * (k : Int) + 1 + ((i + 1 : Nat) : Int) = n + 9 * k + 1 + (i : Int) + 1 by omega]
            exact gp
          · rcases List.mem_append.mp hc with hc | hc
            · exact hall c hc
            · rw [List.mem_singleton.mp hc]
              exact List.getElem_mem hc1
      rintro H4 ⟨b4, p4, cs, hcs, hall, ld⟩
      have l4 : H4 l = some (.lst (zs.map V.str)) := b4 _ _ lp lb
      refine ⟨_, D, cs.map fun c => (⟨#[c]⟩ : Str), rfl, rfl, .inl (SqL.of (by rw [ld, List.map_map]; rfl)), by rw [sum_one, hcs]; show sz + _ * 0 ≤ _; omega, ?_⟩
      have hw : Nm (Txt.join "" (cs.map fun c => (⟨#[c]⟩ : Str))) := word_nm (join_one cs) hall (by rw [hcs]; exact hin)
      obtain ⟨wd, hwd⟩ : ∃ wd, wd = Txt.join "" (cs.map fun c => (⟨#[c]⟩ : Str)) := ⟨_, rfl⟩
      rw [← hwd] at hw
      rw [← hwd]
      have lD : H4 D = some (.lst (cs.map fun c => V.str ⟨#[c]⟩)) := ld
      refine ⟨_, rfl, Nat.le_of_ble_eq_true rfl, fun l5 hl5 => ?_⟩
      obtain ⟨H5, hH5⟩ : ∃ H5, H5 = L2.upd H4 l5 (.lst [.str wd]) := ⟨_, rfl⟩
      rw [← hH5]
      have x5 : Ext H4 H5 := by
        rw [hH5]
        exact Ext.upd hl5
      have l55 : H5 l5 = some (.lst [.str wd]) := by rw [hH5, upd_same]
      refine ⟨ap, rfl, fun D2 hD2 => lc_it (walk_str (z := ap)) (fun i H' => Ext H5 H' ∧ H' D2 = some (.lst ((spares.take i).map V.str))) ⟨Ext.upd hD2, upd_same⟩ (fun _ _ _ _ => True.intro) ?_ ?_⟩
      · rintro i x H6 H7 hi ⟨x6, l6⟩ ⟨rfl, c, hc, rfl⟩
        refine ⟨rfl, ?_⟩
        refine lcYes ?_
        refine ⟨_, rfl, _, _, rfl, rfl, Nat.le_of_ble_eq_true rfl, _, _, rfl, rfl, Nat.le_of_ble_eq_true rfl, _, l6, ?_, ?_⟩
        · rw [List.length_map, List.length_take]
          exact Nat.lt_of_le_of_lt (Nat.min_le_right _ _) (by rw [spares_len]; exact Nat.le_of_ble_eq_true rfl)
        · refine ⟨x6.over hD2, ?_⟩
          have e : spares[i]? = some (("z" : Str) ++ (⟨#[c]⟩ : Str) ++ ("q" : Str)) := by
            unfold spares
            rw [List.getElem?_map, Array.getElem?_toList, hc]
            rfl
          rw [upd_same, List.take_add_one, e, List.map_append]
          rfl
      rintro H6 ⟨x6, l6⟩
      have etk : spares.take ap.cps.size = spares := List.take_of_length_le (by rw [spares_len]; decide +kernel)
      rw [etk] at l6
      refine ⟨l5, D2, _, _, rfl, rfl, x6 _ _ l55, l6, by rw [List.length_map, spares_len]; exact Nat.le_of_ble_eq_true rfl, fun l7 hl7 => ?_⟩
      obtain ⟨H7, hH7⟩ : ∃ H7, H7 = L2.upd H6 l7 (.lst ([V.str wd] ++ spares.map V.str)) := ⟨_, rfl⟩
      rw [← hH7]
      have x7 : Ext H6 H7 := by
        rw [hH7]
        exact Ext.upd hl7
      have l77 : H7 l7 = some (.lst ((wd :: spares).map V.str)) := by rw [hH7, upd_same]; rfl
      have x47 : Ext H4 H7 := (x5.trans x6).trans x7
      have l17 : H7 l = some (.lst (zs.map V.str)) := x47 _ _ l4
      have fz : (zs.map V.str).all flatV = true := by rw [List.all_map]; exact List.all_eq_true.mpr fun _ _ => rfl
      refine ⟨_, rfl, .inl ⟨rfl, _, SqL.of l17⟩, ?_⟩
      refine ⟨_, rfl, l7, rfl, ⟨_, SqL.of l77⟩, fun D3 hD3 => lc_it (walk_list (xs := (wd :: spares).map V.str)) (fun i H' => Ext H7 H' ∧ H' D3 = some (.lst ((((wd :: spares).take i).filter fun z => !decide (z ∈ zs)).map V.str)))
        ⟨Ext.upd hD3, upd_same⟩ (fun i H' _ z => SqL.of (z.1 _ _ l77)) ?_ ?_⟩
      · rintro i x H8 H9 hi ⟨x8, l8⟩ ⟨rfl, hx⟩
        obtain ⟨z, hz, rfl⟩ : ∃ z, (wd :: spares)[i]? = some z ∧ x = V.str z := by
          rw [List.getElem?_map] at hx
          cases e : (wd :: spares)[i]? with
          | none =>
            rw [e] at hx
            cases hx
          | some z =>
            rw [e] at hx
            exact ⟨z, rfl, (Option.some.inj hx).symm⟩
        have l18 := x8 _ _ l17
        refine ⟨rfl, ?_⟩
        refine ⟨_, rfl, _, rfl, l, _, rfl, .inl (SqL.of l18), rfl, fz, _, rfl, ?_⟩
        rw [if_pos rfl, inV_str]
        have tk : (wd :: spares).take (i + 1) = (wd :: spares).take i ++ [z] := by rw [List.take_add_one, hz]; rfl
        by_cases hin2 : z ∈ zs
        · rw [decide_eq_true hin2]
          refine iteF ?_
          refine ⟨x8, ?_⟩
          have ef : [z].filter (fun z => !decide (z ∈ zs)) = [] := by simp [hin2]
          rw [tk, List.filter_append, ef, List.append_nil]
          exact l8
        · rw [decide_eq_false hin2]
          refine iteT ?_
          refine ⟨_, rfl, _, l8, ?_, x8.over hD3, ?_⟩
          · rw [List.length_map]
            refine Nat.lt_of_le_of_lt (List.length_filter_le _ _) ?_
            rw [List.length_take]
            refine Nat.lt_of_le_of_lt (Nat.min_le_right _ _) ?_
            rw [List.length_cons, spares_len]
            exact Nat.le_of_ble_eq_true rfl
          · have ef : [z].filter (fun z => !decide (z ∈ zs)) = [z] := by simp [hin2]
            rw [upd_same, tk, List.filter_append, ef, List.map_append]
            rfl
      rintro H8 ⟨x8, l8⟩
      rw [List.length_map, List.take_length] at l8
      obtain ⟨z, r, hzr⟩ := fresh_ne (w := wd) (zs := zs) (by omega)
      obtain ⟨hz1, hz2⟩ := fresh_mem hzr hw
      have l8' : H8 D3 = some (.lst ((z :: r).map V.str)) := by rw [← hzr]; exact l8
      have l18 := x8 _ _ l17
      refine ⟨D3, _, ((0 : Nat) : Int), .str z, rfl, rfl, SqL.of l8', atI_nat rfl, ?_⟩
      refine ⟨l, _, _, rfl, rfl, l18, by rw [List.length_map, len1, sizeLine_eq]; omega, ?_⟩
      have x48 : Ext H4 H8 := x47.trans x8
      refine ⟨_, _, _, _, zs ++ [z], rfl, ?_, ?_, by rw [upd_same, List.map_append]; rfl, by rw [List.length_append, len1]; rfl, ?_, ?_⟩
      · intro b u hb hu
        rw [upd_ne (ne_of_none hu hl)]
        exact (((b1.ext xa).trans bb).trans b4).ext x48 b u hb hu
      · refine pool_at (H := H8) ?_ (upd_ne (Ne.symm lp))
        obtain ⟨g, mm, c, h1, h2, h3, h4, h5, h6⟩ := pool_ext p4 x48
        exact ⟨g, mm, c, h1, h2, h3, h4, h5, by omega⟩
      · rw [List.nodup_append]
        refine ⟨ns1.1, by simp, fun a ha b hb e => ?_⟩
        rw [List.mem_singleton.mp hb] at e
        rw [e] at ha
        exact hz2 ha
      · intro y hy
        rcases List.mem_append.mp hy with hy | hy
        · exact ns1.2 y hy
        · rw [List.mem_singleton.mp hy]
          exact hz1
    · rintro σ H1 ⟨v3, v4, v5, v6, zs, rfl, b1, p1, l1, len1, ns1⟩
      exact ⟨_, rfl, q l zs H1 b1 p1 l1 hl len1 ns1⟩
end
end My

namespace My
open PySem PySem.Spec PyProof.Rows L2
abbrev sRefused : Stmt := top 18
theorem scRefused : FnScope ["_law_folders", "_law_things", "e"] ["_law_folders", "_law_things"] (defScope sRefused) := ⟨rfl, rfl, rfl, by decide +kernel, rfl, by decide +kernel, by decide +kernel⟩
def spRefused (K : PySem.W.Frag) : Sp := fun vs H Q _ => ∃ x y o o', vs = [x, y] ∧ Lk K H x o ∧ Lk K H y o' ∧ (∀ xs ys, o = some xs → o' = some ys → (xs ++ ys).length ≤ sizeLine) ∧ ∀ H', Ext H H' → Q (optV (partOf o o')) H'
section
variable {P : Program} {w : World} {K : PySem.W.Frag} {mg : Str → Option Value} {base : Heap} {f fI C CB : Addr} {fd fdI : FuncData}
theorem ok_refused (Fn : FnP K "_law_refused" sRefused f fd) (M : Mk K C fI) (FI : FnOk P w K mg base (L2.CX P w) 4 fI fdI ["self", "folders", "things"] (spHInit K C CB)) (gH : mg "House" = some (.ref C)) (bI : Binds K fdI ["self", "folders", "things"] [])
    (gB : mg "BadHouse" = some (.ref CB)) (xB : XfC K CB) (nB : PySem.W.findIn K (.ref CB) "index" = some none) (eB : PySem.W.exmOne K (.ref CB) (.ref CB) = some true) :
    FnOk P w K mg base CX0 6 f fd ["_law_folders", "_law_things"] (spRefused K) := by
  refine Fn.ok scRefused (fun vs H Q E h => ?_) (fun cdv A outer s H vs Q E hr h => ⟨_, PSs.nox
    (pss_cons (ps_try_as (i := 2) (tb := fun W => tDrop (tMakeS C (spHInit K C CB) [] (WE W) (tCons (tVar 0) (tCons (tVar 1) tNil)))) (ts := fun a cls d => tRet (tXf a cls d CB "index" (tVar 2))) (Wout := fun _ _ _ _ => False) rfl rfl scRefused.nd rfl rfl ⟨rfl, by decide, .inl gB⟩ takes0
      (fun W pn xe tk _ => pss_one (ps_expr (by exact (pe_makeS M FI hr (by rfl) gH bI .nil (fun σ => passAt tk σ) (by exact (pa_cons (pv 0) (pa_cons (pv 1) pa_nil)))))))
      (fun a oe cls d pn hz hf => pss_one (ps_ret (by exact (pe_xf xB nB hz hf (pv 2))))))
    (pss_one (ps_ret pe_non))), ?_⟩)
  · obtain ⟨x, y, o, o', rfl, _⟩ := h
    rfl
  · obtain ⟨x, y, o, o', rfl, hx, hy, hz, q⟩ := h
    refine ⟨_, rfl, _, rfl, fun a dx ha hdx ne => ?_⟩
    have xn : Ext H (L2.upd (L2.upd H dx (.own a)) a (.ins C dx [])) := fun b u k => by
      rw [upd_ne (ne_of_none k ha), upd_ne (ne_of_none k hdx)]
      exact k
    refine ⟨a, dx, x, y, o, o', rfl, upd_same, hx.ext xn, hy.ext xn, hz, fun xs ys H' _ _ hp b _ => ⟨rfl, ?_⟩, fun i d H' hp x' _ hd => ?_⟩
    · have x1 : Ext H H' := fun c u k => b c u (ne_of_none k ha) (xn c u k)
      have z := q H' x1
      rw [hp] at z
      exact z
    · have x1 : Ext H H' := xn.trans x'
      have z := q H' x1
      rw [hp] at z
      exact ⟨true, eB, fun _ a0 _ => ⟨_, rfl, rfl, rfl, d, _, _, rfl, hd, rfl, z⟩, fun q => nomatch q⟩
end
end My

namespace My
open PySem PySem.Spec PyProof.Rows L2
abbrev sHouse : Stmt := top 17
theorem scHouse : FnScope ["_law_pool_here", "_law_most", "_law_more", "_law_many", "_law_few", "_law_words"] ["_law_pool_here", "_law_most", "_law_more"] (defScope sHouse) := ⟨rfl, rfl, rfl, by decide +kernel, rfl, by decide +kernel, by decide +kernel⟩
def spHouse : Sp := fun vs H Q _ => ∃ (p : Addr) (n : Int), vs = [.ref p, .int 3, .int 3] ∧ Pool H p n ∧ n < 900000 ∧
  ∀ t l1 l2 fo th H', But H H' p → Pool H' p (n + 60) → H' t = some (.tup [.ref l1, .ref l2]) → H' l1 = some (.lst (fo.map V.str)) → H' l2 = some (.lst (th.map V.str)) → l1 ≠ l2 → H l1 = none → H l2 = none →
    1 ≤ fo.length → fo.length ≤ 3 → th.length ≤ 3 → 2 ≤ fo.length + th.length → Nms (fo ++ th) → Q (.ref t) H'
theorem pool_mono {H : Hp} {p : Addr} {n m : Int} (h : Pool H p n) (e : n ≤ m) : Pool H p m := by
  obtain ⟨g, mm, c, h1, h2, h3, h4, h5, h6⟩ := h
  exact ⟨g, mm, c, h1, h2, h3, h4, h5, by omega⟩
theorem pool_upd {H : Hp} {p l : Addr} {o : HO} {n : Int} (h : Pool H p n) (e : l ≠ p) : Pool (L2.upd H l o) p n := pool_at h (upd_ne (Ne.symm e))
theorem cutV_take {xs : List V} {k : Nat} (h : k ≤ xs.length) : cutV xs none (some ((k : Nat) : Int)) = xs.take k := by
  unfold cutV
  rw [HT.sIx_none, HT.sIx_nat, Nat.min_eq_left h, Nat.sub_zero, List.drop_zero]
theorem cutV_drop {xs : List V} {k : Nat} (h : k ≤ xs.length) : cutV xs (some ((k : Nat) : Int)) none = xs.drop k := by
  unfold cutV
  rw [HT.sIx_none, HT.sIx_nat, Nat.min_eq_left h, List.take_of_length_le (by rw [List.length_drop]; exact Nat.le_refl _)]
section
variable {P : Program} {w : World} {K : PySem.W.Frag} {mg : Str → Option Value} {base : Heap} {f fT fN : Addr} {fd fdT fdN : FuncData}
theorem ok_house (Fn : FnP K "_law_house" sHouse f fd) (FT : FnOk P w K mg base CX0 1 fT fdT ["_law_pool_here", "_law_many"] spTake) (gT : mg "_law_take" = some (.ref fT)) (kT : PySem.W.keepIn K (.ref fT) = true) (bT : Binds K fdT ["_law_pool_here", "_law_many"] [])
    (FN : FnOk P w K mg base CX0 2 fN fdN ["_law_pool_here", "_law_many"] (spNames K)) (gN : mg "_law_names" = some (.ref fN)) (kN : PySem.W.keepIn K (.ref fN) = true) (bN : Binds K fdN ["_law_pool_here", "_law_many"] []) (gM : mg "max" = none) :
    FnOk P w K mg base CX0 3 f fd ["_law_pool_here", "_law_most", "_law_more"] spHouse := by
  refine Fn.ok scHouse (fun vs H Q E h => ?_) (fun cdv A outer s H vs Q E hr h => ⟨_, PSs.nox
    (pss_cons (ps_set (i := 3) scHouse.nd rfl (.inl rfl) (pe_op op_add pe_int (pe_call FT (hr.mono (by decide)) (by rfl) gT kT bT .nil pass0 (pa_cons (pv 0) (pa_cons (pv 1) pa_nil)))))
    (pss_cons (ps_set (i := 4) scHouse.nd rfl (.inl rfl) (pe_callB (call_max2 rfl) (by rfl) gM boot_max (pa_cons (pe_call FT (hr.mono (by decide)) (by rfl) gT kT bT .nil pass0 (pa_cons (pv 0) (pa_cons (pe_op op_add (pv 2) pe_int) pa_nil))) (pa_cons (pe_op op_sub pe_int (pv 3)) pa_nil))))
    (pss_cons (ps_set (i := 5) scHouse.nd rfl (.inl rfl) (pe_call FN hr (by rfl) gN kN bN .nil pass0 (pa_cons (pv 0) (pa_cons (pe_op op_add (pv 3) (pv 4)) pa_nil))))
    (pss_one (ps_ret (pe_tup (pa_cons (pe_slice sl_list (pv 5) po_none (po_some (pv 3))) (pa_cons (pe_slice sl_list (pv 5) (po_some (pv 3)) po_none) pa_nil)))))))), ?_⟩)
  · obtain ⟨p, n, rfl, _⟩ := h
    rfl
  · obtain ⟨p, n, rfl, hp, hn, q⟩ := h
    refine ⟨_, rfl, _, rfl, p, 3, n, rfl, by decide, by decide, hp, by omega, fun r o r0 r1 gp => ?_⟩
    obtain ⟨H1, hH1⟩ : ∃ H1, H1 = L2.upd H p o := ⟨_, rfl⟩
    rw [← hH1] at gp
    rw [← hH1]
    have b1 : But H H1 p := by
      rw [hH1]
      exact But.upd (ext_but Ext.rfl')
    obtain ⟨r', rfl⟩ := Int.eq_ofNat_of_zero_le r0
    refine ⟨_, _, rfl, rfl, ?_⟩
    refine ⟨_, rfl, _, rfl, _, _, rfl, rfl, p, _, _, rfl, by decide, by decide, gp, by omega, fun r2 o2 r20 r21 gp2 => ?_⟩
    obtain ⟨H2, hH2⟩ : ∃ H2, H2 = L2.upd H1 p o2 := ⟨_, rfl⟩
    rw [← hH2] at gp2
    rw [← hH2]
    have b2 : But H H2 p := b1.trans (by
      rw [hH2]
      exact But.upd (ext_but Ext.rfl'))
    obtain ⟨r2', rfl⟩ := Int.eq_ofNat_of_zero_le r20
    refine ⟨_, rfl, _, _, rfl, rfl, _, _, rfl, ?_⟩
    -- the numbers
    obtain ⟨few, hfew, hf1, hf2⟩ : ∃ few : Nat, (if (2 - (1 + (r' : Int))) > (r2' : Int) then (2 - (1 + (r' : Int))) else (r2' : Int)) = (few : Int) ∧ few ≤ 3 ∧ 2 ≤ (1 + r') + few := by
      by_cases c : (2 - (1 + (r' : Int))) > (r2' : Int)
      · rw [if_pos c]
        exact ⟨1 - r', by omega, by omega, by omega⟩
      · rw [if_neg c]
        exact ⟨r2', rfl, by omega, by omega⟩
    refine ⟨_, rfl, _, rfl, _, rfl, _, _, rfl, rfl, p, 1 + r' + few, _, by rw [hfew]; rfl, by omega, gp2, by omega, fun l zs H3 b3 p3 l3 ln3 len3 nms3 => ?_⟩
    have b03 : But H H3 p := b2.trans b3
    have lp : l ≠ p := pool_ne gp2 ln3
    have hk : 1 + r' ≤ (zs.map V.str).length := by
      rw [List.length_map, len3]
      omega
    have hH : ∀ {b : Addr}, H3 b = none → H b = none := fun {b} h => by
      cases hh : H b with
      | none => rfl
      | some u =>
        by_cases e : b = p
        · obtain ⟨_, _, _, h1, _⟩ := p3
          rw [e, h1] at h
          cases h
        · rw [b03 b u e hh] at h
          cases h
    have ei : (1 : Int) + (r' : Int) = ((1 + r' : Nat) : Int) := by omega
    refine ⟨_, rfl, _, rfl, _, rfl, l, _, rfl, SqL.of l3, fun l4 hl4 => ?_⟩
    refine ⟨_, rfl, _, rfl, _, rfl, l, _, rfl, SqL.of (Ext.upd hl4 _ _ l3), fun l5 hl5 => ?_⟩
    refine ⟨Nat.le_of_ble_eq_true rfl, fun t ht => ?_⟩
    rw [ei, cutV_take hk, cutV_drop hk] at ht
    rw [ei, cutV_take hk] at hl5
    rw [ei, cutV_take hk, cutV_drop hk]
    obtain ⟨H4, hH4⟩ : ∃ H4, H4 = L2.upd H3 l4 (.lst ((zs.map V.str).take (1 + r'))) := ⟨_, rfl⟩
    rw [← hH4] at hl5 ht
    rw [← hH4]
    have x4 : Ext H3 H4 := by
      rw [hH4]
      exact Ext.upd hl4
    obtain ⟨H5, hH5⟩ : ∃ H5, H5 = L2.upd H4 l5 (.lst ((zs.map V.str).drop (1 + r'))) := ⟨_, rfl⟩
    rw [← hH5] at ht
    rw [← hH5]
    have x5 : Ext H4 H5 := by
      rw [hH5]
      exact Ext.upd hl5
    have x6 : Ext H5 (L2.upd H5 t (.tup [.ref l4, .ref l5])) := Ext.upd ht
    have l44 : H4 l4 = some (.lst ((zs.take (1 + r')).map V.str)) := by rw [hH4, upd_same, List.map_take]
    have l55 : H5 l5 = some (.lst ((zs.drop (1 + r')).map V.str)) := by rw [hH5, upd_same, List.map_drop]
    have ne : l4 ≠ l5 := ne_of_none l44 hl5
    have h5n : H3 l5 = none := by
      rw [hH4, upd_ne (Ne.symm ne)] at hl5
      exact hl5
    refine q t l4 l5 (zs.take (1 + r')) (zs.drop (1 + r')) _ (b03.ext ((x4.trans x5).trans x6)) (pool_mono (pool_ext p3 ((x4.trans x5).trans x6)) (by omega)) upd_same (x6 _ _ (x5 _ _ l44)) (x6 _ _ l55) ne (hH hl4) (hH h5n) ?_ ?_ ?_ ?_ ?_
    · rw [List.length_take]
      omega
    · rw [List.length_take]
      omega
    · rw [List.length_drop]
      omega
    · rw [List.length_take, List.length_drop]
      omega
    · rw [List.take_append_drop]
      exact nms3
end
end My

namespace My
open PySem PySem.Spec PyProof.Rows L2
abbrev sOdd : Stmt := top 19
theorem scOdd : FnScope ["_law_pool_here", "_law_words", "_law_some"] ["_law_pool_here", "_law_words"] (defScope sOdd) := ⟨rfl, rfl, rfl, by decide +kernel, rfl, by decide +kernel, by decide +kernel⟩
def oddS : List Str := ["", "A", "a b", "abcdefghi", "a1", "a\tb", "a\n"]
/-- what _law_odd gives -/
def OddV (H : Hp) (z0 : Str) (y : V) : Prop := (y = .non ∨ y = .int 5 ∨ y = .bl true) ∨ (∃ s, s ∈ oddS ∧ y = .str s) ∨ y = .str z0 ∨ (∃ a, y = .ref a ∧ H a = some (.lst [.str "a"])) ∨ (∃ a, y = .ref a ∧ H a = some (.tup [.str "a"])) ∨ ∃ a, y = .ref a ∧ H a = some (.dK [])
theorem OddV.ext {H H' : Hp} {z0 : Str} {y : V} (h : OddV H z0 y) (e : Ext H H') : OddV H' z0 y := by
  rcases h with h | h | h | ⟨a, h1, h2⟩ | ⟨a, h1, h2⟩ | ⟨a, h1, h2⟩
  · exact .inl h
  · exact .inr (.inl h)
  · exact .inr (.inr (.inl h))
  · exact .inr (.inr (.inr (.inl ⟨a, h1, e _ _ h2⟩)))
  · exact .inr (.inr (.inr (.inr (.inl ⟨a, h1, e _ _ h2⟩))))
  · exact .inr (.inr (.inr (.inr (.inr ⟨a, h1, e _ _ h2⟩))))
def spOdd (K : PySem.W.Frag) : Sp := fun vs H Q _ => ∃ (p w : Addr) (n : Int) (z0 : Str) (r : List Str), vs = [.ref p, .ref w] ∧ Pool H p n ∧ n < 1000000 ∧ SqL K H w ((z0 :: r).map V.str) ∧ w ≠ p ∧ ∀ y H', But H H' p → Pool H' p (n + 1) → OddV H' z0 y → Q y H'
section
variable {P : Program} {w : World} {K : PySem.W.Frag} {mg : Str → Option Value} {base : Heap} {f fT : Addr} {fd fdT : FuncData}
theorem ok_odd (Fn : FnP K "_law_odd" sOdd f fd) (FT : FnOk P w K mg base CX0 1 fT fdT ["_law_pool_here", "_law_many"] spTake) (gT : mg "_law_take" = some (.ref fT)) (kT : PySem.W.keepIn K (.ref fT) = true) (bT : Binds K fdT ["_law_pool_here", "_law_many"] []) (gN : mg "len" = none) :
    FnOk P w K mg base CX0 2 f fd ["_law_pool_here", "_law_words"] (spOdd K) := by
  refine Fn.ok scOdd (fun vs H Q E h => ?_) (fun cdv A outer s H vs Q E hr h => ⟨_, PSs.nox
    (pss_cons (ps_set (i := 2) scOdd.nd rfl (.inl rfl) (pe_lst (pa_cons pe_non (pa_cons pe_int (pa_cons pe_str (pa_cons pe_str (pa_cons pe_str (pa_cons pe_str (pa_cons (pe_lst (pa_cons pe_str pa_nil)) (pa_cons (pe_tup (pa_cons pe_str pa_nil)) (pa_cons pe_dnewK
      (pa_cons pe_bl (pa_cons pe_str (pa_cons pe_str (pa_cons pe_str (pa_cons (pe_ix ix_list (pv 1) pe_int (fun _ _ => rfl)) pa_nil))))))))))))))))
    (pss_one (ps_ret (pe_ix ix_list (pv 2) (pe_call FT hr (by rfl) gT kT bT .nil pass0 (pa_cons (pv 0) (pa_cons (pe_callB call_len (by rfl) gN boot_len (pa_cons (pv 2) pa_nil)) pa_nil))) (fun _ _ => rfl))))), ?_⟩)
  · obtain ⟨p, wd, n, z0, r, rfl, _⟩ := h
    rfl
  · obtain ⟨p, wd, n, z0, r, rfl, hp, hn, hw, wp, q⟩ := h
    refine ⟨Nat.le_of_ble_eq_true rfl, fun l1 hl1 => ⟨Nat.le_of_ble_eq_true rfl, fun t2 ht2 => ?_⟩⟩
    intro d3 hd3
    obtain ⟨H3, hH3⟩ : ∃ H3, H3 = L2.upd (L2.upd (L2.upd H l1 (.lst [.str "a"])) t2 (.tup [.str "a"])) d3 (.dK []) := ⟨_, rfl⟩
    have x3 : Ext H H3 := by
      rw [hH3]
      exact ((Ext.upd hl1).trans (Ext.upd ht2)).trans (Ext.upd hd3)
    have e1 : H3 l1 = some (.lst [.str "a"]) := by
      rw [hH3]
      exact Ext.upd hd3 _ _ (Ext.upd ht2 _ _ upd_same)
    have e2 : H3 t2 = some (.tup [.str "a"]) := by
      rw [hH3]
      exact Ext.upd hd3 _ _ upd_same
    have e3 : H3 d3 = some (.dK []) := by rw [hH3, upd_same]
    rw [← hH3]
    refine ⟨_, rfl, wd, _, ((0 : Nat) : Int), .str z0, rfl, rfl, hw.ext x3, atI_nat rfl, ?_⟩
    refine ⟨Nat.le_of_ble_eq_true rfl, fun l4 hl4 => ?_⟩
    obtain ⟨its, hits⟩ : ∃ its : List V, its = [.non, .int 5, .str "", .str "A", .str "a b", .str "abcdefghi", .ref l1, .ref t2, .ref d3, .bl true, .str "a1", .str "a\tb", .str "a\n", .str z0] := ⟨_, rfl⟩
    rw [← hits]
    have hlen : its.length = 14 := by rw [hits]; rfl
    obtain ⟨H4, hH4⟩ : ∃ H4, H4 = L2.upd H3 l4 (.lst its) := ⟨_, rfl⟩
    rw [← hH4]
    have x4 : Ext H3 H4 := by
      rw [hH4]
      exact Ext.upd hl4
    have p4 : Pool H4 p n := pool_ext hp (x3.trans x4)
    have l44 : H4 l4 = some (.lst its) := by rw [hH4, upd_same]
    have l4p : l4 ≠ p := pool_ne (pool_ext hp x3) hl4
    refine ⟨_, rfl, _, rfl, _, rfl, _, its.length, rfl, .inl ⟨_, SqL.of l44, rfl⟩, p, (its.length : Int), n, rfl, by rw [hlen]; decide, by rw [hlen]; decide, p4, by omega, fun rr o r0 r1 gp => ?_⟩
    obtain ⟨H5, hH5⟩ : ∃ H5, H5 = L2.upd H4 p o := ⟨_, rfl⟩
    rw [← hH5] at gp
    rw [← hH5]
    have b5 : But H4 H5 p := by
      rw [hH5]
      exact But.upd (ext_but Ext.rfl')
    have b05 : But H H5 p := (ext_but (x3.trans x4)).trans b5
    obtain ⟨j, rfl⟩ := Int.eq_ofNat_of_zero_le r0
    have hj : j < its.length := Int.ofNat_lt.mp r1
    refine ⟨l4, its, _, its[j], rfl, rfl, SqL.of (b5 _ _ l4p l44), atI_nat (List.getElem?_eq_getElem hj), ?_⟩
    refine q _ H5 b05 gp ?_
    have k1 : H5 l1 = some (.lst [.str "a"]) := b5 _ _ (pool_ne hp hl1) (x4 _ _ e1)
    have ne2 : t2 ≠ p := by
      obtain ⟨_, _, _, hh, _⟩ := pool_ext hp x3
      exact ne_of e2 hh (fun z => nomatch z)
    have ne3 : d3 ≠ p := by
      obtain ⟨_, _, _, hh, _⟩ := pool_ext hp x3
      exact ne_of e3 hh (fun z => nomatch z)
    have k2 : H5 t2 = some (.tup [.str "a"]) := b5 _ _ ne2 (x4 _ _ e2)
    have k3 : H5 d3 = some (.dK []) := b5 _ _ ne3 (x4 _ _ e3)
    have hall : ∀ y, y ∈ its → OddV H5 z0 y := by
      rw [hits]
      intro y hy
      simp only [List.mem_cons, List.not_mem_nil, or_false] at hy
      rcases hy with rfl | rfl | rfl | rfl | rfl | rfl | rfl | rfl | rfl | rfl | rfl | rfl | rfl | rfl
      · exact .inl (.inl rfl)
      · exact .inl (.inr (.inl rfl))
      · exact .inr (.inl ⟨_, by decide +kernel, rfl⟩)
      · exact .inr (.inl ⟨_, by decide +kernel, rfl⟩)
      · exact .inr (.inl ⟨_, by decide +kernel, rfl⟩)
      · exact .inr (.inl ⟨_, by decide +kernel, rfl⟩)
      · exact .inr (.inr (.inr (.inl ⟨_, rfl, k1⟩)))
      · exact .inr (.inr (.inr (.inr (.inl ⟨_, rfl, k2⟩))))
      · exact .inr (.inr (.inr (.inr (.inr ⟨_, rfl, k3⟩))))
      · exact .inl (.inr (.inr rfl))
      · exact .inr (.inl ⟨_, by decide +kernel, rfl⟩)
      · exact .inr (.inl ⟨_, by decide +kernel, rfl⟩)
      · exact .inr (.inl ⟨_, by decide +kernel, rfl⟩)
      · exact .inr (.inr (.inl rfl))
    exact hall _ (List.getElem_mem hj)
end
end My

namespace My
open PySem PySem.Spec PyProof.Rows L2
abbrev sRight : Stmt := top 20
abbrev nRight : List Str := ["_law_house_here", "_law_folders", "_law_things", "_law_nodes", "_law_walked", "_law_node", "_law_odd_here", "_law_x", "_law_thing"]
theorem scRight : FnScope nRight ["_law_house_here", "_law_folders", "_law_things"] (defScope sRight) := ⟨rfl, rfl, rfl, by decide +kernel, rfl, by decide +kernel, by decide +kernel⟩
/-- what the law reads of House -/
structure HouseTxt (P : Program) (w : World) (K : PySem.W.Frag) (mg : Str → Option Value) (C CB : Addr) where
  T : HouC K C
  gH : mg "House" = some (.ref C)
  kCC : PySem.W.kitOne K (.ref C) (.ref C) = some true
  ne : PySem.W.findIn K (.ref C) "__ne__" = some (some (.builtin "object.__ne__"))
  noStr : PySem.W.subIn K (.ref C) (.type "str") = some false
  nb : ∀ T, T ∈ ["NoneType", "list", "tuple", "int", "str"] → PySem.W.notFirst K C (.type T) = true ∧ PySem.W.kitOne K (.type T) (.ref C) = some false
  fI : Addr
  fdI : FuncData
  M : Mk K C fI
  I : ∀ base, FnOk P w K mg base (L2.CX P w) 4 fI fdI ["self", "folders", "things"] (spHInit K C CB)
  bI : Binds K fdI ["self", "folders", "things"] []
  uD : Value
  bD : Binds K fdI ["self", "folders", "things"] [uD]
  aD : Addr
  eD : uD = .ref aD
  tD : ∀ H, SqT K H aD []
  fL : Addr
  fdL : FuncData
  mL : OwnM K C "__len__" fL
  L : ∀ base, FnOk P w K mg base CX0 1 fL fdL ["self"] (spHLen K C)
  bL : Binds K fdL ["self"] []
  fS : Addr
  fdS : FuncData
  mS : OwnM K C "__contains__" fS
  S : ∀ base, FnOk P w K mg base CX0 3 fS fdS ["self", "x"] (spHHas K C)
  bS : Binds K fdS ["self", "x"] []
  fW : Addr
  fdW : FuncData
  mW : OwnM K C "__iter__" fW
  W : ∀ base : Heap, FnOk P w K mg base CX0 1 fW fdW ["self"] (spIter K C "nodes" base.objs.size)
  bW : Binds K fdW ["self"] []
  fE : Addr
  fdE : FuncData
  mE : OwnM K C "__eq__" fE
  E : ∀ base, FnOk P w K mg base CX0 1 fE fdE ["self", "other"] (spHEq K C)
  bE : Binds K fdE ["self", "other"] []
def spRight (K : PySem.W.Frag) (C : Addr) : Sp := fun vs H Q _ => ∃ a lf lt fo th, vs = [.ref a, .ref lf, .ref lt] ∧ Hou H K C a fo th ∧ H lf = some (.lst (fo.map V.str)) ∧ H lt = some (.lst (th.map V.str)) ∧ 1 ≤ fo.length ∧ fo.length ≤ 3 ∧ th.length ≤ 3 ∧ Nms (fo ++ th) ∧
  ∀ H', Ext H H' → Q (.bl true) H'
/-! ### lists of truths as data -/
theorem dpAll_bl {K : PySem.W.Frag} {H : Hp} : ∀ bs : List Bool, DpAll K H (bs.map V.bl) (bs.map PyData.bool)
  | [] => .nil
  | b :: bs => .cons (.bl b) (dpAll_bl bs)
theorem canLay_bl : ∀ bs : List Bool, PyData.canLayAll0 (bs.map PyData.bool) = true
  | [] => rfl
  | b :: bs => by
    show (PyData.canLay0 (.bool b) && PyData.canLayAll0 (bs.map PyData.bool)) = true
    rw [canLay_bl bs]
    rfl
theorem depths_bl : ∀ bs : List Bool, PyData.depthAll (bs.map PyData.bool) ≤ 1
  | [] => Nat.zero_le _
  | b :: bs => by
    have h := depths_bl bs
    show max (PyData.depth (.bool b)) (PyData.depthAll (bs.map PyData.bool)) ≤ 1
    exact Nat.max_le.mpr ⟨by decide +revert, h⟩
theorem shaped_bl (bs : List Bool) : SeqAt.shaped (.list (bs.map PyData.bool)) = true := by
  refine Bool.and_eq_true_iff.mpr ⟨canLay_bl bs, decide_eq_true ?_⟩
  have h := depths_bl bs
  show PyData.depthAll (bs.map PyData.bool) + 1 ≤ 64
  omega
theorem inV_no {y : V} (h : ∀ z, eqV (.str z) y = false) (zs : List Str) : inV y (zs.map V.str) = false := by
  unfold inV
  rw [List.any_map, List.any_eq_false]
  intro z _ e
  have e' : eqV (.str z) y = true := e
  rw [h z] at e'
  cases e'
/-! ### lists of lists as data -/
theorem canLay_ds : ∀ ds : List PyData, (∀ d, d ∈ ds → d.canLay0 = true ∧ d.depth ≤ 2) → PyData.canLayAll0 ds = true ∧ PyData.depthAll ds ≤ 2
  | [], _ => ⟨rfl, Nat.zero_le _⟩
  | d :: ds, h => by
    obtain ⟨h1, h2⟩ := canLay_ds ds fun x hx => h x (List.mem_cons_of_mem _ hx)
    obtain ⟨h3, h4⟩ := h d List.mem_cons_self
    refine ⟨?_, Nat.max_le.mpr ⟨h4, h2⟩⟩
    show (d.canLay0 && PyData.canLayAll0 ds) = true
    rw [h1, h3]
    rfl
theorem shaped_ds (ds : List PyData) (h : ∀ d, d ∈ ds → d.canLay0 = true ∧ d.depth ≤ 2) : SeqAt.shaped (.list ds) = true := by
  obtain ⟨h1, h2⟩ := canLay_ds ds h
  refine Bool.and_eq_true_iff.mpr ⟨h1, decide_eq_true ?_⟩
  show PyData.depthAll ds + 1 ≤ 64
  omega
theorem flat_tup (zs : List Str) (h : OkS zs) : (PyData.tuple (zs.map PyData.str)).canLay0 = true ∧ (PyData.tuple (zs.map PyData.str)).depth ≤ 2 := ⟨canLay_str zs h, Nat.succ_le_succ (depths_str zs)⟩
theorem flat_lst (zs : List Str) (h : OkS zs) : (PyData.list (zs.map PyData.str)).canLay0 = true ∧ (PyData.list (zs.map PyData.str)).depth ≤ 2 := ⟨canLay_str zs h, Nat.succ_le_succ (depths_str zs)⟩
theorem dpAll_rep {K : PySem.W.Frag} {H : Hp} {d : PyData} : ∀ ws : List V, (∀ x, x ∈ ws → Dp K H x d) → DpAll K H ws (List.replicate ws.length d)
  | [], _ => .nil
  | x :: ws, h => .cons (h x List.mem_cons_self) (dpAll_rep ws fun y hy => h y (List.mem_cons_of_mem _ hy))
theorem flat_rep {α : Type} (n : Nat) (x : α) : (List.replicate n [x]).flatten = List.replicate n x := by
  induction n with
  | zero => rfl
  | succ n ih => rw [List.replicate_succ, List.flatten_cons, ih]; rfl
section
variable {P : Program} {w : World} {K : PySem.W.Frag} {mg : Str → Option Value} {base : Heap} {f C CB : Addr} {fd : FuncData}
theorem ok_right (Fn : FnP K "_law_is_right" sRight f fd) (Z : HouseTxt P w K mg C CB) (gT : mg "tuple" = none) (gN : mg "len" = none) : FnOk P w K mg base CX0 6 f fd ["_law_house_here", "_law_folders", "_law_things"] (spRight K C) := by
  refine Fn.ok scRight (fun vs H Q E h => ?_) (fun cdv A outer s H vs Q E hr h => ⟨_, PSs.nox
    (pss_cons (ps_set (i := 3) scRight.nd rfl (.inl rfl) (pe_op L2.op_cat (pv 1) (pv 2)))
      (pss_cons (ps_if (pt_cmpR (op_neD hr.units) (pe_lst (pa_cons (pe_fld (pv 0) rfl) (pa_cons (pe_fld (pv 0) rfl) (pa_cons (pe_fld (pv 0) rfl) pa_nil)))) (pe_lst (pa_cons (pe_callTy call_tup (by rfl) gT (by decide +kernel) (pa_cons (pv 1) pa_nil)) (pa_cons (pe_callTy call_tup (by rfl) gT (by decide +kernel) (pa_cons (pv 2) pa_nil)) (pa_cons (pe_callTy call_tup (by rfl) gT (by decide +kernel) (pa_cons (pv 3) pa_nil)) pa_nil)))) (nomark _)) (pss_one (ps_ret pe_bl)) pss_nil)
      (pss_cons (ps_set (i := 4) scRight.nd rfl (.inl rfl) (pe_lst pa_nil))
      (pss_cons (ps_for PassesOwn.never rfl (pi_own (hr.mono (by decide)) Z.mW Z.W Z.bW (pv 0)) (pg_name (i := 5) scRight.nd rfl (Or.inl rfl)) (pss_one (ps_expr (pe_bm PySem.F.plainAttrs_list PySem.F.slot_list_append PySem.F.type_list_append mt_append (pv 4) (pa_cons (pe_lc (own := [("_law_x", 7)]) (g := gName 7) (tt := tYes)  rfl scRight.nd (pi_own (hr.mono (by decide)) Z.mW Z.W Z.bW (pv 0)) (blkOk_by (N := nRight) (sc := defScope sRight) (by decide +kernel)) (fun _ _ _ _ _ => pg_name (i := 7) scRight.nd rfl (Or.inl rfl)) (fun _ _ _ _ _ => pts_nil) (fun _ _ _ _ _ => (pv 7))) pa_nil)))))
      (pss_cons (ps_if (PW.pt (pw_or (pt_cmpR op_ne (pe_callB (call_lenO (EI := E0) (hr.mono (by decide)) Z.mL (Z.L _) Z.bL pass0) (by rfl) gN boot_len (pa_cons (pv 0) pa_nil)) (pe_callB call_len (by rfl) gN boot_len (pa_cons (pv 3) pa_nil)) (nomark _)) (pw_or (pt_cmpR (op_neD hr.units) (pe_lc (own := [("_law_node", 5)]) (g := gName 5) (tt := tYes)  rfl scRight.nd (pi_own (hr.mono (by decide)) Z.mW Z.W Z.bW (pv 0)) (blkOk_by (N := nRight) (sc := defScope sRight) (by decide +kernel)) (fun _ _ _ _ _ => pg_name (i := 5) scRight.nd rfl (Or.inl rfl)) (fun _ _ _ _ _ => pts_nil) (fun _ _ _ _ _ => (pv 5))) (pv 3) (nomark _)) (pw_or1 (pt_cmpR (op_neD hr.units) (pv 4) (pe_op op_rep (pe_lst (pa_cons (pv 3) pa_nil)) (pe_callB call_len (by rfl) gN boot_len (pa_cons (pv 3) pa_nil))) (nomark _)))))) (pss_one (ps_ret pe_bl)) pss_nil)
      (pss_cons (ps_set (i := 6) scRight.nd rfl (.inl rfl) (pe_lst (pa_cons pe_str (pa_cons pe_str (pa_cons pe_non (pa_cons pe_int (pa_cons (pe_lst (pa_cons (pe_ix ix_list (pv 3) pe_int (fun _ _ => rfl)) pa_nil)) (pa_cons (pe_tup (pa_cons (pe_ix ix_list (pv 3) pe_int (fun _ _ => rfl)) pa_nil)) (pa_cons pe_bl (pa_cons pe_dnewK (pa_cons (pv 0) pa_nil)))))))))))
      (pss_one (ps_ret (pe_cmpR (op_eqD hr.units) (pe_lc (own := [("_law_thing", 8)]) (g := gName 8) (tt := tYes) (te := tOp (rInO C (spHHas K C) E0) (tVar 8) (tVar 0)) rfl scRight.nd (pi_list (pe_op L2.op_cat (pv 3) (pv 6))) (blkOk_by (N := nRight) (sc := defScope sRight) (by decide +kernel)) (fun _ _ _ _ _ => pg_name (i := 8) scRight.nd rfl (Or.inl rfl)) (fun _ _ _ _ _ => pts_nil) (fun _ _ _ _ _ => (pe_cmpR (op_inO (EI := E0) (hr.mono (by decide)) Z.mS (Z.S _) Z.bS pass0) (pv 8) (pv 0) (by rfl)))) (pe_op L2.op_cat (pe_op op_rep (pe_lst (pa_cons pe_bl pa_nil)) (pe_callB call_len (by rfl) gN boot_len (pa_cons (pv 3) pa_nil))) (pe_op op_rep (pe_lst (pa_cons pe_bl pa_nil)) (pe_callB call_len (by rfl) gN boot_len (pa_cons (pv 6) pa_nil)))) (nomark _)))))))))), ?_⟩)
  · obtain ⟨a, lf, lt, fo, th, rfl, _⟩ := h
    rfl
  · obtain ⟨a, lf, lt, fo, th, rfl, ho, hf, ht, f1, f3, t3, nms, q⟩ := h
    have okN : OkS (fo ++ th) := fun z hz => (nms.2 z hz).2.2.2.2
    have okf : OkS fo := ho.2.1
    have okt : OkS th := ho.2.2
    have n6 : (fo ++ th).length ≤ 6 := by rw [List.length_append]; omega
    refine ⟨_, rfl, _, rfl, lf, lt, _, _, rfl, rfl, hf, ht, by rw [List.length_map, List.length_map, sizeLine_eq]; omega, fun l3 hl3 => ?_⟩
    obtain ⟨nv, hnv⟩ : ∃ nv : List V, nv = (fo ++ th).map V.str := ⟨_, rfl⟩
    have nl : nv.length = (fo ++ th).length := by rw [hnv, List.length_map]
    obtain ⟨H1, hH1⟩ : ∃ H1, H1 = L2.upd H l3 (.lst (fo.map V.str ++ th.map V.str)) := ⟨_, rfl⟩
    rw [← hH1]
    have x1 : Ext H H1 := by
      rw [hH1]
      exact Ext.upd hl3
    have l31 : H1 l3 = some (.lst nv) := by rw [hH1, upd_same, hnv, List.map_append]
    obtain ⟨dx, fs, af, at', an, h1, h2, h3, h4, h5, h6, h7⟩ := (ho.ext x1).1
    rw [← List.map_append, ← hnv] at h7
    refine ⟨_, rfl, a, C, dx, fs, _, rfl, h1, Z.T.cl, Z.T.nf, h2, _, rfl, a, C, dx, fs, _, rfl, h1, Z.T.cl, Z.T.nt, h3, _, rfl, a, C, dx, fs, _, rfl, h1, Z.T.cl, Z.T.nn, h4, Nat.le_of_ble_eq_true rfl, fun l4 hl4 => ?_⟩
    obtain ⟨H2, hH2⟩ : ∃ H2, H2 = L2.upd H1 l4 (.lst [.ref af, .ref at', .ref an]) := ⟨_, rfl⟩
    rw [← hH2]
    have x2 : Ext H1 H2 := by
      rw [hH2]
      exact Ext.upd hl4
    have l42 : H2 l4 = some (.lst [.ref af, .ref at', .ref an]) := by rw [hH2, upd_same]
    refine ⟨_, rfl, lf, _, rfl, .inl (SqL.of (x2 _ _ (x1 _ _ hf))), fun t5 H5 x5 s5 => ?_⟩
    refine ⟨_, rfl, lt, _, rfl, .inl (SqL.of (x5 _ _ (x2 _ _ (x1 _ _ ht)))), fun t6 H6 x6 s6 => ?_⟩
    refine ⟨_, rfl, l3, _, rfl, .inl (SqL.of (x6 _ _ (x5 _ _ (x2 _ _ l31)))), fun t7 H7 x7 s7 => ?_⟩
    refine ⟨Nat.le_of_ble_eq_true rfl, fun l8 hl8 => ?_⟩
    obtain ⟨H8, hH8⟩ : ∃ H8, H8 = L2.upd H7 l8 (.lst [.ref t5, .ref t6, .ref t7]) := ⟨_, rfl⟩
    rw [← hH8]
    have x8 : Ext H7 H8 := by
      rw [hH8]
      exact Ext.upd hl8
    have l88 : H8 l8 = some (.lst [.ref t5, .ref t6, .ref t7]) := by rw [hH8, upd_same]
    have x28 : Ext H2 H8 := ((x5.trans x6).trans x7).trans x8
    have x18 : Ext H1 H8 := x2.trans x28
    have D3s : SeqAt.shaped (.list [.tuple (fo.map PyData.str), .tuple (th.map PyData.str), .tuple ((fo ++ th).map PyData.str)]) = true := shaped_ds _ fun d hd => by
      simp only [List.mem_cons, List.not_mem_nil, or_false] at hd
      rcases hd with rfl | rfl | rfl
      · exact flat_tup fo okf
      · exact flat_tup th okt
      · exact flat_tup _ okN
    have dN : DpAll K H8 nv ((fo ++ th).map PyData.str) := by rw [hnv]; exact dpAll_str _
    refine ⟨_, _, .lst (SqL.of (x28 _ _ l42)) (.cons (.tup (h5.ext x18) (dpAll_str fo)) (.cons (.tup (h6.ext x18) (dpAll_str th)) (.cons (.tup (h7.ext x18) dN) .nil))),
      .lst (SqL.of l88) (.cons (.tup (((s5.ext x6).ext x7).ext x8) (dpAll_str fo)) (.cons (.tup ((s6.ext x7).ext x8) (dpAll_str th)) (.cons (.tup (s7.ext x8) dN) .nil))), D3s, D3s, _, rfl, ?_⟩
    rw [SeqAt.eqv_refl _ (SeqAt.canLay_of_shaped D3s)]
    refine iteF ?_
    refine ⟨Nat.zero_le _, fun l9 hl9 => ?_⟩
    -- what stands from here on
    have ho8 : Hou H8 K C a fo th := ho.ext (x1.trans x18)
    have l38 : H8 l3 = some (.lst nv) := x18 _ _ l31
    have a8 := x18 _ _ h1
    have n8 := h7.ext x18
    have hwalk : ∀ H' : Hp, Ext H8 H' → ∀ D, H' D = none → True := fun _ _ _ _ => trivial
    refine ⟨_, rfl, a, dx, fs, an, nv, rfl, Ext.upd hl9 _ _ a8, h4, n8.ext (Ext.upd hl9), for_it (walk_tup (xs := nv)) (fun i σ H' => ∃ (v5 : Option V) (ws : List V), σ = [some (.ref a), some (.ref lf), some (.ref lt), some (.ref l3), some (.ref l9), v5, none, none, none] ∧ Ext H8 H' ∧ H' l9 = some (.lst ws) ∧ ws.length = i ∧ ∀ x, x ∈ ws → ∃ b, x = .ref b ∧ b ≠ l9 ∧ H' b = some (.lst nv))
      ⟨none, [], rfl, Ext.upd hl9, upd_same, rfl, fun x hx => by cases hx⟩ (fun i σ H' _ ⟨_, _, _, z, _⟩ => n8.ext z) ?_ ?_⟩
    · rintro i x σ H' H'' hi ⟨v5, ws, rfl, xw, lw, wl, wa⟩ ⟨rfl, hx⟩
      refine ⟨_, rfl, .inl ⟨rfl, _, SqL.of lw⟩, ?_⟩
      refine ⟨_, rfl, a, dx, fs, an, nv, rfl, xw _ _ a8, h4, n8.ext xw, fun D hD => lc_it (walk_tup (xs := nv)) (fun j Hj => Ext H'' Hj ∧ Hj D = some (.lst (nv.take j))) ⟨Ext.upd hD, upd_same⟩ (fun j Hj _ z => (n8.ext xw).ext z.1) ?_ ?_⟩
      · rintro j y Hj Hj' hj ⟨xj, lj⟩ ⟨rfl, hy⟩
        refine ⟨rfl, ?_⟩
        refine lcYes ?_
        refine ⟨_, rfl, _, lj, ?_, xj.over hD, ?_⟩
        · rw [List.length_take, sizeLine_eq]
          omega
        · rw [upd_same, List.take_add_one, hy]
          rfl
      rintro Hd ⟨xd, ld⟩
      rw [List.take_length] at ld
      have lw' := xd _ _ lw
      have ne9 : l9 ≠ D := ne_of_none lw hD
      refine ⟨l9, ws, _, rfl, rfl, lw', by rw [wl, sizeLine_eq]; omega, _, ws ++ [.ref D], rfl, ?_, upd_same, by rw [List.length_append, wl]; rfl, fun y hy => ?_⟩
      · exact (xw.trans xd).over hl9
      · rcases List.mem_append.mp hy with hy | hy
        · obtain ⟨b, rfl, e, hb⟩ := wa y hy
          refine ⟨b, rfl, e, ?_⟩
          rw [upd_ne e]
          exact xd _ _ hb
        · rw [List.mem_singleton.mp hy]
          exact ⟨D, rfl, Ne.symm ne9, by rw [upd_ne (Ne.symm ne9)]; exact ld⟩
    rintro σ H' ⟨v5, ws, rfl, xw, lw, wl, wa⟩
    have hoW := ho8.ext xw
    refine ⟨_, rfl, a, dx, fs, rfl, xw _ _ a8, a, fo, th, rfl, hoW, ((fo ++ th).length : Int), rfl, Int.natCast_nonneg _, Int.lt_of_le_of_lt (Int.ofNat_le.mpr n6) (by decide), ?_⟩
    refine ⟨_, rfl, _, nv.length, rfl, .inl ⟨_, SqL.of (xw _ _ l38), rfl⟩, rfl, _, rfl, ?_⟩
    rw [nl]
    refine ite2 (fun e => absurd e (by simp)) (fun _ => ?_)
    refine ⟨_, rfl, a, dx, fs, an, nv, rfl, xw _ _ a8, h4, n8.ext xw, fun D hD => lc_it (walk_tup (xs := nv)) (fun j Hj => Ext H' Hj ∧ Hj D = some (.lst (nv.take j))) ⟨Ext.upd hD, upd_same⟩ (fun j Hj _ z => (n8.ext xw).ext z.1) ?_ ?_⟩
    · rintro j y Hj Hj' hj ⟨xj, lj⟩ ⟨rfl, hy⟩
      refine ⟨rfl, ?_⟩
      refine lcYes ?_
      refine ⟨_, rfl, _, lj, ?_, xj.over hD, ?_⟩
      · rw [List.length_take, sizeLine_eq]
        omega
      · rw [upd_same, List.take_add_one, hy]
        rfl
    rintro Hd ⟨xd, ld⟩
    rw [List.take_length] at ld
    have l3d := xd _ _ (xw _ _ l38)
    have dNd : DpAll K Hd nv ((fo ++ th).map PyData.str) := by rw [hnv]; exact dpAll_str _
    have sN := shaped_strL (fo ++ th) okN
    refine ⟨_, rfl, _, _, .lst (SqL.of ld) dNd, .lst (SqL.of l3d) dNd, sN, sN, _, rfl, ?_⟩
    rw [SeqAt.eqv_refl _ (SeqAt.canLay_of_shaped sN)]
    refine iteF ?_
    have l9d := xd _ _ lw
    refine ⟨_, rfl, _, rfl, Nat.le_of_ble_eq_true rfl, fun l10 hl10 => ?_⟩
    refine ⟨_, rfl, _, nv.length, rfl, .inl ⟨_, SqL.of (Ext.upd hl10 _ _ l3d), rfl⟩, l10, _, _, rfl, rfl, upd_same, Int.le_trans (by decide) (Int.natCast_nonneg _), Int.lt_of_le_of_lt (Int.ofNat_le.mpr (by rw [nl]; exact n6)) (by decide), by rw [Int.toNat_natCast, nl, sizeLine_eq]; show 1 * _ ≤ _; omega, fun l11 hl11 => ?_⟩
    rw [Int.toNat_natCast, flat_rep]
    obtain ⟨H11, hH11⟩ : ∃ H11, H11 = L2.upd (L2.upd Hd l10 (.lst [.ref l3])) l11 (.lst (List.replicate nv.length (.ref l3))) := ⟨_, rfl⟩
    rw [← hH11]
    have x11 : Ext Hd H11 := by
      rw [hH11]
      exact (Ext.upd hl10).trans (Ext.upd hl11)
    have l1111 : H11 l11 = some (.lst (List.replicate nv.length (.ref l3))) := by rw [hH11, upd_same]
    obtain ⟨dL, hdL⟩ : ∃ dL, dL = PyData.list ((fo ++ th).map PyData.str) := ⟨_, rfl⟩
    have hdL2 : dL.canLay0 = true ∧ dL.depth ≤ 2 := by rw [hdL]; exact flat_lst _ okN
    have sW : SeqAt.shaped (.list (List.replicate nv.length dL)) = true := shaped_ds _ fun d hd => by
      rw [List.eq_of_mem_replicate hd]
      exact hdL2
    have dp3 : Dp K H11 (.ref l3) dL := by
      rw [hdL]
      exact .lst (SqL.of (x11 _ _ l3d)) (by rw [hnv]; exact dpAll_str _)
    have dW : DpAll K H11 ws (List.replicate nv.length dL) := by
      rw [← wl]
      refine dpAll_rep ws fun x hx => ?_
      obtain ⟨b, rfl, _, hb⟩ := wa x hx
      rw [hdL]
      exact .lst (SqL.of (x11 _ _ (xd _ _ hb))) (by rw [hnv]; exact dpAll_str _)
    have dR : DpAll K H11 (List.replicate nv.length (.ref l3)) (List.replicate nv.length dL) := by
      have z := dpAll_rep (K := K) (H := H11) (d := dL) (List.replicate nv.length (.ref l3)) fun x hx => by
        rw [List.eq_of_mem_replicate hx]
        exact dp3
      rw [List.length_replicate] at z
      exact z
    refine ⟨_, _, .lst (SqL.of (x11 _ _ l9d)) dW, .lst (SqL.of l1111) dR, sW, sW, _, rfl, ?_⟩
    rw [SeqAt.eqv_refl _ (SeqAt.canLay_of_shaped sW)]
    refine iteF ?_
    -- the odd things
    have l3e := x11 _ _ l3d
    obtain ⟨z0, zr, hz0⟩ : ∃ z0 zr, fo ++ th = z0 :: zr := by
      cases e : fo ++ th with
      | cons z zr => exact ⟨z, zr, rfl⟩
      | nil =>
        have := congrArg List.length e
        rw [List.length_append] at this
        simp at this
        rw [this.1] at f1
        simp at f1
    have nv0 : nv[0]? = some (.str z0) := by rw [hnv, hz0]; rfl
    refine ⟨_, rfl, l3, _, ((0 : Nat) : Int), .str z0, rfl, rfl, SqL.of l3e, atI_nat nv0, Nat.le_of_ble_eq_true rfl, fun l12 hl12 => ?_⟩
    refine ⟨_, rfl, l3, _, ((0 : Nat) : Int), .str z0, rfl, rfl, SqL.of (Ext.upd hl12 _ _ l3e), atI_nat nv0, Nat.le_of_ble_eq_true rfl, fun t13 ht13 => ?_⟩
    intro d14 hd14
    obtain ⟨H14, hH14⟩ : ∃ H14, H14 = L2.upd (L2.upd (L2.upd H11 l12 (.lst [.str z0])) t13 (.tup [.str z0])) d14 (.dK []) := ⟨_, rfl⟩
    rw [← hH14]
    have x14 : Ext H11 H14 := by
      rw [hH14]
      exact ((Ext.upd hl12).trans (Ext.upd ht13)).trans (Ext.upd hd14)
    have e12 : H14 l12 = some (.lst [.str z0]) := by
      rw [hH14]
      exact Ext.upd hd14 _ _ (Ext.upd ht13 _ _ upd_same)
    have e13 : H14 t13 = some (.tup [.str z0]) := by
      rw [hH14]
      exact Ext.upd hd14 _ _ upd_same
    have e14 : H14 d14 = some (.dK []) := by rw [hH14, upd_same]
    refine ⟨_, rfl, Nat.le_of_ble_eq_true rfl, fun l15 hl15 => ?_⟩
    obtain ⟨od, hod⟩ : ∃ od : List V, od = [.str "none", .str "", .non, .int 5, .ref l12, .ref t13, .bl true, .ref d14, .ref a] := ⟨_, rfl⟩
    rw [← hod]
    obtain ⟨H15, hH15⟩ : ∃ H15, H15 = L2.upd H14 l15 (.lst od) := ⟨_, rfl⟩
    rw [← hH15]
    have x15 : Ext H14 H15 := by
      rw [hH15]
      exact Ext.upd hl15
    have l155 : H15 l15 = some (.lst od) := by rw [hH15, upd_same]
    have odl : od.length = 9 := by rw [hod]; rfl
    have xW : Ext H' H15 := ((xd.trans x11).trans x14).trans x15
    have ho15 : Hou H15 K C a fo th := hoW.ext xW
    have l315 : H15 l3 = some (.lst nv) := x15 _ _ (x14 _ _ l3e)
    refine ⟨_, rfl, _, rfl, l3, l15, nv, od, rfl, rfl, l315, l155, by rw [odl, nl, sizeLine_eq]; omega, fun l16 hl16 => ?_⟩
    obtain ⟨H16, hH16⟩ : ∃ H16, H16 = L2.upd H15 l16 (.lst (nv ++ od)) := ⟨_, rfl⟩
    rw [← hH16]
    have x16 : Ext H15 H16 := by
      rw [hH16]
      exact Ext.upd hl16
    have l1616 : H16 l16 = some (.lst (nv ++ od)) := by rw [hH16, upd_same]
    obtain ⟨bs, hbs⟩ : ∃ bs : List Bool, bs = List.replicate nv.length true ++ List.replicate od.length false := ⟨_, rfl⟩
    have blen : bs.length = (nv ++ od).length := by rw [hbs, List.length_append, List.length_append, List.length_replicate, List.length_replicate]
    have has : ∀ (i : Nat) (y : V) (b : Bool) (Hj : Hp) (R : Bool → Hp → Prop), (nv ++ od)[i]? = some y → bs[i]? = some b → Ext H16 Hj → (∀ H2, Ext Hj H2 → R b H2) → spHHas K C [.ref a, y] Hj (fun v H2 => ∃ b', v = .bl b' ∧ R b' H2) E0 := by
      intro i y b Hj R hy hb xj hR
      have hoj := (ho15.ext x16).ext xj
      have flat : ∀ y : V, flatV y = true → inV y ((fo ++ th).map V.str) = b → spHHas K C [.ref a, y] Hj (fun v H2 => ∃ b', v = .bl b' ∧ R b' H2) E0 := fun y f1 f2 => ⟨a, fo, th, y, rfl, hoj, .inl ⟨f1, _, rfl, by rw [f2]; exact hR Hj Ext.rfl'⟩⟩
      have noT : ∀ y : V, NoText K Hj y → b = false → spHHas K C [.ref a, y] Hj (fun v H2 => ∃ b', v = .bl b' ∧ R b' H2) E0 := fun y f1 f2 => ⟨a, fo, th, y, rfl, hoj, .inr (.inl ⟨f1, false, rfl, by rw [← f2]; exact hR Hj Ext.rfl'⟩)⟩
      by_cases hi : i < nv.length
      · rw [List.getElem?_append_left hi] at hy
        rw [hbs, List.getElem?_append_left (by rw [List.length_replicate]; exact hi), List.getElem?_replicate, if_pos hi] at hb
        cases hb
        rw [hnv, List.getElem?_map] at hy
        cases ez : (fo ++ th)[i]? with
        | none =>
          rw [ez] at hy
          cases hy
        | some z =>
          rw [ez] at hy
          cases hy
          exact flat _ rfl (by rw [inV_str, decide_eq_true (List.mem_of_getElem? ez)])
      · have hi' : nv.length ≤ i := Nat.le_of_not_lt hi
        rw [List.getElem?_append_right hi'] at hy
        rw [hbs, List.getElem?_append_right (by rw [List.length_replicate]; exact hi'), List.length_replicate, List.getElem?_replicate] at hb
        have hb' : b = false := by
          split at hb
          · cases hb; rfl
          · cases hb
        have hm := List.mem_of_getElem? hy
        have xA : Ext H14 Hj := (x15.trans x16).trans xj
        rw [hod] at hm
        simp only [List.mem_cons, List.not_mem_nil, or_false] at hm
        rcases hm with rfl | rfl | rfl | rfl | rfl | rfl | rfl | rfl | rfl
        · refine flat _ rfl ?_
          rw [inV_str, hb', decide_eq_false fun h => (nms.2 _ h).2.1 (by decide +kernel)]
        · refine flat _ rfl ?_
          rw [inV_str, hb', decide_eq_false fun h => by
            have z := (nms.2 _ h).1
            exact absurd z (by decide +kernel)]
        · exact flat _ rfl (by rw [hb']; exact inV_no (fun _ => rfl) _)
        · exact flat _ rfl (by rw [hb']; exact inV_no (fun _ => rfl) _)
        · exact noT _ (.inl ⟨l12, _, rfl, .inl (SqL.of (xA _ _ e12))⟩) hb'
        · exact noT _ (.inl ⟨t13, _, rfl, .inr (SqT.of (xA _ _ e13))⟩) hb'
        · exact flat _ rfl (by rw [hb']; exact inV_no (fun _ => rfl) _)
        · exact noT _ (.inr ⟨d14, _, rfl, xA _ _ e14⟩) hb'
        · exact ⟨a, fo, th, _, rfl, hoj, .inr (.inr ⟨a, fo, th, rfl, hoj, fun H2 x2 => ⟨false, rfl, by rw [← hb']; exact hR H2 x2⟩⟩)⟩
    refine ⟨l16, rfl, ⟨_, SqL.of l1616⟩, fun D hD => lc_it (walk_list (xs := nv ++ od)) (fun i Hj => Ext H16 Hj ∧ Hj D = some (.lst ((bs.take i).map V.bl))) ⟨Ext.upd hD, upd_same⟩ (fun i Hj _ z => SqL.of (z.1 _ _ l1616)) ?_ ?_⟩
    · rintro i x Hj Hj' hi ⟨xj, lj⟩ ⟨rfl, hx⟩
      refine ⟨rfl, ?_⟩
      refine lcYes ?_
      have hib : i < bs.length := by rw [blen]; exact hi
      have hb := List.getElem?_eq_getElem hib
      refine ⟨_, rfl, _, rfl, a, dx, fs, rfl, xj _ _ (x16 _ _ (xW _ _ (xw _ _ a8))), has i x bs[i] Hj' _ hx hb xj fun H2 x2 => ?_⟩
      refine ⟨_, x2 _ _ lj, ?_, (xj.trans x2).over hD, ?_⟩
      · rw [List.length_map, List.length_take, sizeLine_eq]
        have : (nv ++ od).length ≤ 15 := by rw [List.length_append, odl, nl]; omega
        omega
      · rw [upd_same, List.take_add_one, hb, List.map_append]
        rfl
    rintro Hk ⟨xk, lk⟩
    rw [show (nv ++ od).length = bs.length from blen.symm, List.take_length] at lk
    have l3k := xk _ _ (x16 _ _ l315)
    have l15k := xk _ _ (x16 _ _ l155)
    refine ⟨Nat.le_of_ble_eq_true rfl, fun l17 hl17 => ?_⟩
    refine ⟨_, rfl, _, nv.length, rfl, .inl ⟨_, SqL.of (Ext.upd hl17 _ _ l3k), rfl⟩, l17, _, _, rfl, rfl, upd_same, Int.le_trans (by decide) (Int.natCast_nonneg _), Int.lt_of_le_of_lt (Int.ofNat_le.mpr (by rw [nl]; exact n6)) (by decide), by rw [Int.toNat_natCast, nl, sizeLine_eq]; show 1 * _ ≤ _; omega, fun l18 hl18 => ?_⟩
    rw [Int.toNat_natCast, flat_rep]
    obtain ⟨H18, hH18⟩ : ∃ H18, H18 = L2.upd (L2.upd Hk l17 (.lst [.bl true])) l18 (.lst (List.replicate nv.length (.bl true))) := ⟨_, rfl⟩
    rw [← hH18]
    have x18' : Ext Hk H18 := by
      rw [hH18]
      exact (Ext.upd hl17).trans (Ext.upd hl18)
    have e18 : H18 l18 = some (.lst (List.replicate nv.length (.bl true))) := by rw [hH18, upd_same]
    refine ⟨Nat.le_of_ble_eq_true rfl, fun l19 hl19 => ?_⟩
    refine ⟨_, rfl, _, od.length, rfl, .inl ⟨_, SqL.of (Ext.upd hl19 _ _ (x18' _ _ l15k)), rfl⟩, l19, _, _, rfl, rfl, upd_same, Int.le_trans (by decide) (Int.natCast_nonneg _), by rw [odl]; decide, by rw [Int.toNat_natCast, odl]; decide, fun l20 hl20 => ?_⟩
    rw [Int.toNat_natCast, flat_rep]
    obtain ⟨H20, hH20⟩ : ∃ H20, H20 = L2.upd (L2.upd H18 l19 (.lst [.bl false])) l20 (.lst (List.replicate od.length (.bl false))) := ⟨_, rfl⟩
    rw [← hH20]
    have x20 : Ext H18 H20 := by
      rw [hH20]
      exact (Ext.upd hl19).trans (Ext.upd hl20)
    have e20 : H20 l20 = some (.lst (List.replicate od.length (.bl false))) := by rw [hH20, upd_same]
    refine ⟨l18, l20, _, _, rfl, rfl, x20 _ _ e18, e20, by rw [List.length_replicate, List.length_replicate, odl, nl, sizeLine_eq]; omega, fun l21 hl21 => ?_⟩
    have x21 := Ext.upd (o := .lst (List.replicate nv.length (V.bl true) ++ List.replicate od.length (.bl false))) hl21
    have eqL : List.replicate nv.length (V.bl true) ++ List.replicate od.length (.bl false) = bs.map V.bl := by rw [hbs, List.map_append, List.map_replicate, List.map_replicate]
    refine ⟨_, _, .lst (SqL.of (x21 _ _ (x20 _ _ (x18' _ _ lk)))) (dpAll_bl bs), .lst (SqL.of (by rw [upd_same, eqL])) (dpAll_bl bs), shaped_bl bs, shaped_bl bs, ?_⟩
    rw [SeqAt.eqv_refl _ (SeqAt.canLay_of_shaped (shaped_bl bs))]
    exact q _ (((((x1.trans x18).trans xw).trans xW).trans x16).trans (((xk.trans x18').trans x20).trans x21))
end
end My

namespace My
open PySem PySem.Spec PyProof.Rows L2
/-! ### houses that can be made -/
def Nok (zs : List Str) : Prop := zs.Nodup ∧ ∀ z, z ∈ zs → nameB z = true ∧ PyData.strOk z = true ∧ z.length ≤ sizeLine
theorem Nms.ok {zs : List Str} (h : Nms zs) : Nok zs := ⟨h.1, fun z hz => ⟨(h.2 z hz).1, (h.2 z hz).2.2.2.2, Nat.le_trans (h.2 z hz).2.2.2.1 (by rw [sizeLine_eq]; decide)⟩⟩
theorem Nok.perm {zs ws : List Str} (h : Nok zs) (p : ws.Perm zs) : Nok ws := ⟨p.nodup_iff.mpr h.1, fun z hz => h.2 z (p.mem_iff.mp hz)⟩
theorem Nok.zq {zs : List Str} (h : Nms zs) : Nok ("zq" :: zs) := by
  refine ⟨List.nodup_cons.mpr ⟨fun z => (h.2 _ z).2.2.1 rfl, h.1⟩, fun z hz => ?_⟩
  rcases List.mem_cons.mp hz with rfl | hz
  · decide +kernel
  · exact h.ok.2 z hz
theorem wrong_ok {zs : List Str} (h : Nok zs) : wrongOf (zs.map V.str) = none := by
  refine wrong_none fun i hi => ?_
  rw [List.length_map] at hi
  unfold badAt
  rw [List.getElem?_map, List.getElem?_eq_getElem hi]
  show (!nameB zs[i] || inV (.str zs[i]) ((zs.map V.str).take i)) = false
  rw [(h.2 _ (List.getElem_mem hi)).1, ← List.map_take, inV_str]
  have nd := h.1
  rw [← List.take_append_drop i zs, List.nodup_append] at nd
  have hd : zs[i] ∈ zs.drop i := by
    rw [List.drop_eq_getElem_cons hi]
    exact List.mem_cons_self
  rw [decide_eq_false fun hm => nd.2.2 _ hm _ hd rfl]
  rfl
theorem part_ok {fo th : List Str} (h : Nok (fo ++ th)) (hf : fo ≠ []) : partOf (some (fo.map V.str)) (some (th.map V.str)) = none := by
  have hl : ¬ (fo.map V.str).length = 0 := by
    rw [List.length_map]
    exact fun e => hf (List.eq_nil_of_length_eq_zero e)
  show (if (fo.map V.str).length = 0 then some 0 else wrongOf (fo.map V.str ++ th.map V.str)) = none
  rw [if_neg hl, ← List.map_append, wrong_ok h]
theorem things_ok {K : PySem.W.Frag} {H : Hp} {zs : List Str} (h : ∀ z, z ∈ zs → z.length ≤ sizeLine) : ∀ y, y ∈ zs.map V.str → Thing K H y := fun y hy => by
  obtain ⟨z, hz, rfl⟩ := List.mem_map.mp hy
  exact .inl ⟨z, rfl, h z hz⟩
/-- House(..) of good names -/
theorem mk_at {K : PySem.W.Frag} {C CB a b x' dx : Addr} {H : Hp} {fo th : List Str} {R : Hp → Prop} {E : XK} (sf : SeqAt2 K H a (fo.map V.str)) (st : SeqAt2 K H b (th.map V.str)) (ok : Nok (fo ++ th)) (hf : fo ≠ []) (hl : (fo ++ th).length ≤ sizeLine)
    (h1 : H x' = none) (h2 : H dx = none) (h3 : dx ≠ x') (q : ∀ H', Ext H H' → Hou H' K C x' fo th → R H') : spHInit K C CB [.ref x', .ref a, .ref b] (L2.upd (L2.upd H dx (.own x')) x' (.ins C dx [])) (fun v H2 => v = .non ∧ R H2) E := by
  have xn : Ext H (L2.upd (L2.upd H dx (.own x')) x' (.ins C dx [])) := fun c u k => by
    rw [upd_ne (ne_of_none k h1), upd_ne (ne_of_none k h2)]
    exact k
  have okf : ∀ z, z ∈ fo → _ := fun z hz => ok.2 z (List.mem_append_left _ hz)
  have okt : ∀ z, z ∈ th → _ := fun z hz => ok.2 z (List.mem_append_right _ hz)
  refine ⟨x', dx, _, _, some (fo.map V.str), some (th.map V.str), rfl, upd_same, ⟨a, rfl, sf.ext xn, things_ok fun z hz => (okf z hz).2.2⟩, ⟨b, rfl, st.ext xn, things_ok fun z hz => (okt z hz).2.2⟩, fun xs ys e1 e2 => ?_, fun xs ys H' e1 e2 _ bt hs => ⟨rfl, ?_⟩, fun i d H' e => ?_⟩
  · cases e1
    cases e2
    rw [← List.map_append, List.length_map]
    exact hl
  · cases e1
    cases e2
    refine q H' (fun c u k => bt c u (ne_of_none k h1) (xn c u k)) ⟨hs, fun z hz => (okf z hz).2.1, fun z hz => (okt z hz).2.1⟩
  · rw [part_ok ok hf] at e
    cases e
abbrev zqS : Str := "zq"
abbrev sUnlike : Stmt := top 21
abbrev nUnlike : List Str := ["_law_house_here", "_law_folders", "_law_things", "_law_others", "_law_x"]
theorem scUnlike : FnScope nUnlike ["_law_house_here", "_law_folders", "_law_things"] (defScope sUnlike) := ⟨rfl, rfl, rfl, by decide +kernel, rfl, by decide +kernel, by decide +kernel⟩
theorem HouseTxt.vD {P : Program} {w : World} {K : PySem.W.Frag} {mg : Str → Option Value} {C CB : Addr} (Z : HouseTxt P w K mg C CB) : Vals [V.ref Z.aD] [Z.uD] := .cons Z.eD .nil
def Un (H : Hp) (K : PySem.W.Frag) (C : Addr) (fo th : List Str) (x : V) : Prop := ∃ b fo2 th2, x = .ref b ∧ Hou H K C b fo2 th2 ∧ ¬ (fo = fo2 ∧ th = th2)
theorem sqT_upd {K : PySem.W.Frag} {H : Hp} {l f : Addr} {ys zs xs : List V} (h : SqT K H f xs) (hl : H l = some (.lst ys)) : SqT K (L2.upd H l (.lst zs)) f xs := by
  rcases h with (h | ⟨o, h⟩) | h
  · exact .inl (.inl (by rw [upd_ne (ne_of h hl (fun z => nomatch z))]; exact h))
  · exact .inl (.inr ⟨o, by rw [upd_ne (ne_of h hl (fun z => nomatch z))]; exact h⟩)
  · exact .inr h
theorem hou_upd {H : Hp} {K : PySem.W.Frag} {C b l : Addr} {fo th : List Str} {ys zs : List V} (h : Hou H K C b fo th) (hl : H l = some (.lst ys)) : Hou (L2.upd H l (.lst zs)) K C b fo th := by
  obtain ⟨⟨dx, fs, f, t, n, h1, h2, h3, h4, h5, h6, h7⟩, ok⟩ := h
  exact ⟨⟨dx, fs, f, t, n, by rw [upd_ne (ne_of h1 hl (fun z => nomatch z))]; exact h1, h2, h3, h4, sqT_upd h5 hl, sqT_upd h6 hl, sqT_upd h7 hl⟩, ok⟩
theorem rev_ne {zs : List Str} (h1 : 1 < zs.length) (h3 : zs.length ≤ 3) (nd : zs.Nodup) : zs.reverse ≠ zs := fun e => by
  match zs, h1, h3, nd, e with
  | [x, y], _, _, nd, e =>
    have e1 : y = x := by simpa using (congrArg List.head? e)
    simp [e1] at nd
  | [x, y, z], _, _, nd, e =>
    have e1 : z = x := by simpa using (congrArg List.head? e)
    simp [e1] at nd
section
variable {P : Program} {w : World} {K : PySem.W.Frag} {mg : Str → Option Value} {base : Heap} {f C CB : Addr} {fd : FuncData}
theorem ok_unlike (Fn : FnP K "_law_unlike" sUnlike f fd) (Z : HouseTxt P w K mg C CB) (gT : mg "tuple" = none) (gN : mg "len" = none) (gA : mg "any" = none) : FnOk P w K mg base CX0 6 f fd ["_law_house_here", "_law_folders", "_law_things"] (spRight K C) := by
  refine Fn.ok scUnlike (fun vs H Q E h => ?_) (fun cdv A outer s H vs Q E hr h => ⟨_, PSs.nox
    (pss_cons (ps_set (i := 3) scUnlike.nd rfl (.inl rfl) (pe_lst (pa_cons (pe_make Z.M (Z.I _) (hr.mono (by decide)) (by rfl) Z.gH Z.bI .nil passL (pa_cons (pv 1) (pa_cons (pe_op L2.op_cat (pv 2) (pe_lst (pa_cons pe_str pa_nil))) pa_nil))) (pa_cons (pe_make Z.M (Z.I _) (hr.mono (by decide)) (by rfl) Z.gH Z.bI .nil passL (pa_cons (pe_op L2.op_cat (pv 1) (pe_lst (pa_cons pe_str pa_nil))) (pa_cons (pv 2) pa_nil))) (pa_cons (pe_make Z.M (Z.I _) (hr.mono (by decide)) (by rfl) Z.gH Z.bD Z.vD passL (pa_cons (pe_op L2.op_cat (pv 1) (pv 2)) pa_nil)) pa_nil)))))
      (pss_cons (ps_set (i := 3) scUnlike.nd rfl (.inl rfl) (pe_op L2.op_cat (pv 3) (pe_lst (pa_cons (pe_make Z.M (Z.I _) (hr.mono (by decide)) (by rfl) Z.gH Z.bI .nil passL (pa_cons (pe_op L2.op_cat (pe_lst (pa_cons pe_str pa_nil)) (pv 1)) (pa_cons (pv 2) pa_nil))) pa_nil))))
      (C8.pss_cut (ps_if (pt_cmpR op_gt (pe_callB call_len (by rfl) gN boot_len (pa_cons (pv 1) pa_nil)) pe_int (nomark _)) (pss_one (ps_expr (pe_bm PySem.F.plainAttrs_list PySem.F.slot_list_append PySem.F.type_list_append mt_append (pv 3) (pa_cons (pe_make Z.M (Z.I _) (hr.mono (by decide)) (by rfl) Z.gH Z.bI .nil passL (pa_cons (pe_revL (pv 1)) (pa_cons (pv 2) pa_nil))) pa_nil)))) pss_nil)
      (C8.pss_cut (ps_if (pt_cmpR op_gt (pe_callB call_len (by rfl) gN boot_len (pa_cons (pv 2) pa_nil)) pe_int (nomark _)) (pss_one (ps_expr (pe_bm PySem.F.plainAttrs_list PySem.F.slot_list_append PySem.F.type_list_append mt_append (pv 3) (pa_cons (pe_make Z.M (Z.I _) (hr.mono (by decide)) (by rfl) Z.gH Z.bI .nil passL (pa_cons (pv 1) (pa_cons (pe_revL (pv 2)) pa_nil))) pa_nil)))) pss_nil)
      (C8.pss_cut (ps_if (pt_cmpR (op_eqD hr.units) (pv 2) (pe_lst pa_nil) (nomark _)) (pss_one (ps_expr (pe_bm PySem.F.plainAttrs_list PySem.F.slot_list_pop PySem.F.type_list_pop mt_popAt (pv 3) (pa_cons pe_int pa_nil)))) pss_nil)
      (pss_one (ps_ret (pe_not (pe_callB (cr_any rfl) (by rfl) gA boot_any (pa_cons (pe_lc (own := [("_law_x", 4)]) (g := gName 4) (tt := tYes) (te := tOrV (tOp (rEqO K C (spHEq K C) E0) (tVar 0) (tVar 4)) (tNotV (tOp (rNeO K C (spHEq K C) E0) (tVar 0) (tVar 4)))) rfl scUnlike.nd (pi_list (pe_op L2.op_cat (pv 3) (pe_lst (pa_cons pe_non (pa_cons (pv 1) (pa_cons (pe_callTy call_tup (by rfl) gT (by decide +kernel) (pa_cons (pv 1) pa_nil)) (pa_cons pe_int pa_nil))))))) (blkOk_by (N := nUnlike) (sc := defScope sUnlike) (by decide +kernel)) (fun _ _ _ _ _ => pg_name (i := 4) scUnlike.nd rfl (Or.inl rfl)) (fun _ _ _ _ _ => pts_nil) (fun _ _ _ _ _ => (pe_or (pe_cmpR (op_eqO (EI := E0) (hr.mono (by decide)) Z.mE (Z.E _) Z.bE pass0) (pv 0) (pv 4) (nomark _)) (pe_one (pe_not (pe_cmpR (op_neO (EI := E0) (hr.mono (by decide)) Z.mE Z.ne Z.T.hm (Z.E _) Z.bE pass0) (pv 0) (pv 4) (nomark _))))))) pa_nil)))))))))), ?_⟩)
  · obtain ⟨a, lf, lt, fo, th, rfl, _⟩ := h
    rfl
  · obtain ⟨a, lf, lt, fo, th, rfl, ho, hf, ht, f1, f3, t3, nms, q⟩ := h
    have okA : Nok (fo ++ th) := nms.ok
    have fne : fo ≠ [] := fun e => by rw [e] at f1; exact absurd f1 (by decide)
    have zq1 : Nok (fo ++ (th ++ [zqS])) := (Nok.zq nms).perm (by
      rw [← List.append_assoc]
      exact List.perm_append_comm)
    have zq2 : Nok ((fo ++ [zqS]) ++ th) := (Nok.zq nms).perm (by
      have p : (fo ++ [zqS]).Perm ([zqS] ++ fo) := List.perm_append_comm
      exact (p.append_right th).trans (by rw [List.append_assoc]; exact List.Perm.refl _))
    have zq4 : Nok ((zqS :: fo) ++ th) := Nok.zq nms
    have nf : ∀ zs : List Str, zs ≠ zs ++ [zqS] := fun zs e => by
      have := congrArg List.length e
      rw [List.length_append] at this
      simp at this
    have big : ∀ n : Nat, n ≤ 20 → n ≤ sizeLine := fun n h => by rw [sizeLine_eq]; omega
    have lm : ∀ zs : List Str, (zs.map V.str).length = zs.length := fun zs => List.length_map _
    -- the first three
    refine ⟨_, rfl, _, rfl, Nat.le_of_ble_eq_true rfl, fun z1 hz1 => ⟨lt, z1, _, _, rfl, rfl, Ext.upd hz1 _ _ ht, upd_same, by rw [lm]; exact big _ (by show th.length + 1 ≤ 20; omega), fun l1 hl1 => ?_⟩⟩
    intro b1 d1 hb1 hd1 nb1
    have y1 := (Ext.upd (o := .lst [.str zqS]) hz1).trans (Ext.upd (o := .lst (th.map V.str ++ [.str zqS])) hl1)
    refine mk_at (a := lf) (b := l1) (fo := fo) (th := th ++ [zqS]) (.inl (SqL.of (y1 _ _ hf))) (.inl (SqL.of (by rw [upd_same, List.map_append]; rfl))) zq1 fne (big _ (by rw [List.length_append, List.length_append]; show fo.length + (th.length + 1) ≤ 20; omega)) hb1 hd1 nb1 fun H1 x1 hou1 => ?_
    have x01 : Ext H H1 := y1.trans x1
    refine ⟨_, rfl, Nat.le_of_ble_eq_true rfl, fun z2 hz2 => ⟨lf, z2, _, _, rfl, rfl, Ext.upd hz2 _ _ (x01 _ _ hf), upd_same, by rw [lm]; exact big _ (by show fo.length + 1 ≤ 20; omega), fun l2 hl2 => ?_⟩⟩
    refine ⟨_, rfl, ?_⟩
    intro b2 d2 hb2 hd2 nb2
    have y2 := (Ext.upd (o := .lst [.str zqS]) hz2).trans (Ext.upd (o := .lst (fo.map V.str ++ [.str zqS])) hl2)
    refine mk_at (a := l2) (b := lt) (fo := fo ++ [zqS]) (th := th) (.inl (SqL.of (by rw [upd_same, List.map_append]; rfl))) (.inl (SqL.of (y2 _ _ (x01 _ _ ht)))) zq2 (by simp) (big _ (by rw [List.length_append, List.length_append]; show fo.length + 1 + th.length ≤ 20; omega)) hb2 hd2 nb2 fun H2 x2 hou2 => ?_
    have x02 : Ext H H2 := x01.trans (y2.trans x2)
    refine ⟨_, rfl, _, rfl, lf, lt, _, _, rfl, rfl, x02 _ _ hf, x02 _ _ ht, by rw [lm, lm]; exact big _ (by omega), fun l3 hl3 => ?_⟩
    intro b3 d3 hb3 hd3 nb3
    have y3 := Ext.upd (o := .lst (fo.map V.str ++ th.map V.str)) hl3
    refine mk_at (a := l3) (b := Z.aD) (fo := fo ++ th) (th := []) (.inl (SqL.of (by rw [upd_same, List.map_append]))) (.inr (Z.tD _)) (by rw [List.append_nil]; exact okA) (by simp [fne]) (big _ (by rw [List.append_nil, List.length_append]; omega)) hb3 hd3 nb3 fun H3 x3 hou3 => ?_
    have x03 : Ext H H3 := x02.trans (y3.trans x3)
    refine ⟨Nat.le_of_ble_eq_true rfl, fun lo hlo => ?_⟩
    have ylo := Ext.upd (o := .lst [V.ref b1, V.ref b2, V.ref b3]) hlo
    -- the fourth
    refine ⟨_, rfl, Nat.le_of_ble_eq_true rfl, fun z4 hz4 => ⟨_, rfl, z4, lf, _, _, rfl, rfl, upd_same, Ext.upd hz4 _ _ (ylo _ _ (x03 _ _ hf)), by rw [lm]; exact big _ (by show 1 + fo.length ≤ 20; omega), fun l4 hl4 => ?_⟩⟩
    refine ⟨_, rfl, ?_⟩
    intro b4 d4 hb4 hd4 nb4
    have y4 := ylo.trans ((Ext.upd (o := .lst [.str zqS]) hz4).trans (Ext.upd (o := .lst ([V.str zqS] ++ fo.map V.str)) hl4))
    refine mk_at (a := l4) (b := lt) (fo := zqS :: fo) (th := th) (.inl (SqL.of (by rw [upd_same]; rfl))) (.inl (SqL.of (y4 _ _ (x03 _ _ ht)))) zq4 (by simp) (big _ (by rw [List.length_append]; show fo.length + 1 + th.length ≤ 20; omega)) hb4 hd4 nb4 fun H4 x4 hou4 => ?_
    have x34 : Ext H3 H4 := y4.trans x4
    have x04 : Ext H H4 := x03.trans x34
    refine ⟨Nat.le_of_ble_eq_true rfl, fun l5 hl5 => ?_⟩
    have yl5 := Ext.upd (o := .lst [V.ref b4]) hl5
    refine ⟨lo, l5, _, _, rfl, rfl, yl5 _ _ (x4 _ _ (Ext.upd hl4 _ _ (Ext.upd hz4 _ _ upd_same))), upd_same, Nat.le_of_ble_eq_true rfl, fun lo2 hlo2 => ?_⟩
    obtain ⟨H5, hH5⟩ : ∃ H5, H5 = L2.upd H4 l5 (.lst [V.ref b4]) := ⟨_, rfl⟩
    rw [← hH5] at hlo2
    rw [← hH5]
    have x45 : Ext H4 H5 := by
      rw [hH5]
      exact yl5
    have x05 : Ext H H5 := x04.trans x45
    have h1 : Hou H5 K C b1 fo (th ++ [zqS]) := hou1.ext (((y2.trans x2).trans (y3.trans x3)).trans (x34.trans x45))
    have h2 : Hou H5 K C b2 (fo ++ [zqS]) th := hou2.ext ((y3.trans x3).trans (x34.trans x45))
    have h3 : Hou H5 K C b3 (fo ++ th) [] := hou3.ext (x34.trans x45)
    have h4 : Hou H5 K C b4 (zqS :: fo) th := hou4.ext x45
    have nodf : fo.Nodup := (List.nodup_append.mp nms.1).1
    have nodt : th.Nodup := (List.nodup_append.mp nms.1).2.1
    -- the three ifs
    refine ⟨fun σ' H' => σ' = [some (.ref a), some (.ref lf), some (.ref lt), some (.ref lo2), none] ∧ Ext H5 H' ∧ ∃ ex : List V, ex.length ≤ 1 ∧ H' lo2 = some (.lst ([.ref b1, .ref b2, .ref b3, .ref b4] ++ ex)) ∧ ∀ x, x ∈ ex → Un H' K C fo th x, ?_, ?_⟩
    · refine ⟨_, rfl, _, (fo.map V.str).length, rfl, .inl ⟨_, SqL.of (Ext.upd hlo2 _ _ (x05 _ _ hf)), rfl⟩, _, _, rfl, rfl, _, rfl, ?_⟩
      refine ite2 (fun c => ?_) (fun c => ?_)
      · have c' : 1 < fo.length := by
          have z := of_decide_eq_true c
          rw [lm] at z
          omega
        have ylo2 := Ext.upd (o := .lst ([V.ref b1, V.ref b2, V.ref b3] ++ [V.ref b4])) hlo2
        refine ⟨_, rfl, .inl ⟨rfl, _, SqL.of upd_same⟩, ?_⟩
        refine ⟨_, rfl, lf, _, rfl, SqL.of (ylo2 _ _ (x05 _ _ hf)), fun l6 hl6 => ?_⟩
        refine ⟨_, rfl, ?_⟩
        intro b6 d6 hb6 hd6 nb6
        have y6 := ylo2.trans (Ext.upd (o := .lst (fo.map V.str).reverse) hl6)
        refine mk_at (a := l6) (b := lt) (fo := fo.reverse) (th := th) (.inl (SqL.of (by rw [upd_same, List.map_reverse]))) (.inl (SqL.of (y6 _ _ (x05 _ _ ht)))) (okA.perm ((List.reverse_perm fo).append_right th)) (by simpa using fne) (big _ (by rw [List.length_append, List.length_reverse]; omega)) hb6 hd6 nb6 fun H6 x6 hou6 => ?_
        have l26 := x6 _ _ (Ext.upd hl6 _ _ (upd_same (H := H5) (a := lo2) (o := .lst ([V.ref b1, V.ref b2, V.ref b3] ++ [V.ref b4]))))
        refine ⟨lo2, _, _, rfl, rfl, l26, Nat.le_of_ble_eq_true rfl, rfl, (y6.trans x6).over hlo2, [.ref b6], Nat.le_refl _, upd_same, fun x hx => ?_⟩
        rw [List.mem_singleton.mp hx]
        exact ⟨b6, _, _, rfl, hou_upd hou6 l26, fun e => rev_ne c' f3 nodf e.1.symm⟩
      · exact ⟨rfl, Ext.upd hlo2, [], Nat.zero_le _, upd_same, fun x hx => by cases hx⟩
    rintro σ' H6 ⟨rfl, x56, ex, exl, l26, un6⟩
    refine ⟨fun σ' H' => σ' = [some (.ref a), some (.ref lf), some (.ref lt), some (.ref lo2), none] ∧ Ext H5 H' ∧ ∃ ex : List V, ex.length ≤ 2 ∧ H' lo2 = some (.lst ([.ref b1, .ref b2, .ref b3, .ref b4] ++ ex)) ∧ ∀ x, x ∈ ex → Un H' K C fo th x, ?_, ?_⟩
    · refine ⟨_, rfl, _, (th.map V.str).length, rfl, .inl ⟨_, SqL.of (x56 _ _ (x05 _ _ ht)), rfl⟩, _, _, rfl, rfl, _, rfl, ?_⟩
      refine ite2 (fun c => ?_) (fun c => ?_)
      · have c' : 1 < th.length := by
          have z := of_decide_eq_true c
          rw [lm] at z
          omega
        refine ⟨_, rfl, .inl ⟨rfl, _, SqL.of l26⟩, ?_⟩
        refine ⟨_, rfl, _, rfl, lt, _, rfl, SqL.of (x56 _ _ (x05 _ _ ht)), fun l7 hl7 => ?_⟩
        intro b7 d7 hb7 hd7 nb7
        have y7 := Ext.upd (o := .lst (th.map V.str).reverse) hl7
        refine mk_at (a := lf) (b := l7) (fo := fo) (th := th.reverse) (.inl (SqL.of (y7 _ _ (x56 _ _ (x05 _ _ hf))))) (.inl (SqL.of (by rw [upd_same, List.map_reverse]))) (okA.perm ((List.reverse_perm th).append_left fo)) fne (big _ (by rw [List.length_append, List.length_reverse]; omega)) hb7 hd7 nb7 fun H7 x7 hou7 => ?_
        have l27 := x7 _ _ (y7 _ _ l26)
        refine ⟨lo2, _, _, rfl, rfl, l27, by rw [List.length_append, sizeLine_eq]; show 4 + _ < _; omega, rfl, ((x56.trans y7).trans x7).over hlo2, ex ++ [.ref b7], by rw [List.length_append]; show _ + 1 ≤ 2; omega, by rw [upd_same, List.append_assoc], fun x hx => ?_⟩
        rcases List.mem_append.mp hx with hx | hx
        · obtain ⟨b, fo2, th2, rfl, hb, ne⟩ := un6 x hx
          exact ⟨b, fo2, th2, rfl, hou_upd ((hb.ext y7).ext x7) l27, ne⟩
        · rw [List.mem_singleton.mp hx]
          exact ⟨b7, _, _, rfl, hou_upd hou7 l27, fun e => rev_ne c' t3 nodt e.2.symm⟩
      · exact ⟨rfl, x56, ex, Nat.le_succ_of_le exl, l26, un6⟩
    rintro σ' H7 ⟨rfl, x57, ex, exl, l27, un7⟩
    have okt : OkS th := ho.2.2
    refine ⟨fun σ' H' => σ' = [some (.ref a), some (.ref lf), some (.ref lt), some (.ref lo2), none] ∧ Ext H5 H' ∧ ∃ xs : List V, xs.length ≤ 6 ∧ H' lo2 = some (.lst xs) ∧ ∀ x, x ∈ xs → Un H' K C fo th x, ?_, ?_⟩
    · refine ⟨_, rfl, Nat.zero_le _, fun l8 hl8 => ?_⟩
      have y8 := Ext.upd (o := .lst []) hl8
      have x58 := x57.trans y8
      have l28 := y8 _ _ l27
      have un8 : ∀ x, x ∈ ex → Un (L2.upd H7 l8 (.lst [])) K C fo th x := fun x hx => by
        obtain ⟨b, fo2, th2, rfl, hb, ne⟩ := un7 x hx
        exact ⟨b, fo2, th2, rfl, hb.ext y8, ne⟩
      refine ⟨_, _, .lst (SqL.of (x58 _ _ (x05 _ _ ht))) (dpAll_str th), .lst (SqL.of upd_same) (dpAll_str []), shaped_strL th okt, shaped_strL [] (fun z hz => by cases hz), _, rfl, ?_⟩
      rw [show PyData.eqv (.list (th.map PyData.str)) (.list (([] : List Str).map PyData.str)) = decide (th = []) from eqvAll_str th []]
      have u1 : Un (L2.upd H7 l8 (.lst [])) K C fo th (.ref b1) := ⟨b1, _, _, rfl, h1.ext x58, fun e => nf th e.2⟩
      have u2 : Un (L2.upd H7 l8 (.lst [])) K C fo th (.ref b2) := ⟨b2, _, _, rfl, h2.ext x58, fun e => nf fo e.1⟩
      have u4 : Un (L2.upd H7 l8 (.lst [])) K C fo th (.ref b4) := ⟨b4, _, _, rfl, h4.ext x58, fun e => by
        have := congrArg List.length e.1
        rw [List.length_cons] at this
        omega⟩
      refine ite2 (fun c => ?_) (fun c => ?_)
      · have c' : th = [] := of_decide_eq_true c
        refine ⟨_, rfl, .inl ⟨rfl, _, SqL.of l28⟩, ?_⟩
        refine ⟨lo2, _, 2, 2, .ref b3, rfl, rfl, l28, by decide, by decide, ?_, rfl, ?_⟩
        · rw [List.length_append]
          show seqIndex? 2 (4 + ex.length) = some 2
          have e : (decide ((0 : Int) ≤ 2) && decide ((2 : Int) < ((4 + ex.length : Nat) : Int))) = true := by
            rw [decide_eq_true (by omega : (2 : Int) < ((4 + ex.length : Nat) : Int))]
            rfl
          show (if (decide ((0 : Int) ≤ 2) && decide ((2 : Int) < ((4 + ex.length : Nat) : Int))) = true then some (2 : Int).toNat else none) = some 2
          rw [if_pos e]
          rfl
        · refine ⟨rfl, x58.over hlo2, [.ref b1, .ref b2, .ref b4] ++ ex, by rw [List.length_append]; show 3 + _ ≤ 6; omega, upd_same, fun x hx => ?_⟩
          have key : Un (L2.upd H7 l8 (.lst [])) K C fo th x := by
            rcases List.mem_append.mp hx with hx | hx
            · simp only [List.mem_cons, List.not_mem_nil, or_false] at hx
              rcases hx with rfl | rfl | rfl
              · exact u1
              · exact u2
              · exact u4
            · exact un8 x hx
          obtain ⟨b, fo2, th2, rfl, hb, ne⟩ := key
          exact ⟨b, fo2, th2, rfl, hou_upd hb l28, ne⟩
      · have c' : ¬ th = [] := fun e => c (decide_eq_true e)
        have u3 : Un (L2.upd H7 l8 (.lst [])) K C fo th (.ref b3) := ⟨b3, _, _, rfl, h3.ext x58, fun e => c' e.2⟩
        refine ⟨rfl, x58, [.ref b1, .ref b2, .ref b3, .ref b4] ++ ex, by rw [List.length_append]; show 4 + _ ≤ 6; omega, l28, fun x hx => ?_⟩
        rcases List.mem_append.mp hx with hx | hx
        · simp only [List.mem_cons, List.not_mem_nil, or_false] at hx
          rcases hx with rfl | rfl | rfl | rfl
          · exact u1
          · exact u2
          · exact u3
          · exact u4
        · exact un8 x hx
    rintro σ' H8 ⟨rfl, x58, xs, xl, l28, un8⟩
    refine ⟨_, rfl, _, rfl, _, rfl, lf, _, rfl, .inl (SqL.of (x58 _ _ (x05 _ _ hf))), fun t9 H9 x9 s9 => ?_⟩
    refine ⟨Nat.le_of_ble_eq_true rfl, fun l10 hl10 => ?_⟩
    have y10 := Ext.upd (o := .lst [V.non, V.ref lf, V.ref t9, V.int 5]) hl10
    refine ⟨lo2, l10, _, _, rfl, rfl, y10 _ _ (x9 _ _ l28), upd_same, by show _ + 4 ≤ _; rw [sizeLine_eq]; omega, fun l11 hl11 => ?_⟩
    have y11 := Ext.upd (o := .lst (xs ++ [V.non, V.ref lf, V.ref t9, V.int 5])) hl11
    obtain ⟨H11, hH11⟩ : ∃ H11, H11 = L2.upd (L2.upd H9 l10 (.lst [V.non, V.ref lf, V.ref t9, V.int 5])) l11 (.lst (xs ++ [V.non, V.ref lf, V.ref t9, V.int 5])) := ⟨_, rfl⟩
    have e11 : H11 l11 = some (.lst (xs ++ [V.non, V.ref lf, V.ref t9, V.int 5])) := by rw [hH11, upd_same]
    have x911 : Ext H9 H11 := by
      rw [hH11]
      exact y10.trans y11
    rw [← hH11]
    have xA : Ext H H11 := ((x05.trans x58).trans x9).trans x911
    obtain ⟨dx, fs, hins⟩ := (ho.ext xA).ins
    have eqs : ∀ (y : V) (Hj : Hp), y ∈ xs ++ [V.non, V.ref lf, V.ref t9, V.int 5] → Ext H11 Hj → ∃ t, TyX K Hj y t ∧ PySem.W.notFirst K C t = true ∧ ∀ R : Bool → Hp → Prop, R false Hj → spHEq K C [.ref a, y] Hj (fun v H2 => ∃ b, v = .bl b ∧ R b H2) E0 := by
      intro y Hj hy xj
      have hoj := (ho.ext xA).ext xj
      have bi : ∀ T, T ∈ ["NoneType", "list", "tuple", "int", "str"] → TyX K Hj y (.type T) → ∃ t, TyX K Hj y t ∧ PySem.W.notFirst K C t = true ∧ ∀ R : Bool → Hp → Prop, R false Hj → spHEq K C [.ref a, y] Hj (fun v H2 => ∃ b, v = .bl b ∧ R b H2) E0 := fun T hT ty =>
        ⟨.type T, ty, (Z.nb T hT).1, fun R hR => ⟨a, fo, th, y, rfl, hoj, .inl ⟨_, ty, (Z.nb T hT).2, false, rfl, hR⟩⟩⟩
      rcases List.mem_append.mp hy with hy | hy
      · obtain ⟨b, fo2, th2, rfl, hb, ne⟩ := un8 y hy
        have hb' := ((hb.ext x9).ext x911).ext xj
        refine ⟨.ref C, tyH Z.T hb', by simp [PySem.W.notFirst], fun R hR => ⟨a, fo, th, _, rfl, hoj, .inr ⟨b, fo2, th2, rfl, hb', false, ?_, hR⟩⟩⟩
        have e : (decide (fo = fo2) && decide (th = th2)) = false := by
          rw [Bool.and_eq_false_iff, decide_eq_false_iff_not, decide_eq_false_iff_not]
          by_cases c : fo = fo2
          · exact .inr fun d => ne ⟨c, d⟩
          · exact .inl c
        rw [e]
      · simp only [List.mem_cons, List.not_mem_nil, or_false] at hy
        rcases hy with rfl | rfl | rfl | rfl
        · exact bi "NoneType" (by decide) (.base .non)
        · exact bi "list" (by decide) (.base (.lst (xj _ _ (xA _ _ hf))))
        · exact bi "tuple" (by decide) (tyx_sqT (((s9.ext x911)).ext xj))
        · exact bi "int" (by decide) (.base (.int 5))
    refine ⟨l11, rfl, ⟨_, SqL.of e11⟩, fun D hD => lc_it (walk_list (xs := xs ++ [V.non, V.ref lf, V.ref t9, V.int 5])) (fun i Hj => Ext H11 Hj ∧ Hj D = some (.lst ((List.replicate i false).map V.bl))) ⟨Ext.upd hD, upd_same⟩ (fun i Hj _ z => SqL.of (z.1 _ _ e11)) ?_ ?_⟩
    · rintro i x Hj Hj' hi ⟨xj, lj⟩ ⟨rfl, hx⟩
      obtain ⟨t, ty, nfi, he⟩ := eqs x Hj' (List.mem_of_getElem? hx) xj
      refine ⟨rfl, ?_⟩
      refine lcYes ?_
      refine ⟨_, rfl, _, rfl, a, dx, fs, t, rfl, xj _ _ hins, ty, nfi, he _ ?_⟩
      refine ⟨false, rfl, ?_⟩
      refine iteF ?_
      refine ⟨_, rfl, _, rfl, a, dx, fs, t, rfl, xj _ _ hins, ty, nfi, he _ ?_⟩
      refine ⟨true, rfl, ?_⟩
      refine ⟨_, lj, ?_, xj.over hD, ?_⟩
      · rw [List.length_map, List.length_replicate, sizeLine_eq]
        rw [List.length_append] at hi
        have hi' : i < xs.length + 4 := hi
        omega
      · rw [upd_same, List.replicate_succ', List.map_append]
        rfl
    rintro Hk ⟨xk, lk⟩
    refine ⟨D, _, rfl, SqL.of lk, _, rfl, ?_⟩
    have ea : (List.replicate (xs ++ [V.non, V.ref lf, V.ref t9, V.int 5]).length false).any id = false := by simp
    rw [ea]
    exact q Hk (xA.trans xk)
end
end My

namespace My
open PySem PySem.Spec PyProof.Rows L2
/-! ### where a list is refused -/
/-- behind good names: y is no name, or one of them -/
def BadBehind (pre : List Str) (y : V) : Prop := nameV y = false ∨ ∃ z, y = .str z ∧ z ∈ pre
theorem wrong_mid {pre : List Str} {y : V} {rest : List V} (h : Nok pre) (hy : BadBehind pre y) : wrongOf (pre.map V.str ++ y :: rest) = some pre.length := by
  have lm : (pre.map V.str).length = pre.length := List.length_map _
  refine wrong_some (by rw [List.length_append, lm, List.length_cons]; omega) ?_ ?_
  · unfold badAt
    rw [List.getElem?_append_right (by rw [lm]; exact Nat.le_refl _), lm, Nat.sub_self]
    show (!nameV y || inV y ((pre.map V.str ++ y :: rest).take pre.length)) = true
    rcases hy with hy | ⟨z, rfl, hz⟩
    · rw [hy]
      rfl
    · rw [← lm, List.take_left, inV_str, decide_eq_true hz, Bool.or_true]
  · intro j hj
    have e : badAt (pre.map V.str ++ y :: rest) j = badAt (pre.map V.str) j := by
      unfold badAt
      rw [List.getElem?_append_left (by rw [lm]; exact hj), List.take_append_of_le_length (by rw [lm]; exact Nat.le_of_lt hj)]
    rw [e]
    have w := wrong_ok h
    have z := List.find?_range_eq_none.mp w j (by rw [lm]; exact hj)
    simpa using z
theorem part_mid {pre : List Str} {y : V} {rest rest2 : List V} {xs ys : List V} (h : Nok pre) (hy : BadBehind pre y) (e : xs ++ ys = pre.map V.str ++ y :: rest) (hx : xs ≠ []) : partOf (some xs) (some ys) = some pre.length := by
  show (if xs.length = 0 then some 0 else wrongOf (xs ++ ys)) = _
  rw [if_neg (fun z => hx (List.eq_nil_of_length_eq_zero z)), e, wrong_mid h hy]
theorem part_mid0 {pre : List Str} {y : V} {rest : List V} (h : Nok pre) (hy : BadBehind pre y) : partOf (some (pre.map V.str ++ y :: rest)) none = some pre.length := by
  show (if (pre.map V.str ++ y :: rest).length = 0 then some 0 else match wrongOf (pre.map V.str ++ y :: rest) with | none => some _ | some i => some i) = _
  rw [if_neg (by rw [List.length_append, List.length_cons]; omega), wrong_mid h hy]
theorem part_good0 {fo : List Str} (h : Nok fo) (hf : fo ≠ []) : partOf (some (fo.map V.str)) none = some fo.length := by
  have lm : (fo.map V.str).length = fo.length := List.length_map _
  show (if (fo.map V.str).length = 0 then some 0 else match wrongOf (fo.map V.str) with | none => some (fo.map V.str).length | some i => some i) = _
  rw [if_neg (by rw [lm]; exact fun e => hf (List.eq_nil_of_length_eq_zero e)), wrong_ok h, lm]
/-- an odd thing is no name, or the first folder -/
theorem odd_bad {H : Hp} {z0 : Str} {y : V} (h : OddV H z0 y) : nameV y = false ∨ y = .str z0 := by
  rcases h with (rfl | rfl | rfl) | ⟨s, hs, rfl⟩ | rfl | ⟨a, rfl, _⟩ | ⟨a, rfl, _⟩ | ⟨a, rfl, _⟩
  · exact .inl rfl
  · exact .inl rfl
  · exact .inl rfl
  · have key : ∀ s, s ∈ oddS → nameB s = false := by decide +kernel
    exact .inl (key s hs)
  · exact .inr rfl
  · exact .inl rfl
  · exact .inl rfl
  · exact .inl rfl
theorem odd_thing {K : PySem.W.Frag} {H : Hp} {z0 : Str} {y : V} (h : OddV H z0 y) (h0 : z0.length ≤ sizeLine) : Thing K H y := by
  have no : ∀ {T : String} {y : V}, TyX K H y (.type T) → kitB T "str" = some false → (∀ z, y ≠ .str z) → Thing K H y := fun ty k n => .inr ⟨n, _, ty, kit_ty k⟩
  rcases h with (rfl | rfl | rfl) | ⟨s, hs, rfl⟩ | rfl | ⟨a, rfl, h⟩ | ⟨a, rfl, h⟩ | ⟨a, rfl, h⟩
  · exact no (.base .non) (by decide +kernel) (fun z e => nomatch e)
  · exact no (.base (.int 5)) (by decide +kernel) (fun z e => nomatch e)
  · exact no (.base (.bl true)) (by decide +kernel) (fun z e => nomatch e)
  · have key : ∀ s, s ∈ oddS → s.length ≤ 9 := by decide +kernel
    exact .inl ⟨s, rfl, Nat.le_trans (key s hs) (by rw [sizeLine_eq]; decide)⟩
  · exact .inl ⟨z0, rfl, h0⟩
  · exact no (.base (.lst h)) (by decide +kernel) (fun z e => nomatch e)
  · exact no (.base (.tup h)) (by decide +kernel) (fun z e => nomatch e)
  · exact no (.base (.dK h)) (by decide +kernel) (fun z e => nomatch e)
/-- what the law says is due -/
def dueOf (z0 : Str) (y : V) (at_ : Nat) : Nat := if y = .str z0 then max 1 at_ else at_
theorem bad_due {fo : List Str} {z0 : Str} {r : List Str} {y : V} {k : Nat} (ef : fo = z0 :: r) (h : Nok fo) (hk : k ≤ fo.length) (hy : nameV y = false ∨ y = .str z0) :
    ∃ (pre : List Str) (u : V) (rest : List V), (fo.take k).map V.str ++ y :: (fo.drop k).map V.str = pre.map V.str ++ u :: rest ∧ Nok pre ∧ BadBehind pre u ∧ pre.length = dueOf z0 y k := by
  have sub : ∀ m, Nok (fo.take m) := fun m => ⟨h.1.sublist (List.take_sublist m fo), fun z hz => h.2 z (List.mem_of_mem_take hz)⟩
  by_cases e : y = .str z0
  · subst e
    unfold dueOf
    rw [if_pos rfl]
    cases k with
    | zero =>
      refine ⟨[z0], .str z0, r.map V.str, ?_, ?_, .inr ⟨z0, rfl, List.mem_cons_self⟩, rfl⟩
      · rw [ef]
        rfl
      · have := sub 1
        rw [ef] at this
        exact this
    | succ k =>
      refine ⟨fo.take (k + 1), .str z0, (fo.drop (k + 1)).map V.str, rfl, sub _, .inr ⟨z0, rfl, ?_⟩, ?_⟩
      · rw [ef]
        exact List.mem_cons_self
      · rw [List.length_take, Nat.min_eq_left hk]
        omega
  · unfold dueOf
    rw [if_neg e]
    refine ⟨fo.take k, y, (fo.drop k).map V.str, rfl, sub _, .inl (hy.resolve_right e), ?_⟩
    rw [List.length_take, Nat.min_eq_left hk]
end My

namespace My
open PySem PySem.Spec PyProof.Rows L2
/-! ### a def of the module, as a caller wants it -/
def Has (P : Program) (w : World) (K : PySem.W.Frag) (mg : Str → Option Value) (base : Heap) (k : Nat) (x : Str) (ps : List Str) (sp : Sp) : Prop :=
  ∃ (f : Addr) (fd : FuncData), FnOk P w K mg base CX0 k f fd ps sp ∧ mg x = some (.ref f) ∧ PySem.W.keepIn K (.ref f) = true ∧ Binds K fd ps []
theorem pe_has {X : Cx} {k : Nat} {x : Str} {ps : List Str} {sp : Sp} {e : Expr} {es : List Expr} {t : TA} {p pos : Pos} (h : Has X.prog X.w X.K X.mg X.base k x ps sp) (hr : Room k X.A) (ha : PA X (e :: es) t) (hg : Gl X x := by rfl)
    (hdb : (x == ("__debug__" : Str)) = false := by decide) (h1 : starEach (e :: es) X.env = (false, eval e X.env) :: starEach es X.env := by rfl) (h2 : (backTo pos (starEach es X.env)).any (·.1) = false := by rfl) :
    PE X (.Call (.Name x p) (e :: es) [] pos) (tCall sp [] E0 t) := by
  obtain ⟨f, fd, F, m, kp, b⟩ := h
  exact pe_call F hr hg m kp b .nil pass0 ha hdb h1 h2
/-- list(a) -/
def rLst (K : PySem.W.Frag) : List V → Hp → VK → Prop := fun xs H Q => ∃ a zs, xs = [.ref a] ∧ SqL K H a zs ∧ ∀ l, H l = none → Q (.ref l) (L2.upd H l (.lst zs))
theorem call_lst {X : Cx} : CallR X (.type "list") (rLst X.K) := by
  intro pins s σ H xs us Q I rv h
  obtain ⟨a, zs, rfl, sq, q⟩ := h
  exact call_list_of pins s σ H _ us Q I rv ⟨a, zs, rfl, .inl sq, q⟩
abbrev sLaw : Stmt := top 22
abbrev nLaw : List Str := ["_law_script", "_law_turn", "_law_pool_here", "_law_folders", "_law_things", "_law_one", "_law_two", "_law_house_here", "_law_at", "_law_odd_here", "_law_bad", "_law_due", "_law_spot", "_law_worse", "_law_none"]
theorem scLaw : FnScope nLaw ["_law_script"] (defScope sLaw) := ⟨rfl, rfl, rfl, by decide +kernel, rfl, by decide +kernel, by decide +kernel⟩
def spLaw (K : PySem.W.Frag) : Sp := fun vs H Q _ => ∃ (a : Addr) (ns : List Int), vs = [.ref a] ∧ SqL K H a (ns.map V.int) ∧ ∀ H', Q (.bl true) H'
/-- what stands behind the top -/
structure LawIn (P : Program) (w : World) (K : PySem.W.Frag) (mg : Str → Option Value) (base : Heap) (C : Addr) : Prop where
  cell : Has P w K mg base 1 "_law_cell" ["_law_script", "_law_k"] (spCell1 K)
  pool : Has P w K mg base 1 "_law_pool" ["_law_grain"] spPool
  take : Has P w K mg base 1 "_law_take" ["_law_pool_here", "_law_many"] spTake
  house : Has P w K mg base 3 "_law_house" ["_law_pool_here", "_law_most", "_law_more"] spHouse
  odd : Has P w K mg base 2 "_law_odd" ["_law_pool_here", "_law_words"] (spOdd K)
  right : Has P w K mg base 6 "_law_is_right" ["_law_house_here", "_law_folders", "_law_things"] (spRight K C)
  unlike : Has P w K mg base 6 "_law_unlike" ["_law_house_here", "_law_folders", "_law_things"] (spRight K C)
  refused : Has P w K mg base 6 "_law_refused" ["_law_folders", "_law_things"] (spRefused K)
  gN : mg "len" = none
  gR : mg "range" = none
  gT : mg "tuple" = none
  gLi : mg "list" = none
  gI : mg "isinstance" = none
  gS : mg "str" = none
  gM : mg "max" = none
section
variable {P : Program} {w : World} {K : PySem.W.Frag} {mg : Str → Option Value} {base : Heap} {f C CB : Addr} {fd : FuncData}
theorem ok_law (Fn : FnP K "law" sLaw f fd) (L : LawIn P w K mg base C) (Z : HouseTxt P w K mg C CB) : FnOk P w K mg base CX0 7 f fd ["_law_script"] (spLaw K) := by
  refine Fn.ok scLaw (fun vs H Q E h => ?_) (fun cdv A outer s H vs Q E hr h => ⟨_, PSs.nox
    (pss_cons (ps_for PassesOwn.never rfl (pi_range1 (by rfl) L.gR (pa_cons pe_int pa_nil)) (pg_name (i := 1) scLaw.nd rfl (Or.inl rfl)) (pss_cons (ps_set (i := 2) scLaw.nd rfl (.inl rfl) (pe_has L.pool (hr.mono (by decide)) (pa_cons (pe_op op_add (pe_has L.cell (hr.mono (by decide)) (pa_cons (pv 0) (pa_cons (pv 1) pa_nil))) (pv 1)) pa_nil)))
      (pss_cons (ps_asg (pe_has L.house (hr.mono (by decide)) (pa_cons (pv 2) (pa_cons pe_int (pa_cons pe_int pa_nil)))) (pg_tup rfl (pgs_cons (pg_name (i := 3) scLaw.nd rfl (Or.inl rfl)) (pgs_cons (pg_name (i := 4) scLaw.nd rfl (Or.inl rfl)) pgs_nil))))
      (pss_cons (ps_par (i := 5) (j := 6) rfl scLaw.nd rfl rfl (by decide) rfl rfl (pa_cons (pe_ix ix_list (pe_lst (pa_cons (pe_callTy call_lst (by rfl) L.gLi (by decide +kernel) (pa_cons (pv 3) pa_nil)) (pa_cons (pe_callTy call_tup (by rfl) L.gT (by decide +kernel) (pa_cons (pv 3) pa_nil)) pa_nil))) (pe_has L.take (hr.mono (by decide)) (pa_cons (pv 2) (pa_cons pe_int pa_nil))) (fun _ _ => rfl)) (pa_cons (pe_callTy call_lst (by rfl) L.gLi (by decide +kernel) (pa_cons (pv 4) pa_nil)) pa_nil)) (by rfl))
      (pss_cons (ps_set (i := 7) scLaw.nd rfl (.inl rfl) (pe_make Z.M (Z.I _) (hr.mono (by decide)) (by rfl) Z.gH Z.bI .nil passL (pa_cons (pv 5) (pa_cons (pv 6) pa_nil))))
      (pss_cons (ps_expr (pe_bm PySem.F.plainAttrs_list PySem.F.slot_list_append PySem.F.type_list_append mt_append (pv 6) (pa_cons pe_str pa_nil)))
      (pss_cons (ps_if (PW.pt (pw_or (pt_not (pt_val (pe_has L.right (hr.mono (by decide)) (pa_cons (pv 7) (pa_cons (pv 3) (pa_cons (pv 4) pa_nil)))))) (pw_or1 (pt_not (pt_cmpR (op_eqO (EI := E0) (hr.mono (by decide)) Z.mE (Z.E _) Z.bE pass0) (pv 7) (pe_make Z.M (Z.I _) (hr.mono (by decide)) (by rfl) Z.gH Z.bI .nil passL (pa_cons (pe_callTy call_tup (by rfl) L.gT (by decide +kernel) (pa_cons (pv 3) pa_nil)) (pa_cons (pe_callTy call_tup (by rfl) L.gT (by decide +kernel) (pa_cons (pv 4) pa_nil)) pa_nil))) (nomark _)))))) (pss_one (ps_ret pe_bl)) pss_nil)
      (C8.pss_cut (ps_if (PW.pt (pw_or (pt_not (pt_val (pe_has L.unlike (hr.mono (by decide)) (pa_cons (pv 7) (pa_cons (pv 3) (pa_cons (pv 4) pa_nil)))))) (pw_or1 (PW.pt (pw_and (pt_cmpR (op_eqD hr.units) (pv 4) (pe_lst pa_nil) (nomark _)) (pw_and1 (pt_cmpR (op_neO (EI := E0) (hr.mono (by decide)) Z.mE Z.ne Z.T.hm (Z.E _) Z.bE pass0) (pv 7) (pe_make Z.M (Z.I _) (hr.mono (by decide)) (by rfl) Z.gH Z.bD Z.vD passL (pa_cons (pv 3) pa_nil)) (nomark _)))))))) (pss_one (ps_ret pe_bl)) pss_nil)
      (pss_cons (ps_set (i := 8) scLaw.nd rfl (.inl rfl) (pe_has L.take (hr.mono (by decide)) (pa_cons (pv 2) (pa_cons (pe_op op_add (pe_callB call_len (by rfl) L.gN boot_len (pa_cons (pv 3) pa_nil)) pe_int) pa_nil))))
      (pss_cons (ps_set (i := 9) scLaw.nd rfl (.inl rfl) (pe_has L.odd (hr.mono (by decide)) (pa_cons (pv 2) (pa_cons (pv 3) pa_nil))))
      (pss_cons (ps_set (i := 10) scLaw.nd rfl (.inl rfl) (pe_op L2.op_cat (pe_op L2.op_cat (pe_slice sl_list (pv 3) po_none (po_some (pv 8))) (pe_lst (pa_cons (pv 9) pa_nil))) (pe_slice sl_list (pv 3) (po_some (pv 8)) po_none)))
      (C8.pss_cut (ps_set (i := 11) scLaw.nd rfl (.inl rfl) (pe_ifExp (PW.pt (pw_and (pt_cmpR (OpR.or (op_eqD hr.units) (op_eqDS hr.units0)) (pv 9) (pe_ix ix_list (pv 3) pe_int (fun _ _ => rfl)) (nomark _)) (pw_and1 (pt_val (pe_callB call_isi (by rfl) L.gI boot_isinstance (pa_cons (pv 9) (pa_cons (pe_bltn (v := .ty "str") (by rfl) L.gS boot_str rfl) pa_nil))))))) (pe_callB (call_max2 rfl) (by rfl) L.gM boot_max (pa_cons pe_int (pa_cons (pv 8) pa_nil))) (pv 8)))
      (pss_cons (ps_if (PW.pt (pw_or (pt_cmpR op_ne (pe_has L.refused (hr.mono (by decide)) (pa_cons (pv 10) (pa_cons (pe_op L2.op_cat (pv 4) (pe_lst (pa_cons (pv 9) (pa_cons pe_non pa_nil)))) pa_nil))) (pv 11) (nomark _)) (pw_or1 (pt_cmpR op_ne (pe_has L.refused (hr.mono (by decide)) (pa_cons (pe_callTy call_tup (by rfl) L.gT (by decide +kernel) (pa_cons (pv 10) pa_nil)) (pa_cons pe_non pa_nil))) (pv 11) (nomark _))))) (pss_one (ps_ret pe_bl)) pss_nil)
      (pss_cons (ps_set (i := 12) scLaw.nd rfl (.inl rfl) (pe_has L.take (hr.mono (by decide)) (pa_cons (pv 2) (pa_cons (pe_op op_add (pe_callB call_len (by rfl) L.gN boot_len (pa_cons (pv 4) pa_nil)) pe_int) pa_nil))))
      (pss_cons (ps_set (i := 13) scLaw.nd rfl (.inl rfl) (pe_op L2.op_cat (pe_op L2.op_cat (pe_slice sl_list (pv 4) po_none (po_some (pv 12))) (pe_lst (pa_cons (pv 9) pa_nil))) (pe_slice sl_list (pv 4) (po_some (pv 12)) po_none)))
      (pss_cons (ps_if (pt_cmpR op_ne (pe_has L.refused (hr.mono (by decide)) (pa_cons (pv 3) (pa_cons (pv 13) pa_nil))) (pe_op op_add (pe_callB call_len (by rfl) L.gN boot_len (pa_cons (pv 3) pa_nil)) (pv 12)) (nomark _)) (pss_one (ps_ret pe_bl)) pss_nil)
      (pss_one (ps_for PassesOwn.never rfl (pi_list (pe_lst (pa_cons pe_non (pa_cons pe_int (pa_cons pe_str (pa_cons pe_dnewK (pa_cons pe_bl (pa_cons (pe_lst pa_nil) (pa_cons (pe_tup pa_nil) pa_nil))))))))) (pg_name (i := 14) scLaw.nd rfl (Or.inl rfl)) (pss_cons (ps_if (pt_cmpR op_ne (pe_has L.refused (hr.mono (by decide)) (pa_cons (pv 14) (pa_cons (pv 4) pa_nil))) pe_int (nomark _)) (pss_one (ps_ret pe_bl)) pss_nil)
      (pss_one (ps_if (PW.pt (pw_and (pt_not (pt_val (pe_callB call_isiT (by rfl) L.gI boot_isinstance (pa_cons (pv 14) (pa_cons (pe_tup (pa_cons (pe_bltn (v := .ty "list") (by rfl) L.gLi boot_list rfl) (pa_cons (pe_bltn (v := .ty "tuple") (by rfl) L.gT boot_tuple rfl) pa_nil))) pa_nil))))) (pw_and1 (pt_cmpR op_ne (pe_has L.refused (hr.mono (by decide)) (pa_cons (pv 3) (pa_cons (pv 14) pa_nil))) (pe_callB call_len (by rfl) L.gN boot_len (pa_cons (pv 3) pa_nil)) (nomark _))))) (pss_one (ps_ret pe_bl)) pss_nil)))))))))))))))))))))
      (pss_one (ps_ret pe_bl))), ?_⟩)
  · obtain ⟨a, ns, rfl, _⟩ := h
    rfl
  · obtain ⟨a, ns, rfl, hS, q⟩ := h
    have lm : ∀ zs : List Str, (zs.map V.str).length = zs.length := fun zs => List.length_map _
    have big : ∀ n : Nat, n ≤ 20 → n ≤ sizeLine := fun n h => by rw [sizeLine_eq]; omega
    refine ⟨5, rfl, by decide, by decide, for_range (lo := 0) (n := 5) (fun _ σ H' => ∃ v1 v2 v3 v4 v5 v6 v7 v8 v9 v10 v11 v12 v13 v14 : Option V, σ = [some (.ref a), v1, v2, v3, v4, v5, v6, v7, v8, v9, v10, v11, v12, v13, v14] ∧ Ext H H')
      ⟨none, none, none, none, none, none, none, none, none, none, none, none, none, none, rfl, Ext.rfl'⟩ ?_ ?_⟩
    · rintro k σ H0 hk ⟨v1, v2, v3, v4, v5, v6, v7, v8, v9, v10, v11, v12, v13, v14, rfl, x0⟩
      refine ⟨_, rfl, _, rfl, a, ns, k, by rw [Int.zero_add]; rfl, hS.ext x0, fun i0 => ⟨_, rfl, _, _, rfl, rfl, _, rfl, fun p H1 hp hH1 => ?_⟩⟩
      obtain ⟨pa, pb, pa0, pb0, pb1, rfl⟩ := hH1
      have pool1 : Pool (L2.upd H0 p (.lst [.int pa, .int pb, .int 0])) p 0 := ⟨pa, pb, 0, upd_same, pa0, pb0, pb1, Int.le_refl _, Int.le_refl _⟩
      have Hp0 : H p = none := by
        cases hh : H p with
        | none => rfl
        | some u => exact absurd (x0 p u hh) (by rw [hp]; exact fun z => nomatch z)
      have x1 : Ext H0 (L2.upd H0 p (.lst [.int pa, .int pb, .int 0])) := Ext.upd hp
      refine ⟨_, rfl, p, 0, rfl, pool1, by decide, fun t l1 l2 fo th H2 b2 p2 htp hl1 hl2 ne n1 n2 f1 f3 t3 s2 nms => ?_⟩
      have x02 : Ext H H2 := fun b u k => b2 b u (ne_of_none k Hp0) (x1 b u (x0 b u k))
      refine ⟨t, _, rfl, SqT.of htp, rfl, _, _, rfl, _, _, rfl, rfl, ?_⟩
      have fne : fo ≠ [] := fun e => by rw [e] at f1; exact absurd f1 (by decide)
      have okA : Nok (fo ++ th) := nms.ok
      -- one and two
      refine ⟨_, rfl, l1, _, rfl, SqL.of hl1, fun l5 hl5 => ?_⟩
      have y5 := Ext.upd (o := .lst (fo.map V.str)) hl5
      refine ⟨_, rfl, l1, _, rfl, .inl (SqL.of (y5 _ _ hl1)), fun t6 H6 x6 s6 => ?_⟩
      refine ⟨Nat.le_of_ble_eq_true rfl, fun l7 hl7 => ?_⟩
      have y7 := Ext.upd (o := .lst [V.ref l5, V.ref t6]) hl7
      have x27 := (y5.trans x6).trans y7
      refine ⟨_, rfl, p, 2, _, rfl, by decide, by decide, pool_ext p2 x27, by decide, fun r o r0 r1 gp => ?_⟩
      obtain ⟨H8, hH8⟩ : ∃ H8, H8 = L2.upd (L2.upd H6 l7 (.lst [V.ref l5, V.ref t6])) p o := ⟨_, rfl⟩
      rw [← hH8] at gp
      rw [← hH8]
      have b8 : But (L2.upd H6 l7 (.lst [V.ref l5, V.ref t6])) H8 p := by
        rw [hH8]
        exact But.upd (ext_but Ext.rfl')
      have nl1 : l1 ≠ p := by
        obtain ⟨_, _, _, hh, _⟩ := pool1
        exact fun e => by rw [e, hh] at n1; cases n1
      have nl2 : l2 ≠ p := by
        obtain ⟨_, _, _, hh, _⟩ := pool1
        exact fun e => by rw [e, hh] at n2; cases n2
      have nl5 : l5 ≠ p := pool_ne p2 hl5
      have nl7 : l7 ≠ p := pool_ne (pool_ext p2 (y5.trans x6)) hl7
      have e1 : H8 l1 = some (.lst (fo.map V.str)) := b8 _ _ nl1 (x27 _ _ hl1)
      have e2 : H8 l2 = some (.lst (th.map V.str)) := b8 _ _ nl2 (x27 _ _ hl2)
      have x08 : Ext H H8 := fun b u k => b8 b u (ne_of_none k Hp0) (x27 _ _ (x02 b u k))
      obtain ⟨j, rfl⟩ := Int.eq_ofNat_of_zero_le r0
      have hj : j < 2 := by omega
      obtain ⟨c1, hc1, sc1⟩ : ∃ c1, ([V.ref l5, V.ref t6] : List V)[j]? = some (.ref c1) ∧ SeqAt2 K H8 c1 (fo.map V.str) := by
        have pool7 := pool_ext p2 x27
        have tp : SqT K H8 t6 (fo.map V.str) := by
          rcases SqT.ext s6 y7 with (z | ⟨oo, z⟩) | z
          · refine .inl (.inl (b8 _ _ ?_ z))
            obtain ⟨_, _, _, hh, _⟩ := pool7
            exact ne_of z hh (fun z => nomatch z)
          · refine .inl (.inr ⟨oo, b8 _ _ ?_ z⟩)
            obtain ⟨_, _, _, hh, _⟩ := pool7
            exact ne_of z hh (fun z => nomatch z)
          · exact .inr z
        match j, hj with
        | 0, _ => exact ⟨l5, rfl, .inl (SqL.of (b8 _ _ nl5 (y7 _ _ (x6 _ _ upd_same))))⟩
        | 1, _ => exact ⟨t6, rfl, .inr tp⟩
      refine ⟨l7, _, _, _, rfl, rfl, SqL.of (b8 _ _ nl7 upd_same), atI_nat hc1, ?_⟩
      refine ⟨_, rfl, l2, _, rfl, SqL.of e2, fun l9 hl9 => ?_⟩
      have y9 := Ext.upd (o := .lst (th.map V.str)) hl9
      refine ⟨_, _, rfl, ?_⟩
      -- the house
      refine ⟨_, rfl, _, rfl, ?_⟩
      intro b d hb hd nb
      refine mk_at (a := c1) (b := l9) (fo := fo) (th := th) (sc1.ext y9) (.inl (SqL.of upd_same)) okA fne (big _ (by rw [List.length_append]; omega)) hb hd nb fun H10 x10 hou10 => ?_
      have l910 := x10 _ _ (upd_same (H := H8) (a := l9) (o := .lst (th.map V.str)))
      refine ⟨_, rfl, .inl ⟨rfl, _, SqL.of l910⟩, l9, _, _, rfl, rfl, l910, by rw [lm, sizeLine_eq]; omega, ?_⟩
      obtain ⟨H11, hH11⟩ : ∃ H11, H11 = L2.upd H10 l9 (.lst (th.map V.str ++ [.str "late"])) := ⟨_, rfl⟩
      rw [← hH11]
      have x811 : Ext H8 H11 := by
        rw [hH11]
        exact (y9.trans x10).over hl9
      have hou : Hou H11 K C b fo th := by
        rw [hH11]
        exact hou_upd hou10 l910
      have x011 := x08.trans x811
      have m1 := x811 _ _ e1
      have m2 := x811 _ _ e2
      have okf : OkS fo := hou.2.1
      have okt : OkS th := hou.2.2
      have gp11 : Pool H11 p (0 + 60 + 1) := pool_ext gp x811
      refine ⟨_, rfl, _, rfl, _, rfl, b, l1, l2, fo, th, rfl, hou, m1, m2, f1, f3, t3, nms, fun H12 x12 => ⟨true, rfl, ?_⟩⟩
      refine iteF ?_
      refine ⟨_, rfl, ?_⟩
      refine ⟨_, rfl, l1, _, rfl, .inl (SqL.of (x12 _ _ m1)), fun t13 H13 x13 s13 => ⟨_, rfl, l2, _, rfl, .inl (SqL.of (x13 _ _ (x12 _ _ m2))), fun t14 H14 x14 s14 => ?_⟩⟩
      intro b15 d15 hb15 hd15 nb15
      refine mk_at (a := t13) (b := t14) (fo := fo) (th := th) (.inr (s13.ext x14)) (.inr s14) okA fne (big _ (by rw [List.length_append]; omega)) hb15 hd15 nb15 fun H15 x15 hou15 => ?_
      have x1115 : Ext H11 H15 := ((x12.trans x13).trans x14).trans x15
      have hou15' := hou.ext x1115
      obtain ⟨dx, fs, hins⟩ := hou15'.ins
      refine ⟨b, dx, fs, .ref C, rfl, hins, tyH Z.T hou15, by simp [PySem.W.notFirst], b, fo, th, _, rfl, hou15', .inr ⟨b15, fo, th, rfl, hou15, true, by rw [decide_eq_true rfl, decide_eq_true rfl]; rfl, true, rfl, ?_⟩⟩
      refine iteF ?_
      -- unlike
      refine ⟨fun σ' H' => σ' = [some (.ref a), some (.int (0 + (k : Int))), some (.ref p), some (.ref l1), some (.ref l2), some (.ref c1), some (.ref l9), some (.ref b), v8, v9, v10, v11, v12, v13, v14] ∧ Ext H11 H', ?_, ?_⟩
      · refine ⟨_, rfl, _, rfl, _, rfl, b, l1, l2, fo, th, rfl, hou15', x1115 _ _ m1, x1115 _ _ m2, f1, f3, t3, nms, fun H16 x16 => ⟨true, rfl, ?_⟩⟩
        refine iteF ?_
        refine ⟨_, rfl, Nat.zero_le _, fun l17 hl17 => ?_⟩
        have y17 := Ext.upd (o := .lst []) hl17
        have x1117 := (x1115.trans x16).trans y17
        refine ⟨_, _, .lst (SqL.of (x1117 _ _ m2)) (dpAll_str th), .lst (SqL.of upd_same) (dpAll_str []), shaped_strL th okt, shaped_strL [] (fun z hz => by cases hz), _, rfl, ?_⟩
        rw [show PyData.eqv (.list (th.map PyData.str)) (.list (([] : List Str).map PyData.str)) = decide (th = []) from eqvAll_str th []]
        refine ite2 (fun c => ?_) (fun c => ?_)
        · have c' : th = [] := of_decide_eq_true c
          refine ⟨_, rfl, _, rfl, ?_⟩
          intro b18 d18 hb18 hd18 nb18
          refine mk_at (a := l1) (b := Z.aD) (fo := fo) (th := []) (.inl (SqL.of (x1117 _ _ m1))) (.inr (Z.tD _)) (by rw [List.append_nil]; exact ⟨(List.nodup_append.mp okA.1).1, fun z hz => okA.2 z (List.mem_append_left _ hz)⟩) fne (big _ (by rw [List.append_nil]; omega)) hb18 hd18 nb18 fun H18 x18 hou18 => ?_
          have hou18' := hou.ext (x1117.trans x18)
          obtain ⟨dx', fs', hins'⟩ := hou18'.ins
          refine ⟨b, dx', fs', .ref C, rfl, hins', tyH Z.T hou18, by simp [PySem.W.notFirst], b, fo, th, _, rfl, hou18', .inr ⟨b18, fo, [], rfl, hou18, true, by rw [decide_eq_true rfl, decide_eq_true c']; rfl, false, rfl, ?_⟩⟩
          refine iteF ?_
          exact ⟨rfl, x1117.trans x18⟩
        · refine iteF ?_
          exact ⟨rfl, x1117⟩
      rintro σ' H19 ⟨rfl, x1119⟩
      have k1 := x1119 _ _ m1
      have k2 := x1119 _ _ m2
      have gp19 := pool_ext gp11 x1119
      -- at
      refine ⟨_, rfl, _, rfl, _, (fo.map V.str).length, rfl, .inl ⟨_, SqL.of k1, rfl⟩, _, _, rfl, rfl, p, _, _, rfl, by omega, by rw [lm]; omega, gp19, by decide, fun rr oo r0' r1' gp20 => ?_⟩
      obtain ⟨H20, hH20⟩ : ∃ H20, H20 = L2.upd H19 p oo := ⟨_, rfl⟩
      rw [← hH20] at gp20
      rw [← hH20]
      have b20 : But H19 H20 p := by
        rw [hH20]
        exact But.upd (ext_but Ext.rfl')
      obtain ⟨q1, rfl⟩ := Int.eq_ofNat_of_zero_le r0'
      have hq1 : q1 ≤ fo.length := by
        rw [lm] at r1'
        omega
      obtain ⟨z0, r', efo⟩ : ∃ z0 r', fo = z0 :: r' := by
        cases fo with
        | nil => exact absurd rfl fne
        | cons z r => exact ⟨z, r, rfl⟩
      have k1' := b20 _ _ nl1 k1
      -- odd
      refine ⟨_, rfl, _, rfl, p, l1, _, z0, r', rfl, gp20, by decide, by rw [← efo]; exact SqL.of k1', nl1, fun y H21 b21 gp21 ov => ?_⟩
      have k1'' := b21 _ _ nl1 k1'
      have k2'' := b21 _ _ nl2 (b20 _ _ nl2 k2)
      have x021 : Ext H H21 := fun c u h => b21 c u (ne_of_none h Hp0) (b20 c u (ne_of_none h Hp0) (x1119 _ _ (x811 _ _ (x08 c u h))))
      -- bad
      have cut1 : cutV (fo.map V.str) none (some ((q1 : Nat) : Int)) = (fo.take q1).map V.str := by rw [cutV_take (by rw [lm]; exact hq1), List.map_take]
      have cut2 : cutV (fo.map V.str) (some ((q1 : Nat) : Int)) none = (fo.drop q1).map V.str := by rw [cutV_drop (by rw [lm]; exact hq1), List.map_drop]
      refine ⟨_, rfl, _, rfl, _, rfl, l1, _, rfl, SqL.of k1'', fun s1 hs1 => ?_⟩
      rw [cut1]
      have w1 := Ext.upd (o := .lst ((fo.take q1).map V.str)) hs1
      refine ⟨_, rfl, Nat.le_of_ble_eq_true rfl, fun s2' hs2 => ?_⟩
      have w2 := Ext.upd (o := .lst [y]) hs2
      refine ⟨s1, s2', _, _, rfl, rfl, w2 _ _ upd_same, upd_same, by rw [List.length_map, List.length_take]; exact big _ (by show min q1 fo.length + 1 ≤ 20; omega), fun s3 hs3 => ?_⟩
      have w3 := Ext.upd (o := .lst ((fo.take q1).map V.str ++ [y])) hs3
      refine ⟨_, rfl, _, rfl, _, rfl, l1, _, rfl, SqL.of (w3 _ _ (w2 _ _ (w1 _ _ k1''))), fun s4 hs4 => ?_⟩
      rw [cut2]
      have w4 := Ext.upd (o := .lst ((fo.drop q1).map V.str)) hs4
      refine ⟨s3, s4, _, _, rfl, rfl, w4 _ _ upd_same, upd_same, by rw [List.length_append, List.length_map, List.length_map, List.length_take, List.length_drop]; exact big _ (by show min q1 fo.length + 1 + (fo.length - q1) ≤ 20; omega), fun lb hlb => ?_⟩
      have w5 := Ext.upd (o := .lst (((fo.take q1).map V.str ++ [y]) ++ (fo.drop q1).map V.str)) hlb
      have x2122 := (((w1.trans w2).trans w3).trans w4).trans w5
      obtain ⟨H22, hH22⟩ : ∃ H22, H22 = L2.upd (L2.upd (L2.upd (L2.upd (L2.upd H21 s1 (.lst ((fo.take q1).map V.str))) s2' (.lst [y])) s3 (.lst ((fo.take q1).map V.str ++ [y]))) s4 (.lst ((fo.drop q1).map V.str))) lb (.lst (((fo.take q1).map V.str ++ [y]) ++ (fo.drop q1).map V.str)) := ⟨_, rfl⟩
      have elb : H22 lb = some (.lst ((fo.take q1).map V.str ++ y :: (fo.drop q1).map V.str)) := by
        rw [hH22, upd_same, List.append_assoc]
        rfl
      rw [← hH22] at x2122
      rw [← hH22]
      have ov22 := ov.ext x2122
      have kk1 := x2122 _ _ k1''
      have kk2 := x2122 _ _ k2''
      have gp22 := pool_ext gp21 x2122
      have okz0 : nameB z0 = true ∧ PyData.strOk z0 = true ∧ z0.length ≤ sizeLine := okA.2 z0 (by rw [efo]; exact List.mem_cons_self)
      -- due
      refine ⟨fun σ' H' => σ' = [some (.ref a), some (.int (0 + (k : Int))), some (.ref p), some (.ref l1), some (.ref l2), some (.ref c1), some (.ref l9), some (.ref b), some (.int (q1 : Int)), some y, some (.ref lb), some (.int (dueOf z0 y q1 : Nat)), v12, v13, v14] ∧ H' = H22, ?_, ?_⟩
      · have i0' : (fo.map V.str)[0]? = some (.str z0) := by rw [efo]; rfl
        have shs : ∀ z : Str, PyData.strOk z = true → SeqAt.shaped (.str z) = true := fun z hz => by
          refine Bool.and_eq_true_iff.mpr ⟨hz, decide_eq_true ?_⟩
          exact Nat.le_of_ble_eq_true rfl
        refine ⟨_, rfl, _, rfl, l1, _, ((0 : Nat) : Int), .str z0, rfl, rfl, SqL.of kk1, atI_nat i0', ?_⟩
        by_cases e : y = .str z0
        · subst e
          refine .inl ⟨_, _, .str z0, .str z0, shs z0 okz0.2.1, shs z0 okz0.2.1, _, rfl, ?_⟩
          rw [SeqAt.eqv_refl _ (SeqAt.canLay_of_shaped (shs z0 okz0.2.1))]
          refine iteT ?_
          refine ⟨_, rfl, .str z0, .ty "str", .type "str", .type "str", true, rfl, .ty _, .base (.str _), kit_ty (by decide +kernel), true, rfl, ?_⟩
          refine iteT ?_
          refine ⟨_, rfl, 1, (q1 : Int), rfl, ?_⟩
          refine ⟨?_, rfl⟩
          have ed : (if (q1 : Int) > 1 then (q1 : Int) else 1) = ((dueOf z0 (.str z0) q1 : Nat) : Int) := by
            unfold dueOf
            rw [if_pos rfl]
            split <;> omega
          rw [ed]
          rfl
        · have ed : dueOf z0 y q1 = q1 := by
            unfold dueOf
            rw [if_neg e]
          rw [ed]
          have no : ∀ d : PyData, Dp K H22 y d → SeqAt.shaped d = true → PyData.eqv d (.str z0) = false → _ := fun d h1 h2 h3 => (⟨d, .str z0, h1, .str z0, h2, shs z0 okz0.2.1, h3⟩ : ∃ d e, Dp K H22 y d ∧ Dp K H22 (.str z0) e ∧ SeqAt.shaped d = true ∧ SeqAt.shaped e = true ∧ PyData.eqv d e = false)
          have alt : (∃ d e, Dp K H22 y d ∧ Dp K H22 (.str z0) e ∧ SeqAt.shaped d = true ∧ SeqAt.shaped e = true ∧ PyData.eqv d e = false) ∨ ∃ aa kvs, y = .ref aa ∧ H22 aa = some (.dK kvs) := by
            rcases ov22 with (rfl | rfl | rfl) | ⟨s', hs', rfl⟩ | rfl | ⟨aa, rfl, h⟩ | ⟨aa, rfl, h⟩ | ⟨aa, rfl, h⟩
            · exact .inl (no _ .non (by decide +kernel) rfl)
            · exact .inl (no _ (.int 5) (by decide +kernel) rfl)
            · exact .inl (no _ (.bl true) (by decide +kernel) rfl)
            · have key : ∀ s, s ∈ oddS → SeqAt.shaped (.str s) = true := by decide +kernel
              refine .inl (no _ (.str s') (key s' hs') ?_)
              show (s' == z0) = false
              exact beq_eq_false_iff_ne.mpr fun z => e (by rw [z])
            · exact absurd rfl e
            · exact .inl (no _ (.lst (SqL.of h) (.cons (.str "a") .nil)) (by decide +kernel) rfl)
            · exact .inl (no _ (.tup (SqT.of h) (.cons (.str "a") .nil)) (by decide +kernel) rfl)
            · exact .inr ⟨aa, _, rfl, h⟩
          rcases alt with ⟨dd, ee, h1, h2, h3, h4, h5⟩ | ⟨aa, kvs, rfl, h⟩
          · refine .inl ⟨dd, ee, h1, h2, h3, h4, _, rfl, ?_⟩
            rw [h5]
            refine iteF ?_
            refine iteF ?_
            exact ⟨_, rfl, rfl, rfl⟩
          · refine .inr ⟨aa, kvs, z0, rfl, rfl, h, _, rfl, ?_⟩
            refine iteF ?_
            refine iteF ?_
            exact ⟨_, rfl, rfl, rfl⟩
      rintro σ' H22' ⟨rfl, eH⟩
      rw [eH]
      have okF : Nok fo := ⟨(List.nodup_append.mp okA.1).1, fun z hz => okA.2 z (List.mem_append_left _ hz)⟩
      have okT : ∀ z, z ∈ th → z.length ≤ sizeLine := fun z hz => (okA.2 z (List.mem_append_right _ hz)).2.2
      obtain ⟨bv, hbv⟩ : ∃ bv : List V, bv = (fo.take q1).map V.str ++ y :: (fo.drop q1).map V.str := ⟨_, rfl⟩
      rw [← hbv] at elb
      have bvl : bv.length = fo.length + 1 := by
        rw [hbv, List.length_append, List.length_cons, lm, lm, List.length_take, List.length_drop]
        omega
      have ty22 : Thing K H22 y := odd_thing ov22 okz0.2.2
      have tbv : ∀ u, u ∈ bv → Thing K H22 u := fun u hu => by
        rw [hbv] at hu
        rcases List.mem_append.mp hu with hu | hu
        · exact things_ok (fun z hz => (okF.2 z (List.mem_of_mem_take hz)).2.2) u hu
        · rcases List.mem_cons.mp hu with rfl | hu
          · exact ty22
          · exact things_ok (fun z hz => (okF.2 z (List.mem_of_mem_drop hz)).2.2) u hu
      obtain ⟨pre, u0, rst, hsp, okp, bb, plen⟩ := bad_due efo okF hq1 (odd_bad ov22)
      rw [← hbv] at hsp
      have bvn : bv ≠ [] := fun e => by
        rw [e] at bvl
        simp at bvl
      have nonThing : ∀ H' : Hp, Thing K H' .non := fun H' => .inr ⟨(fun z e => nomatch e), _, .base .non, kit_ty (by decide +kernel)⟩
      refine ⟨_, rfl, _, rfl, _, rfl, Nat.le_of_ble_eq_true rfl, fun s5 hs5 => ?_⟩
      have z5 := Ext.upd (o := .lst [y, .non]) hs5
      refine ⟨l2, s5, _, _, rfl, rfl, z5 _ _ kk2, upd_same, by rw [lm]; exact big _ (by show th.length + 2 ≤ 20; omega), fun s6 hs6 => ?_⟩
      have z6 := Ext.upd (o := .lst (th.map V.str ++ [y, .non])) hs6
      have z56 := z5.trans z6
      have p12 : partOf (some bv) (some (th.map V.str ++ [y, .non])) = some (dueOf z0 y q1) := by
        rw [← plen]
        exact part_mid (rest := rst ++ (th.map V.str ++ [y, .non])) (rest2 := []) okp bb (by rw [hsp, List.append_assoc]; rfl) bvn
      refine ⟨.ref lb, .ref s6, some bv, some (th.map V.str ++ [y, .non]), rfl, ⟨lb, rfl, .inl (SqL.of (z56 _ _ elb)), fun u hu => (tbv u hu).ext z56⟩,
        ⟨s6, rfl, .inl (SqL.of upd_same), fun u hu => ?_⟩, fun xs ys e1 e2 => ?_, fun H23 x23 => ?_⟩
      · rcases List.mem_append.mp hu with hu | hu
        · exact things_ok okT u hu
        · simp only [List.mem_cons, List.not_mem_nil, or_false] at hu
          rcases hu with rfl | rfl
          · exact ty22.ext z56
          · exact nonThing _
      · cases e1
        cases e2
        rw [List.length_append, List.length_append, bvl, lm]
        exact big _ (by show fo.length + 1 + (th.length + 2) ≤ 20; omega)
      rw [p12]
      refine ⟨_, rfl, rfl, _, rfl, ?_⟩
      refine ite2 (fun e => absurd e (by simp [optV])) (fun _ => ?_)
      have x2223 := z56.trans x23
      refine ⟨_, rfl, lb, _, rfl, .inl (SqL.of (x2223 _ _ elb)), fun t24 H24 x24 s24 => ?_⟩
      have p12b : partOf (some bv) none = some (dueOf z0 y q1) := by
        rw [← plen, hsp]
        exact part_mid0 okp bb
      refine ⟨.ref t24, .non, some bv, none, rfl, ⟨t24, rfl, .inr s24, fun u hu => ((tbv u hu).ext x2223).ext x24⟩, ⟨_, .base .non, kit_no (by decide +kernel) (by decide +kernel)⟩, (fun _ _ _ e => by cases e), fun H25 x25 => ?_⟩
      rw [p12b]
      refine ⟨_, rfl, rfl, _, rfl, ?_⟩
      refine ite2 (fun e => absurd e (by simp [optV])) (fun _ => ?_)
      have x2225 := (x2223.trans x24).trans x25
      have h1 := x2225 _ _ kk1
      have h2 := x2225 _ _ kk2
      have gp25 := pool_ext gp22 x2225
      have ov25 := ov22.ext x2225
      -- spot
      refine ⟨_, rfl, _, rfl, _, (th.map V.str).length, rfl, .inl ⟨_, SqL.of h2, rfl⟩, _, _, rfl, rfl, p, _, _, rfl, by omega, by rw [lm]; omega, gp25, by decide, fun r3 o3 r30 r31 gp26 => ?_⟩
      obtain ⟨H26, hH26⟩ : ∃ H26, H26 = L2.upd H25 p o3 := ⟨_, rfl⟩
      rw [← hH26] at gp26
      rw [← hH26]
      have b26 : But H25 H26 p := by
        rw [hH26]
        exact But.upd (ext_but Ext.rfl')
      obtain ⟨q2, rfl⟩ := Int.eq_ofNat_of_zero_le r30
      have hq2 : q2 ≤ th.length := by
        rw [lm] at r31
        omega
      have h1' := b26 _ _ nl1 h1
      have h2' := b26 _ _ nl2 h2
      have ov26 : OddV H26 z0 y := by
        have np : ∀ {aa : Addr} {u : HO}, H25 aa = some u → (∀ zs, u ≠ .lst zs ∨ zs.length ≠ 3) → H26 aa = some u := fun {aa u} h ne3 => b26 _ _ (fun z => by
          obtain ⟨g0, m0, c0, hh, _⟩ := gp25
          rw [z, hh] at h
          cases h
          rcases ne3 _ with w | w
          · exact w rfl
          · exact w rfl) h
        rcases ov25 with h | h | h | ⟨aa, e, h⟩ | ⟨aa, e, h⟩ | ⟨aa, e, h⟩
        · exact .inl h
        · exact .inr (.inl h)
        · exact .inr (.inr (.inl h))
        · exact .inr (.inr (.inr (.inl ⟨aa, e, np h fun zs => by
            by_cases w : zs = [.str "a"]
            · exact .inr (by rw [w]; decide)
            · exact .inl fun x => w (by cases x; rfl)⟩)))
        · exact .inr (.inr (.inr (.inr (.inl ⟨aa, e, np h fun zs => .inl fun x => nomatch x⟩))))
        · exact .inr (.inr (.inr (.inr (.inr ⟨aa, e, np h fun zs => .inl fun x => nomatch x⟩))))
      have x0_26 : Ext H H26 := fun c u h => b26 c u (ne_of_none h Hp0) (x2225 _ _ (x2122 _ _ (x021 c u h)))
      -- worse
      have cut3 : cutV (th.map V.str) none (some ((q2 : Nat) : Int)) = (th.take q2).map V.str := by rw [cutV_take (by rw [lm]; exact hq2), List.map_take]
      have cut4 : cutV (th.map V.str) (some ((q2 : Nat) : Int)) none = (th.drop q2).map V.str := by rw [cutV_drop (by rw [lm]; exact hq2), List.map_drop]
      refine ⟨_, rfl, _, rfl, _, rfl, l2, _, rfl, SqL.of h2', fun g1 hg1 => ?_⟩
      rw [cut3]
      have w1' := Ext.upd (o := .lst ((th.take q2).map V.str)) hg1
      refine ⟨_, rfl, Nat.le_of_ble_eq_true rfl, fun g2 hg2 => ?_⟩
      have w2' := Ext.upd (o := .lst [y]) hg2
      refine ⟨g1, g2, _, _, rfl, rfl, w2' _ _ upd_same, upd_same, by rw [List.length_map, List.length_take]; exact big _ (by show min q2 th.length + 1 ≤ 20; omega), fun g3 hg3 => ?_⟩
      have w3' := Ext.upd (o := .lst ((th.take q2).map V.str ++ [y])) hg3
      refine ⟨_, rfl, _, rfl, _, rfl, l2, _, rfl, SqL.of (w3' _ _ (w2' _ _ (w1' _ _ h2'))), fun g4 hg4 => ?_⟩
      rw [cut4]
      have w4' := Ext.upd (o := .lst ((th.drop q2).map V.str)) hg4
      refine ⟨g3, g4, _, _, rfl, rfl, w4' _ _ upd_same, upd_same, by rw [List.length_append, List.length_map, List.length_map, List.length_take, List.length_drop]; exact big _ (by show min q2 th.length + 1 + (th.length - q2) ≤ 20; omega), fun lw hlw => ?_⟩
      have w5' := Ext.upd (o := .lst (((th.take q2).map V.str ++ [y]) ++ (th.drop q2).map V.str)) hlw
      have x2627 := (((w1'.trans w2').trans w3').trans w4').trans w5'
      obtain ⟨H27, hH27⟩ : ∃ H27, H27 = L2.upd (L2.upd (L2.upd (L2.upd (L2.upd H26 g1 (.lst ((th.take q2).map V.str))) g2 (.lst [y])) g3 (.lst ((th.take q2).map V.str ++ [y]))) g4 (.lst ((th.drop q2).map V.str))) lw (.lst (((th.take q2).map V.str ++ [y]) ++ (th.drop q2).map V.str)) := ⟨_, rfl⟩
      obtain ⟨wv, hwv⟩ : ∃ wv : List V, wv = (th.take q2).map V.str ++ y :: (th.drop q2).map V.str := ⟨_, rfl⟩
      have elw : H27 lw = some (.lst wv) := by
        rw [hH27, upd_same, hwv, List.append_assoc]
        rfl
      rw [← hH27] at x2627
      rw [← hH27]
      have h1'' := x2627 _ _ h1'
      have h2'' := x2627 _ _ h2'
      have ov27 := ov26.ext x2627
      have ty27 : Thing K H27 y := odd_thing ov27 okz0.2.2
      have p15 : partOf (some (fo.map V.str)) (some wv) = some (fo.length + q2) := by
        have okp2 : Nok (fo ++ th.take q2) := ⟨okA.1.sublist (List.Sublist.append (List.Sublist.refl _) (List.take_sublist _ _)), fun z hz => okA.2 z (by
          rcases List.mem_append.mp hz with hz | hz
          · exact List.mem_append_left _ hz
          · exact List.mem_append_right _ (List.mem_of_mem_take hz))⟩
        have bb2 : BadBehind (fo ++ th.take q2) y := (odd_bad ov27).imp id fun e => ⟨z0, e, List.mem_append_left _ (by rw [efo]; exact List.mem_cons_self)⟩
        have z := part_mid (xs := fo.map V.str) (ys := wv) (rest := (th.drop q2).map V.str) (rest2 := []) okp2 bb2 (by rw [hwv, List.map_append, List.append_assoc]) (fun e => fne (List.map_eq_nil_iff.mp e))
        rw [z, List.length_append, List.length_take, Nat.min_eq_left hq2]
      refine ⟨_, rfl, _, rfl, .ref l1, .ref lw, some (fo.map V.str), some wv, rfl, ⟨l1, rfl, .inl (SqL.of h1''), things_ok fun z hz => (okF.2 z hz).2.2⟩, ⟨lw, rfl, .inl (SqL.of elw), fun u hu => ?_⟩, fun xs ys e1 e2 => ?_, fun H28 x28 => ?_⟩
      · rw [hwv] at hu
        rcases List.mem_append.mp hu with hu | hu
        · exact things_ok (fun z hz => okT z (List.mem_of_mem_take hz)) u hu
        · rcases List.mem_cons.mp hu with rfl | hu
          · exact ty27
          · exact things_ok (fun z hz => okT z (List.mem_of_mem_drop hz)) u hu
      · cases e1
        cases e2
        rw [hwv, List.length_append, List.length_append, List.length_cons, lm, lm, lm, List.length_take, List.length_drop]
        exact big _ (by omega)
      rw [p15]
      refine ⟨_, rfl, _, (fo.map V.str).length, rfl, .inl ⟨_, SqL.of (x28 _ _ h1''), rfl⟩, _, rfl, _, _, rfl, rfl, rfl, _, rfl, ?_⟩
      refine ite2 (fun e => absurd e (by simp [optV])) (fun _ => ?_)
      have h1L := x28 _ _ h1''
      have h2L := x28 _ _ h2''
      have x0_28 : Ext H H28 := (x0_26.trans x2627).trans x28
      -- no lists
      intro dz hdz
      refine ⟨Nat.zero_le _, fun le hle => ⟨Nat.zero_le _, fun te hte => ⟨Nat.le_of_ble_eq_true rfl, fun li hli => ?_⟩⟩⟩
      obtain ⟨its, hits⟩ : ∃ its : List V, its = [.non, .int 5, .str "abc", .ref dz, .bl true, .ref le, .ref te] := ⟨_, rfl⟩
      rw [← hits]
      have u1 := Ext.upd (o := .dK []) hdz
      have u2 := Ext.upd (o := .lst []) hle
      have u3 := Ext.upd (o := .tup []) hte
      have u4 := Ext.upd (o := .lst its) hli
      obtain ⟨Hi, hHi⟩ : ∃ Hi, Hi = L2.upd (L2.upd (L2.upd (L2.upd H28 dz (.dK [])) le (.lst [])) te (.tup [])) li (.lst its) := ⟨_, rfl⟩
      have eli : Hi li = some (.lst its) := by rw [hHi, upd_same]
      have x28i : Ext H28 Hi := by
        rw [hHi]
        exact ((u1.trans u2).trans u3).trans u4
      have ed : Hi dz = some (.dK []) := by
        rw [hHi]
        exact u4 _ _ (u3 _ _ (u2 _ _ upd_same))
      have ee : Hi le = some (.lst []) := by
        rw [hHi]
        exact u4 _ _ (u3 _ _ upd_same)
      have et : Hi te = some (.tup []) := by
        rw [hHi]
        exact u4 _ _ upd_same
      rw [← hHi]
      have lks : ∀ x, x ∈ its → ∃ o, Lk K Hi x o ∧ (o = none ∨ o = some []) := fun x hx => by
        rw [hits] at hx
        simp only [List.mem_cons, List.not_mem_nil, or_false] at hx
        rcases hx with rfl | rfl | rfl | rfl | rfl | rfl | rfl
        · exact ⟨none, ⟨_, .base .non, kit_no (by decide +kernel) (by decide +kernel)⟩, .inl rfl⟩
        · exact ⟨none, ⟨_, .base (.int 5), kit_no (by decide +kernel) (by decide +kernel)⟩, .inl rfl⟩
        · exact ⟨none, ⟨_, .base (.str _), kit_no (by decide +kernel) (by decide +kernel)⟩, .inl rfl⟩
        · exact ⟨none, ⟨_, .base (.dK ed), kit_no (by decide +kernel) (by decide +kernel)⟩, .inl rfl⟩
        · exact ⟨none, ⟨_, .base (.bl true), kit_no (by decide +kernel) (by decide +kernel)⟩, .inl rfl⟩
        · exact ⟨some [], ⟨le, rfl, .inl (SqL.of ee), fun z hz => by cases hz⟩, .inr rfl⟩
        · exact ⟨some [], ⟨te, rfl, .inr (SqT.of et), fun z hz => by cases hz⟩, .inr rfl⟩
      refine ⟨li, rfl, ⟨_, SqL.of eli⟩, for_it (walk_list (xs := its)) (fun _ σ H' => ∃ v : Option V, σ = [some (.ref a), some (.int (0 + (k : Int))), some (.ref p), some (.ref l1), some (.ref l2), some (.ref c1), some (.ref l9), some (.ref b), some (.int (q1 : Int)), some y, some (.ref lb), some (.int (dueOf z0 y q1 : Nat)), some (.int (q2 : Int)), some (.ref lw), v] ∧ Ext Hi H')
        ⟨v14, rfl, Ext.rfl'⟩ (fun _ σ H' _ ⟨_, _, z⟩ => SqL.of (z _ _ eli)) ?_ ?_⟩
      · rintro i x σ Hj Hj' hi ⟨v, rfl, xj⟩ ⟨rfl, hx⟩
        obtain ⟨o', lk, ho'⟩ := lks x (List.mem_of_getElem? hx)
        have lkT : ∀ H', Ext Hi H' → Lk K H' (.ref l2) (some (th.map V.str)) := fun H' z => ⟨l2, rfl, .inl (SqL.of (z _ _ (x28i _ _ h2L))), things_ok okT⟩
        have lkF : ∀ H', Ext Hi H' → Lk K H' (.ref l1) (some (fo.map V.str)) := fun H' z => ⟨l1, rfl, .inl (SqL.of (z _ _ (x28i _ _ h1L))), things_ok fun z hz => (okF.2 z hz).2.2⟩
        have p0 : partOf o' (some (th.map V.str)) = some 0 := by
          rcases ho' with rfl | rfl <;> rfl
        refine ⟨_, rfl, _, rfl, x, .ref l2, o', some (th.map V.str), rfl, lk.ext xj, lkT _ xj, fun xs ys e1 e2 => ?_, fun H29 x29 => ?_⟩
        · rcases ho' with rfl | rfl
          · cases e1
          · cases e1
            cases e2
            rw [List.nil_append, lm]
            exact big _ (by omega)
        rw [p0]
        refine ⟨rfl, _, rfl, ?_⟩
        refine ite2 (fun e => absurd e (by simp [optV])) (fun _ => ?_)
        have xj29 := xj.trans x29
        obtain ⟨tt, tyt, ktt⟩ := (lk.ext xj29).kit
        refine ⟨_, rfl, Nat.le_of_ble_eq_true rfl, fun tp htp => ⟨x, tp, [.ty "list", .ty "tuple"], tt, _, _, rfl, upd_same, .cons (.ty _) (.cons (.ty _) .nil), tyt.ext (Ext.upd htp), ktt, _, rfl, ?_⟩⟩
        have x30 := xj29.trans (Ext.upd (o := .tup [V.ty "list", V.ty "tuple"]) htp)
        rcases ho' with rfl | rfl
        · refine iteT ?_
          refine ⟨_, rfl, _, rfl, .ref l1, x, some (fo.map V.str), none, rfl, lkF _ x30, lk.ext x30, (fun _ _ _ e => by cases e), fun H31 x31 => ?_⟩
          rw [part_good0 okF fne]
          refine ⟨_, rfl, _, (fo.map V.str).length, rfl, .inl ⟨_, SqL.of (x31 _ _ (x30 _ _ (x28i _ _ h1L))), rfl⟩, rfl, _, rfl, ?_⟩
          refine ite2 (fun e => absurd e (by simp [optV])) (fun _ => ?_)
          exact ⟨_, rfl, x30.trans x31⟩
        · refine iteF ?_
          refine iteF ?_
          exact ⟨_, rfl, x30⟩
      · rintro σ Hj ⟨v, rfl, xj⟩
        exact ⟨_, _, _, _, _, _, _, _, _, _, _, _, _, _, rfl, (x0_28.trans x28i).trans xj⟩
    · rintro σ H1 ⟨v1, v2, v3, v4, v5, v6, v7, v8, v9, v10, v11, v12, v13, v14, rfl, x0⟩
      exact q H1
end
end My

namespace My
open PySem PySem.Spec PyProof.Rows L2 He
/-! ### what is looked up in the written part, as truths -/
def oexB (K : PySem.W.Frag) (C : Addr) : Bool := (match K.lookup C with
    | some ⟨.type t, _, .cls cd, sl⟩ => decide (t = "type") && (match cd.mro, sl.toList with
      | .ref C' :: bm, [_, _, _, _, some (.builtin n), _] => decide (C' = C) && (decide (n = "ValueError.__new__") && (!cd.hasDel && (cd.hasDict && PySem.HandSPX.refsVE bm)))
      | _, _ => false)
    | _ => false) && (decide (PySem.W.findIn K (.ref C) "__setattr__" = some (some (.builtin "object.__setattr__"))) && (decide (PySem.W.subIn K (.ref C) (.type "BaseException") = some true) &&
    (decide (PySem.W.typeIn K (.ref C) = some (.type "type")) && PySem.W.keepIn K (.ref C))))
theorem oexB_ok {K : PySem.W.Frag} {C : Addr} (h : oexB K C = true) : OexC K C := by
  obtain ⟨h1, h⟩ := ba h
  obtain ⟨h2, h⟩ := ba h
  obtain ⟨h3, h⟩ := ba h
  obtain ⟨h4, h5⟩ := ba h
  refine ⟨?_, of_decide_eq_true h2, of_decide_eq_true h3, of_decide_eq_true h4, h5⟩
  split at h1
  · rename_i t dd cd sl ho
    obtain ⟨k1, k2⟩ := ba h1
    obtain rfl := of_decide_eq_true k1
    split at k2
    · rename_i C' bm k0 k1 k2' k3 n k5 hm hs
      obtain ⟨e1, k2⟩ := ba k2
      obtain ⟨e2, k2⟩ := ba k2
      obtain ⟨e3, k2⟩ := ba k2
      obtain ⟨e4, e5⟩ := ba k2
      obtain rfl := of_decide_eq_true e1
      obtain rfl := of_decide_eq_true e2
      obtain ⟨nm, bs, mro, ns, qn, hd, sn, sub, ab, col, del⟩ := cd
      dsimp only at hm e3 e4
      subst hm
      obtain rfl : hd = true := e4
      obtain rfl : del = false := by
        cases del
        · rfl
        · cases e3
      have hsl : sl = #[k0, k1, k2', k3, some (.builtin "ValueError.__new__"), k5] := by
        obtain ⟨l⟩ := sl
        simp only at hs
        rw [hs]
      subst hsl
      exact ⟨nm, qn, ns, bs, bm, sn, sub, ab, col, dd, k0, k1, k2', k3, k5, ho, e5⟩
    · cases k2
  · cases h1
def kitCB (K : PySem.W.Frag) (C : Addr) : Bool := (PySem.W.clsIn K C).isSome && (decide (PySem.W.findIn K (.ref C) "__class__" = some (some (.builtin "object.__class__"))) &&
  (decide (PySem.W.specialIn K (.builtin "object.__class__") "__get__" = some (some (.builtin "getset_descriptor.__get__"))) && (decide (PySem.W.takesIn K (.builtin "object.__class__") = some true) && decide (PySem.W.mroIn K C (.type "object") = some true))))
theorem kitCB_ok {K : PySem.W.Frag} {C : Addr} (h : kitCB K C = true) : KitC K C := by
  obtain ⟨h1, h⟩ := ba h
  obtain ⟨h2, h⟩ := ba h
  obtain ⟨h3, h⟩ := ba h
  obtain ⟨h4, h5⟩ := ba h
  exact ⟨h1, of_decide_eq_true h2, of_decide_eq_true h3, of_decide_eq_true h4, of_decide_eq_true h5⟩
/-- a class with one field -/
def errB (K : PySem.W.Frag) (x f : Str) : Bool := oexB K (ga K x) && (xfB K (ga K x) && (kitCB K (ga K x) && (decide (PySem.W.findIn K (.ref (ga K x)) "__init__" = some (some (.ref (ma K (ga K x) "__init__")))) &&
  (decide (PySem.W.typeIn K (.ref (ma K (ga K x) "__init__")) = some (.type "function")) && decide (PySem.W.findIn K (.ref (ga K x)) f = some none)))))
theorem errB_ok {K : PySem.W.Frag} {mg : Str → Option Value} {x f : Str} (g : mg x = some (.ref (ga K x))) (h : errB K x f = true) : ErrC K mg x f (ga K x) (ma K (ga K x) "__init__") := by
  obtain ⟨h1, h⟩ := ba h
  obtain ⟨h2, h⟩ := ba h
  obtain ⟨h3, h⟩ := ba h
  obtain ⟨h4, h⟩ := ba h
  obtain ⟨h5, h6⟩ := ba h
  exact ⟨g, oexB_ok h1, xfB_ok h2, kitCB_ok h3, of_decide_eq_true h4, of_decide_eq_true h5, of_decide_eq_true h6⟩
/-! ### the look at the head: facts, defs, and one more truth -/
abbrev AlM : Type := AlD × Bool
def seenM (fa : List Fa) (fn : List DefD) (ex : PySem.W.Frag → Bool) (K : PySem.W.Frag) : AlM := (obsD fa fn K, ex K)
def seenMG (n : Nat) (fa : List Fa) (fn : List DefD) (ex : PySem.W.Frag → Bool) (g : Addr → Option Obj) : AlM := seenM fa fn ex (frG g (asD g n))
def hookM (n : Nat) (fa : List Fa) (fn : List DefD) (ex : PySem.W.Frag → Bool) : PySem.W.Hook where
  α := AlM
  obs := fun s => seenMG n fa fn ex s.heap.get?
  val := fun _ => (valD fn, true)
  says := fun _ h => ∃ K : PySem.W.Frag, K.In h ∧ (SaysD fa fn K ∧ ex K = true)
  of := fun _ _ e => ⟨_, frG_in, congrArg (fun z : AlM => z.1) e, congrArg (fun z : AlM => z.2) e⟩
  keeps := fun _ _ _ ⟨K, hK, c⟩ k => ⟨K, PySem.W.Frag.In.keeps hK k, c⟩
theorem seenMG_eq {n : Nat} {fa : List Fa} {fn : List DefD} {ex : PySem.W.Frag → Bool} {g : Addr → Option Obj} {s : Shared} (h : ∀ a, g a = s.heap.get? a) : seenMG n fa fn ex g = (hookM n fa fn ex).obs s := by
  have e : g = s.heap.get? := funext h
  rw [e] <;> rfl

abbrev s_BadHouse : Stmt := inCls (top 2) 0
def d_BadHouse : DefD := ⟨("BadHouse", some "__init__"), "__init__", "BadHouse.__init__", defArgs s_BadHouse, defBody s_BadHouse, defScope s_BadHouse, [], []⟩
def aDef (K : PySem.W.Frag) : Addr := dflAt ("House", some "__init__") 0 K
def d_H__init__ : DefD := ⟨("House", some "__init__"), "__init__", "House.__init__", defArgs sHInit, defBody sHInit, defScope sHInit, [.adr aDef], []⟩
def d_H__len__ : DefD := ⟨("House", some "__len__"), "__len__", "House.__len__", defArgs sHLen, defBody sHLen, defScope sHLen, [], []⟩
def d_H__contains__ : DefD := ⟨("House", some "__contains__"), "__contains__", "House.__contains__", defArgs sHHas, defBody sHHas, defScope sHHas, [], []⟩
def d_H__iter__ : DefD := ⟨("House", some "__iter__"), "__iter__", "House.__iter__", defArgs sHIter, defBody sHIter, defScope sHIter, [], []⟩
def d_H__eq__ : DefD := ⟨("House", some "__eq__"), "__eq__", "House.__eq__", defArgs sHEq, defBody sHEq, defScope sHEq, [], []⟩
def d_law_cell : DefD := ⟨("_law_cell", none), "_law_cell", "_law_cell", defArgs (top 13), defBody (top 13), defScope (top 13), [], []⟩
def d_law_pool : DefD := ⟨("_law_pool", none), "_law_pool", "_law_pool", defArgs (top 14), defBody (top 14), defScope (top 14), [], []⟩
def d_law_take : DefD := ⟨("_law_take", none), "_law_take", "_law_take", defArgs (top 15), defBody (top 15), defScope (top 15), [], []⟩
def d_law_names : DefD := ⟨("_law_names", none), "_law_names", "_law_names", defArgs (top 16), defBody (top 16), defScope (top 16), [], []⟩
def d_law_house : DefD := ⟨("_law_house", none), "_law_house", "_law_house", defArgs (top 17), defBody (top 17), defScope (top 17), [], []⟩
def d_law_refused : DefD := ⟨("_law_refused", none), "_law_refused", "_law_refused", defArgs (top 18), defBody (top 18), defScope (top 18), [], []⟩
def d_law_odd : DefD := ⟨("_law_odd", none), "_law_odd", "_law_odd", defArgs (top 19), defBody (top 19), defScope (top 19), [], []⟩
def d_law_is_right : DefD := ⟨("_law_is_right", none), "_law_is_right", "_law_is_right", defArgs (top 20), defBody (top 20), defScope (top 20), [], []⟩
def d_law_unlike : DefD := ⟨("_law_unlike", none), "_law_unlike", "_law_unlike", defArgs (top 21), defBody (top 21), defScope (top 21), [], []⟩
def d_law : DefD := ⟨("law", none), "law", "law", defArgs (top 22), defBody (top 22), defScope (top 22), [], []⟩
def d_is_list : DefD := ⟨("is_list", none), "is_list", "is_list", defArgs (top 6), defBody (top 6), defScope (top 6), [], []⟩
def d_is_name : DefD := ⟨("is_name", none), "is_name", "is_name", defArgs (top 7), defBody (top 7), defScope (top 7), [], []⟩
def d_wrong_name : DefD := ⟨("wrong_name", none), "wrong_name", "wrong_name", defArgs (top 9), defBody (top 9), defScope (top 9), [], []⟩
def d_wrong_part : DefD := ⟨("wrong_part", none), "wrong_part", "wrong_part", defArgs (top 10), defBody (top 10), defScope (top 10), [], []⟩
def fn : List DefD := [d_BadHouse, d_H__init__, d_H__len__, d_H__contains__, d_H__iter__, d_H__eq__, d_law_cell, d_law_pool, d_law_take, d_law_names, d_law_house, d_law_refused, d_law_odd, d_law_is_right, d_law_unlike, d_law, d_is_list, d_is_name, d_wrong_name, d_wrong_part]
def fa : List Fa := [.glo "BadHouse", .glo "House", .glo "_law_cell", .glo "_law_pool", .glo "_law_take", .glo "_law_names", .glo "_law_house", .glo "_law_refused", .glo "_law_odd", .glo "_law_is_right", .glo "_law_unlike", .glo "law", .glo "is_list", .glo "is_name", .glo "wrong_name", .glo "wrong_part", .free "int", .free "len", .free "isinstance", .free "range", .free "all", .free "list", .free "tuple", .free "str", .free "max", .free "enumerate", .free "iter", .free "any", .int "LONGEST" 8, .str "LETTERS" letters, .cls "House", .noat "House" "folders", .noat "House" "things", .noat "House" "nodes", .meth "House" "__len__", .meth "House" "__contains__", .meth "House" "__iter__", .meth "House" "__eq__", .mkr "House", .exm "BadHouse" "BadHouse" true]
def tyL : List String := ["NoneType", "list", "tuple", "int", "str"]
def dflB (K : PySem.W.Frag) : Bool := match K.lookup (aDef K) with
  | some ⟨.type t, _, .seq its _, _⟩ => decide (t = "tuple") && decide (its.toList = [])
  | _ => false
def houB (K : PySem.W.Frag) : Bool := errB K "BadHouse" "index" && (kitCB K (ga K "House") && (decide (PySem.W.kitOne K (.ref (ga K "House")) (.ref (ga K "House")) = some true) && (decide (PySem.W.findIn K (.ref (ga K "House")) "__ne__" = some (some (.builtin "object.__ne__"))) &&
  (decide (PySem.W.subIn K (.ref (ga K "House")) (.type "str") = some false) && ((tyL.all fun T => PySem.W.notFirst K (ga K "House") (.type T) && decide (PySem.W.kitOne K (.type T) (.ref (ga K "House")) = some false)) && dflB K)))))
theorem dflB_ok {K : PySem.W.Frag} (h : dflB K = true) : ∀ H, SqT K H (aDef K) [] := fun H => by
  unfold dflB at h
  split at h
  · rename_i t dd its n sl ho
    obtain ⟨h1, h2⟩ := ba h
    obtain rfl := of_decide_eq_true h1
    have h3 : its.toList = [] := of_decide_eq_true h2
    refine .inr ⟨_, its, n, ho, rfl, rfl, ?_, by rw [h3]; exact .nil⟩
    rw [← Array.length_toList, h3]
    exact Nat.zero_le _
  · cases h
def loose : List PySem.Str := ((["BadHouse", "House", "HouseError", "LETTERS", "LONGEST", "_law_cell", "_law_pool", "_law_take", "_law_names", "_law_house", "_law_refused", "_law_odd", "_law_is_right", "_law_unlike", "law", "is_list"] : List PySem.Str) ++ (["is_name", "wrong_name", "wrong_part", "int", "len", "isinstance", "range", "all", "list", "tuple", "str", "max", "enumerate", "iter", "any"] : List PySem.Str))
abbrev Rw : PySem.W.OpenRow := PySem.W.OpenLaw.row PySem.Challenge.rw_whatopened_k02_houses_made
abbrev hk : PySem.W.Hook := hookM 5 fa fn houB
def ob (s : PySem.W.SharedT) : AlM := seenMG 5 fa fn houB (HandSHeadRun.getT s)
theorem ob_eq (s : PySem.W.SharedT) : ob s = hk.obs s.abs := seenMG_eq (HandSHeadRun.getT_eq s)
end My

namespace My
open PySem PySem.Spec PyProof.Rows L2 He
section
variable {P : Program} {w : World} {K : PySem.W.Frag} {h : Heap} {mg : Str → Option Value} {base : Heap}
theorem facts {f : Addr} (X : K.In h) (G : h.Ns mainGlobals mg) (hfa : mg ("law" : Str) = some (.ref f)) (c : SaysD fa fn K) (e : houB K = true) :
    ∃ fd : FuncData, (∀ (s : Shared) (v : Value), BindsTo s fd ⟨[v], []⟩ [("_law_script", v)]) ∧ ∀ base : Heap, K.In base → base.Ns mainGlobals mg → FnOk P w K mg base CX0 7 f fd ["_law_script"] (spLaw K) := by
  obtain ⟨fd_BadHouse, F_BadHouse⟩ := c.def_ 0 (d := d_BadHouse) rfl
  obtain ⟨fd_H__init__, F_H__init__⟩ := c.def_ 1 (d := d_H__init__) rfl
  obtain ⟨fd_H__len__, F_H__len__⟩ := c.def_ 2 (d := d_H__len__) rfl
  obtain ⟨fd_H__contains__, F_H__contains__⟩ := c.def_ 3 (d := d_H__contains__) rfl
  obtain ⟨fd_H__iter__, F_H__iter__⟩ := c.def_ 4 (d := d_H__iter__) rfl
  obtain ⟨fd_H__eq__, F_H__eq__⟩ := c.def_ 5 (d := d_H__eq__) rfl
  obtain ⟨fd_law_cell, F_law_cell⟩ := c.def_ 6 (d := d_law_cell) rfl
  obtain ⟨fd_law_pool, F_law_pool⟩ := c.def_ 7 (d := d_law_pool) rfl
  obtain ⟨fd_law_take, F_law_take⟩ := c.def_ 8 (d := d_law_take) rfl
  obtain ⟨fd_law_names, F_law_names⟩ := c.def_ 9 (d := d_law_names) rfl
  obtain ⟨fd_law_house, F_law_house⟩ := c.def_ 10 (d := d_law_house) rfl
  obtain ⟨fd_law_refused, F_law_refused⟩ := c.def_ 11 (d := d_law_refused) rfl
  obtain ⟨fd_law_odd, F_law_odd⟩ := c.def_ 12 (d := d_law_odd) rfl
  obtain ⟨fd_law_is_right, F_law_is_right⟩ := c.def_ 13 (d := d_law_is_right) rfl
  obtain ⟨fd_law_unlike, F_law_unlike⟩ := c.def_ 14 (d := d_law_unlike) rfl
  obtain ⟨fd_law, F_law⟩ := c.def_ 15 (d := d_law) rfl
  obtain ⟨fd_is_list, F_is_list⟩ := c.def_ 16 (d := d_is_list) rfl
  obtain ⟨fd_is_name, F_is_name⟩ := c.def_ 17 (d := d_is_name) rfl
  obtain ⟨fd_wrong_name, F_wrong_name⟩ := c.def_ 18 (d := d_wrong_name) rfl
  obtain ⟨fd_wrong_part, F_wrong_part⟩ := c.def_ 19 (d := d_wrong_part) rfl
  have b_law_cell : Binds K fd_law_cell ["_law_script", "_law_k"] [] := FunD.bindsN F_law_cell fun _ _ _ _ _ _ us hl => match us, hl with | [_, _], _ => rfl
  have b_law_pool : Binds K fd_law_pool ["_law_grain"] [] := FunD.bindsN F_law_pool fun _ _ _ _ _ _ us hl => match us, hl with | [_], _ => rfl
  have b_law_take : Binds K fd_law_take ["_law_pool_here", "_law_many"] [] := FunD.bindsN F_law_take fun _ _ _ _ _ _ us hl => match us, hl with | [_, _], _ => rfl
  have b_law_names : Binds K fd_law_names ["_law_pool_here", "_law_many"] [] := FunD.bindsN F_law_names fun _ _ _ _ _ _ us hl => match us, hl with | [_, _], _ => rfl
  have b_law_house : Binds K fd_law_house ["_law_pool_here", "_law_most", "_law_more"] [] := FunD.bindsN F_law_house fun _ _ _ _ _ _ us hl => match us, hl with | [_, _, _], _ => rfl
  have b_law_refused : Binds K fd_law_refused ["_law_folders", "_law_things"] [] := FunD.bindsN F_law_refused fun _ _ _ _ _ _ us hl => match us, hl with | [_, _], _ => rfl
  have b_law_odd : Binds K fd_law_odd ["_law_pool_here", "_law_words"] [] := FunD.bindsN F_law_odd fun _ _ _ _ _ _ us hl => match us, hl with | [_, _], _ => rfl
  have b_law_is_right : Binds K fd_law_is_right ["_law_house_here", "_law_folders", "_law_things"] [] := FunD.bindsN F_law_is_right fun _ _ _ _ _ _ us hl => match us, hl with | [_, _, _], _ => rfl
  have b_law_unlike : Binds K fd_law_unlike ["_law_house_here", "_law_folders", "_law_things"] [] := FunD.bindsN F_law_unlike fun _ _ _ _ _ _ us hl => match us, hl with | [_, _, _], _ => rfl
  have b_is_list : Binds K fd_is_list ["thing"] [] := FunD.bindsN F_is_list fun _ _ _ _ _ _ us hl => match us, hl with | [_], _ => rfl
  have b_is_name : Binds K fd_is_name ["thing"] [] := FunD.bindsN F_is_name fun _ _ _ _ _ _ us hl => match us, hl with | [_], _ => rfl
  have b_wrong_name : Binds K fd_wrong_name ["things"] [] := FunD.bindsN F_wrong_name fun _ _ _ _ _ _ us hl => match us, hl with | [_], _ => rfl
  have b_wrong_part : Binds K fd_wrong_part ["folders", "things"] [] := FunD.bindsN F_wrong_part fun _ _ _ _ _ _ us hl => match us, hl with | [_, _], _ => rfl
  have b_H__len__ : Binds K fd_H__len__ ["self"] [] := FunD.bindsN F_H__len__ fun _ _ _ _ _ _ us hl => match us, hl with | [_], _ => rfl
  have b_H__contains__ : Binds K fd_H__contains__ ["self", "x"] [] := FunD.bindsN F_H__contains__ fun _ _ _ _ _ _ us hl => match us, hl with | [_, _], _ => rfl
  have b_H__iter__ : Binds K fd_H__iter__ ["self"] [] := FunD.bindsN F_H__iter__ fun _ _ _ _ _ _ us hl => match us, hl with | [_], _ => rfl
  have b_H__eq__ : Binds K fd_H__eq__ ["self", "other"] [] := FunD.bindsN F_H__eq__ fun _ _ _ _ _ _ us hl => match us, hl with | [_, _], _ => rfl
  have q := hfa.symm.trans (glo_ok X G (c.fact 11 (f := .glo "law") rfl))
  cases q
  have b := FunD.bindsA (ps := ["_law_script"]) F_law fun _ _ _ _ _ _ us hl => match us, hl with | [_], _ => rfl
  refine ⟨fd_law, fun s v => b s [v] rfl, fun base XB GB => ?_⟩
  obtain ⟨eB, e1⟩ := ba e
  obtain ⟨eK, e2⟩ := ba e1
  obtain ⟨eC, e3⟩ := ba e2
  obtain ⟨eN, e4⟩ := ba e3
  obtain ⟨eS, e5⟩ := ba e4
  obtain ⟨eT, eD⟩ := ba e5
  have KC := kitCB_ok eK
  have nb : ∀ T, T ∈ ["NoneType", "list", "tuple", "int", "str"] → PySem.W.notFirst K (ga K "House") (.type T) = true ∧ PySem.W.kitOne K (.type T) (.ref (ga K "House")) = some false := fun T hT => by
    obtain ⟨k1, k2⟩ := ba (List.all_eq_true.mp eT T hT)
    exact ⟨k1, of_decide_eq_true k2⟩
  have EB : ∀ base, Er P w K mg base "BadHouse" "index" (ga K "BadHouse") := fun base => by
    have T := errB_ok (glo_ok X G (c.fact 0 (f := .glo "BadHouse") rfl)) eB
    have S : FnScope ["self", "index"] ["self", "index"] (defScope s_BadHouse) := ⟨rfl, rfl, rfl, by decide +kernel, rfl, by decide +kernel, by decide +kernel⟩
    refine ⟨_, fd_BadHouse, T, ok_init (st := s_BadHouse) (qual := "BadHouse.__init__") T F_BadHouse S ⟨_, _, _, _, rfl⟩ (by decide) (by decide), FunD.bindsN F_BadHouse fun _ _ _ _ _ _ us hl => match us, hl with | [_, _], _ => rfl, fun s u v _ => ?_⟩
    obtain ⟨oc, od, dV, kV, doc, pm, an, cdv, ct, osl, rfl, lk, hcd, hD, hK⟩ := F_BadHouse.ex
    rcases hD with ⟨_, rfl⟩ | ⟨z, _⟩
    · exact .of_eq rfl
    · exact absurd rfl z
  have T : HouC K (ga K "House") := ⟨cls_ok (c.fact 30 (f := .cls "House") rfl), noat_ok (c.fact 31 (f := .noat "House" "folders") rfl), noat_ok (c.fact 32 (f := .noat "House" "things") rfl), noat_ok (c.fact 33 (f := .noat "House" "nodes") rfl), KC.at_, KC.sp, KC.tk, KC.ob⟩
  have mt : ∀ m, Meth K (ga K "House") m (ma K (ga K "House") m) → OwnM K (ga K "House") m (ma K (ga K "House") m) := fun m z => ⟨z.at_, z.fn⟩
  obtain ⟨tL, gLL⟩ := str_ok X G (c.fact 29 (f := .str "LETTERS" letters) rfl)
  obtain ⟨t8, g88⟩ := int_ok X G (c.fact 28 (f := .int "LONGEST" 8) rfl)
  have WN : ∀ base, FnOk P w K mg base CX0 2 _ fd_wrong_name ["things"] (spWrongName K) := fun base => ok_wrongName F_wrong_name (ok_isName F_is_name (free_ok X G (c.fact 18 (f := .free "isinstance") rfl)) (free_ok X G (c.fact 23 (f := .free "str") rfl)) (free_ok X G (c.fact 17 (f := .free "len") rfl)) (free_ok X G (c.fact 20 (f := .free "all") rfl)) g88 gLL) (glo_ok X G (c.fact 13 (f := .glo "is_name") rfl)) F_is_name.kp b_is_name (free_ok X G (c.fact 25 (f := .free "enumerate") rfl))
  have WP : ∀ base, FnOk P w K mg base CX0 3 _ fd_wrong_part ["folders", "things"] (spWrongPart K) := fun base => ok_wrongPart F_wrong_part (ok_isList F_is_list (free_ok X G (c.fact 18 (f := .free "isinstance") rfl)) (free_ok X G (c.fact 21 (f := .free "list") rfl)) (free_ok X G (c.fact 22 (f := .free "tuple") rfl))) (glo_ok X G (c.fact 12 (f := .glo "is_list") rfl)) F_is_list.kp b_is_list ((WN base).imp wn_imp) (glo_ok X G (c.fact 14 (f := .glo "wrong_name") rfl)) F_wrong_name.kp b_wrong_name (free_ok X G (c.fact 17 (f := .free "len") rfl))
  have HI : ∀ base, FnOk P w K mg base (L2.CX P w) 4 _ fd_H__init__ ["self", "folders", "things"] (spHInit K (ga K "House") (ga K "BadHouse")) := fun base => ok_hInit F_H__init__ T (WP base) (glo_ok X G (c.fact 15 (f := .glo "wrong_part") rfl)) F_wrong_part.kp b_wrong_part (EB base) (free_ok X G (c.fact 22 (f := .free "tuple") rfl))
  obtain ⟨d3, vd3, bI⟩ := FunD.binds1 (ps := ["self", "folders", "things"]) F_H__init__ 3 1 (by simp [DefD.dvs, d_H__init__]) rfl fun T kV doc pm an cdv ct us its hu hi => by
    match us, hu, its, hi with
    | [_, _, _], _, [_], _ => exact ⟨_, rfl, rfl⟩
  obtain ⟨d2, vd2, bD⟩ := FunD.binds1 (ps := ["self", "folders", "things"]) F_H__init__ 2 0 (by simp [DefD.dvs, d_H__init__]) rfl fun T kV doc pm an cdv ct us its hu hi => by
    match us, hu, its, hi with
    | [_, _], _, [_], _ => exact ⟨_, rfl, rfl⟩
  have nD : ∀ H, SqT K H (aDef K) [] := dflB_ok eD
  have e3' : d3 = [] := by
    cases vd3
    rfl
  subst e3'
  obtain ⟨u2, e2', ru2⟩ := vd2.one
  subst e2'
  have eu : u2 = .ref (aDef K) := ru2
  have HE : ∀ base, FnOk P w K mg base CX0 1 _ fd_H__eq__ ["self", "other"] (spHEq K (ga K "House")) := fun base => ok_hEq F_H__eq__ T (free_ok X G (c.fact 18 (f := .free "isinstance") rfl)) (glo_ok X G (c.fact 1 (f := .glo "House") rfl)) (of_decide_eq_true eC)
  let Z : HouseTxt P w K mg (ga K "House") (ga K "BadHouse") := {
    T := T, gH := (glo_ok X G (c.fact 1 (f := .glo "House") rfl)), kCC := of_decide_eq_true eC, ne := of_decide_eq_true eN, noStr := of_decide_eq_true eS, nb := nb,
    fI := _, fdI := fd_H__init__, M := mkr_ok (c.fact 38 (f := .mkr "House") rfl), I := HI, bI := bI, uD := u2, bD := bD, aD := aDef K, eD := eu, tD := nD,
    fL := _, fdL := fd_H__len__, mL := (mt _ (meth_ok (c.fact 34 (f := .meth "House" "__len__") rfl))), L := fun base => ok_hLen F_H__len__ T (free_ok X G (c.fact 17 (f := .free "len") rfl)), bL := b_H__len__,
    fS := _, fdS := fd_H__contains__, mS := (mt _ (meth_ok (c.fact 35 (f := .meth "House" "__contains__") rfl))), S := fun base => ok_hHas F_H__contains__ T (of_decide_eq_true eS) (mt _ (meth_ok (c.fact 37 (f := .meth "House" "__eq__") rfl))) (HE base) b_H__eq__ (nb "str" (by decide)).2, bS := b_H__contains__,
    fW := _, fdW := fd_H__iter__, mW := (mt _ (meth_ok (c.fact 36 (f := .meth "House" "__iter__") rfl))), W := fun base => ok_hIter F_H__iter__ T (free_ok X G (c.fact 26 (f := .free "iter") rfl)), bW := b_H__iter__,
    fE := _, fdE := fd_H__eq__, mE := (mt _ (meth_ok (c.fact 37 (f := .meth "House" "__eq__") rfl))), E := HE, bE := b_H__eq__ }
  have TK : FnOk P w K mg base CX0 1 _ fd_law_take ["_law_pool_here", "_law_many"] spTake := ok_take F_law_take (free_ok X G (c.fact 16 (f := .free "int") rfl))
  have NM : FnOk P w K mg base CX0 2 _ fd_law_names ["_law_pool_here", "_law_many"] (spNames K) := ok_names F_law_names TK (glo_ok X G (c.fact 4 (f := .glo "_law_take") rfl)) F_law_take.kp b_law_take (free_ok X G (c.fact 19 (f := .free "range") rfl))
  have L : LawIn P w K mg base (ga K "House") := {
    cell := ⟨_, fd_law_cell, ok_cell F_law_cell (free_ok X G (c.fact 17 (f := .free "len") rfl)), (glo_ok X G (c.fact 2 (f := .glo "_law_cell") rfl)), F_law_cell.kp, b_law_cell⟩
    pool := ⟨_, fd_law_pool, ok_pool F_law_pool (free_ok X G (c.fact 16 (f := .free "int") rfl)), (glo_ok X G (c.fact 3 (f := .glo "_law_pool") rfl)), F_law_pool.kp, b_law_pool⟩
    take := ⟨_, fd_law_take, TK, (glo_ok X G (c.fact 4 (f := .glo "_law_take") rfl)), F_law_take.kp, b_law_take⟩
    house := ⟨_, fd_law_house, ok_house F_law_house TK (glo_ok X G (c.fact 4 (f := .glo "_law_take") rfl)) F_law_take.kp b_law_take NM (glo_ok X G (c.fact 5 (f := .glo "_law_names") rfl)) F_law_names.kp b_law_names (free_ok X G (c.fact 24 (f := .free "max") rfl)), (glo_ok X G (c.fact 6 (f := .glo "_law_house") rfl)), F_law_house.kp, b_law_house⟩
    odd := ⟨_, fd_law_odd, ok_odd F_law_odd TK (glo_ok X G (c.fact 4 (f := .glo "_law_take") rfl)) F_law_take.kp b_law_take (free_ok X G (c.fact 17 (f := .free "len") rfl)), (glo_ok X G (c.fact 8 (f := .glo "_law_odd") rfl)), F_law_odd.kp, b_law_odd⟩
    right := ⟨_, fd_law_is_right, ok_right F_law_is_right Z (free_ok X G (c.fact 22 (f := .free "tuple") rfl)) (free_ok X G (c.fact 17 (f := .free "len") rfl)), (glo_ok X G (c.fact 9 (f := .glo "_law_is_right") rfl)), F_law_is_right.kp, b_law_is_right⟩
    unlike := ⟨_, fd_law_unlike, ok_unlike F_law_unlike Z (free_ok X G (c.fact 22 (f := .free "tuple") rfl)) (free_ok X G (c.fact 17 (f := .free "len") rfl)) (free_ok X G (c.fact 27 (f := .free "any") rfl)), (glo_ok X G (c.fact 10 (f := .glo "_law_unlike") rfl)), F_law_unlike.kp, b_law_unlike⟩
    refused := ⟨_, fd_law_refused, ok_refused F_law_refused (mkr_ok (c.fact 38 (f := .mkr "House") rfl)) (HI base) (glo_ok X G (c.fact 1 (f := .glo "House") rfl)) bI (glo_ok X G (c.fact 0 (f := .glo "BadHouse") rfl)) (errB_ok (glo_ok X G (c.fact 0 (f := .glo "BadHouse") rfl)) eB).xf (errB_ok (glo_ok X G (c.fact 0 (f := .glo "BadHouse") rfl)) eB).no (exm_ok (c.fact 39 (f := .exm "BadHouse" "BadHouse" true) rfl)), (glo_ok X G (c.fact 7 (f := .glo "_law_refused") rfl)), F_law_refused.kp, b_law_refused⟩
    gN := (free_ok X G (c.fact 17 (f := .free "len") rfl)), gR := (free_ok X G (c.fact 19 (f := .free "range") rfl)), gT := (free_ok X G (c.fact 22 (f := .free "tuple") rfl)), gLi := (free_ok X G (c.fact 21 (f := .free "list") rfl)), gI := (free_ok X G (c.fact 18 (f := .free "isinstance") rfl)), gS := (free_ok X G (c.fact 23 (f := .free "str") rfl)), gM := (free_ok X G (c.fact 24 (f := .free "max") rfl)) }
  exact ok_law F_law L Z
end
end My

namespace My
open PySem PySem.Spec PyProof.Rows L2 He
theorem run (w : World) : HandSHeadRun.RunEq Rw (PySem.W.view Rw.prog [22]) hk ob 8000 loose w := by
  intro os
  kernel_rfl
end My

open PySem PySem.W PySem.Calls PyProof.Rows
theorem PySem.Challenge.cw_whatopened_k02_houses_made_holds : PySem.Challenge.rw_whatopened_k02_houses_made.Holds := by
  w_on; o_law
  refine HandSHeadRun.head_any (r := OpenLaw.row PySem.Challenge.rw_whatopened_k02_houses_made) (q := view (OpenLaw.row PySem.Challenge.rw_whatopened_k02_houses_made).prog [22]) (H := My.hk) (ob := My.ob) (M := 8000) (loose := My.loose) (d := HandSHeadRun.topDef (OpenLaw.row PySem.Challenge.rw_whatopened_k02_houses_made).prog 22) (kwd := []) My.ob_eq
    (by kernel_rfl) (fun s => by kernel_rfl) My.run (by kernel_rfl) (by kernel_rfl) (by kernel_rfl) (by rfl) (by first | assumption | decide +kernel) (by decide +kernel) ⟨rfl, rfl, rfl, rfl, rfl, by decide +kernel⟩ ?hw ?hc
  case hw => w_witness2
  case hc =>
    refine L2.walk_ofE (l := PySem.Challenge.rw_whatopened_k02_houses_made) (n := 63) (k := 7) (x := "_law_script") (CX := L2.CX0) rfl (by decide) (by kernel_rfl) ⟨rfl, by decide, by decide⟩ ?F (fun _ _ _ _ z => z)
    intro w mg fa h Y G hmg0
    obtain ⟨K, KX, c, e⟩ := Y
    have hmg : mg ("law" : PySem.Str) = some (.ref fa) := by
      have e : (HandSHeadRun.topDef (OpenLaw.row PySem.Challenge.rw_whatopened_k02_houses_made).prog 22).name = ("law" : PySem.Str) := by kernel_rfl
      rw [← e]
      exact hmg0
    obtain ⟨fd, hb, hF⟩ := My.facts (P := (PySem.Challenge.rw_whatopened_k02_houses_made).prog) (w := w) KX G hmg c e
    exact ⟨K, fd, My.spLaw K, KX, hb, fun H a ns hl _ hS => ⟨a, ns, rfl, hS, fun _ => rfl⟩, hF⟩
#print axioms PySem.Challenge.cw_whatopened_k02_houses_made_holds

