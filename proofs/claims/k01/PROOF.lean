import PyProof.Rows.All
import Wide.All
import OpenK.AllK
import Wide.FinOn
import HandS.ForMost
import HandS.ForExc
import HandS.Defaults
import HandS.IsInst
import HandS.ExcInit
import HandS.OwnEq
import PySem.Challenge.RW_whatopened_k01_errors_made
import HandS.ExcValue
import HandS.ExcField
import HandS.MakeKw
import KE.KExcIs
import HandS.LawCells
import HandS.HeadHook1
import HandS.HeadHook2
import HandS.DictEq
import HandS.ExcBuiltin
import KE.KStateDown
import Lean
import HandS.Head0
import HandS.Head1
import HandS.Head2
import HandS.HeadEnd
set_option Elab.async false
set_option linter.all false
set_option maxRecDepth 100000
set_option maxHeartbeats 0
namespace My
open PySem PySem.Spec PyProof.Rows L2
def top (i : Nat) : Stmt := PySem.Challenge.pw_whatopened_k01_errors_made.main.body.getD i (.Pass ⟨0, 0, 0, 0⟩)
abbrev FnP (K : PySem.W.Frag) (x : Str) (st : Stmt) (f : Addr) (fd : FuncData) : Prop := FunD K x x (defArgs st) (defBody st) (defScope st) [] [] f fd
abbrev sCell : Stmt := top 30
abbrev sPool : Stmt := top 31
abbrev sTake : Stmt := top 32
/-! ### the pool -/
/-- a pool stands at p, at most n draws of its second kind were made -/
def Pool (H : Hp) (p : Addr) (n : Int) : Prop := ∃ g m c : Int, H p = some (.lst [.int g, .int m, .int c]) ∧ 0 ≤ g ∧ 0 ≤ m ∧ m < 1000000007 ∧ 0 ≤ c ∧ c ≤ n
def spCell1 (K : PySem.W.Frag) : Sp := fun vs H Q _ => ∃ (l : Addr) (ns : List Int) (j : Nat), vs = [.ref l, .int (j : Int)] ∧ SqL K H l (ns.map V.int) ∧ ∀ i : Int, Q (.int i) H
def spPool : Sp := fun vs H Q _ => ∃ g : Int, vs = [.int g] ∧ ∀ p H', H p = none → (∃ a b : Int, 0 ≤ a ∧ 0 ≤ b ∧ b < 1000000007 ∧ H' = upd H p (.lst [.int a, .int b, .int 0])) → Q (.ref p) H'
def spTake : Sp := fun vs H Q _ => ∃ (p : Addr) (many n : Int), vs = [.ref p, .int many] ∧ 0 < many ∧ many < 1073741824 ∧ Pool H p n ∧ n < 1099511627776 ∧
  ∀ (r : Int) (o : HO), 0 ≤ r → r < many → Pool (upd H p o) p (n + 1) → Q (.int r) (upd H p o)
theorem scCell : FnScope ["_law_script", "_law_k"] ["_law_script", "_law_k"] (defScope sCell) := ⟨rfl, rfl, rfl, by decide +kernel, rfl, by decide +kernel, by decide +kernel⟩
theorem scPool : FnScope ["_law_grain", "_law_folded"] ["_law_grain"] (defScope sPool) := ⟨rfl, rfl, rfl, by decide +kernel, rfl, by decide +kernel, by decide +kernel⟩
theorem scTake : FnScope ["_law_pool_here", "_law_many", "_law_draw", "_law_mixed"] ["_law_pool_here", "_law_many"] (defScope sTake) := ⟨rfl, rfl, rfl, by decide +kernel, rfl, by decide +kernel, by decide +kernel⟩
section
variable {P : Program} {w : World} {K : PySem.W.Frag} {mg : Str → Option Value} {base : Heap} {f : Addr} {fd : FuncData}
theorem ok_cell (F : FnP K "_law_cell" sCell f fd) (gL : mg "len" = none) : FnOk P w K mg base CX0 1 f fd ["_law_script", "_law_k"] (spCell1 K) := by
  refine F.ok scCell (fun vs H Q E h => ?_) (fun cdv A outer s H vs Q E hr h => ⟨_, PSs.nox (pss_cons (ps_if (pt_cmpR op_lt (pv 1) (pe_callB call_len (by rfl) gL boot_len (pa_cons (pv 0) pa_nil)) (nomark _)) (pss_one (ps_ret (pe_ix ix_list (pv 0) (pv 1) (fun _ _ => rfl)))) pss_nil) (pss_one (ps_ret pe_int))), ?_⟩)
  · obtain ⟨l, ns, j, rfl, _⟩ := h
    rfl
  · obtain ⟨l, ns, j, rfl, hS, q⟩ := h
    refine ⟨_, rfl, _, rfl, _, _, rfl, .inl ⟨_, hS, rfl⟩, _, _, rfl, rfl, _, rfl, ?_⟩
    refine ite2 (fun hj => ?_) (fun _ => ?_)
    · have hj' : j < ns.length := by
        have z := of_decide_eq_true hj
        rw [List.length_map] at z
        omega
      refine ⟨_, rfl, _, rfl, l, _, _, _, rfl, rfl, hS, atI_nat (by rw [List.getElem?_map, List.getElem?_eq_getElem hj'] <;> rfl), q _⟩
    · exact q 0
theorem ok_pool (F : FnP K "_law_pool" sPool f fd) (gI : mg "int" = none) : FnOk P w K mg base CX0 1 f fd ["_law_grain"] spPool := by
  refine F.ok scPool (fun vs H Q E h => ?_) (fun cdv A outer s H vs Q E hr h => ⟨_, PSs.nox (
    pss_cons (ps_set (i := 1) scPool.nd rfl (.inl rfl) (pe_op op_mul pe_int (pv 0)))
    (pss_cons (ps_if (pt_cmpR op_lt (pv 0) pe_int (nomark _)) (pss_one (ps_set (i := 1) scPool.nd rfl (.inl rfl) (pe_op op_sub (pe_op op_sub pe_int (pe_op op_mul pe_int (pv 0))) pe_int))) pss_nil)
    (pss_cons (ps_if (pt_cmpR op_ge (pv 1) (pe_op op_pow pe_int pe_int) (nomark _)) (pss_one (ps_ret (pe_lst (pa_cons (pv 1) (pa_cons (pe_op op_mod (pe_callTy call_int1 (by rfl) gI (by decide +kernel) (pa_cons (pv 1) pa_nil)) pe_int) (pa_cons pe_int pa_nil)))))) pss_nil)
    (pss_one (ps_ret (pe_lst (pa_cons pe_int (pa_cons (pe_op op_mod (pe_callTy call_int1 (by rfl) gI (by decide +kernel) (pa_cons (pv 1) pa_nil)) pe_int) (pa_cons pe_int pa_nil))))))))), ?_⟩)
  · obtain ⟨g, rfl, _⟩ := h
    rfl
  · obtain ⟨g, rfl, q⟩ := h
    refine ⟨_, rfl, _, _, rfl, rfl, .inl ⟨by decide, by decide⟩, _, rfl, _, _, rfl, rfl, _, rfl, ?_⟩
    have m1 : ∀ z : Int, 0 ≤ z % 1000000007 := fun z => Int.emod_nonneg z (by decide)
    have m2 : ∀ z : Int, z % 1000000007 < 1000000007 := fun z => Int.emod_lt_of_pos z (by decide)
    have lst3 : ∀ a b c : V, ([a, b, c] : List V).length ≤ sizeLine := fun a b c => by show 3 ≤ sizeLine; decide
    refine ite2 (fun hn => ?_) (fun hn => ?_)
    · have hn' := of_decide_eq_true hn
      refine ⟨_, rfl, _, _, rfl, rfl, .inl ⟨by decide, by decide⟩, _, _, rfl, rfl, _, _, rfl, rfl, ?_⟩
      refine ⟨_, rfl, _, _, rfl, rfl, ⟨by decide, by decide, by decide⟩, _, _, rfl, rfl, _, rfl, ?_⟩
      refine ite2 (fun _ => ?_) (fun _ => ?_)
      · refine ⟨_, rfl, _, rfl, .inl ⟨_, rfl, _, _, rfl, rfl, (show (0 : Int) < 1000000007 by decide), lst3 _ _ _, fun p hp => q p _ hp ⟨_, _, ?_, m1 _, m2 _, rfl⟩⟩⟩
        omega
      · refine ⟨_, rfl, .inl ⟨_, rfl, _, _, rfl, rfl, (show (0 : Int) < 1000000007 by decide), lst3 _ _ _, fun p hp => q p _ hp ⟨_, _, by decide, m1 _, m2 _, rfl⟩⟩⟩
    · have hn' : ¬ g < 0 := fun z => hn (decide_eq_true z)
      refine ⟨_, rfl, _, _, rfl, rfl, ⟨by decide, by decide, by decide⟩, _, _, rfl, rfl, _, rfl, ?_⟩
      refine ite2 (fun _ => ?_) (fun _ => ?_)
      · refine ⟨_, rfl, _, rfl, .inl ⟨_, rfl, _, _, rfl, rfl, (show (0 : Int) < 1000000007 by decide), lst3 _ _ _, fun p hp => q p _ hp ⟨_, _, ?_, m1 _, m2 _, rfl⟩⟩⟩
        omega
      · refine ⟨_, rfl, .inl ⟨_, rfl, _, _, rfl, rfl, (show (0 : Int) < 1000000007 by decide), lst3 _ _ _, fun p hp => q p _ hp ⟨_, _, by decide, m1 _, m2 _, rfl⟩⟩⟩
theorem ok_take (F : FnP K "_law_take" sTake f fd) (gI : mg "int" = none) : FnOk P w K mg base CX0 1 f fd ["_law_pool_here", "_law_many"] spTake := by
  refine F.ok scTake (fun vs H Q E h => ?_) (fun cdv A outer s H vs Q E hr h => ⟨_, PSs.nox (
    pss_cons (ps_if (pt_cmpR op_gt (pe_ix ix_list (pv 0) pe_int (fun _ _ => rfl)) pe_int (nomark _))
      (pss_cons (ps_set (i := 2) scTake.nd rfl (.inl rfl) (pe_op op_mod (pe_callTy call_int1 (by rfl) gI (by decide +kernel) (pa_cons (pe_ix ix_list (pv 0) pe_int (fun _ _ => rfl)) pa_nil)) (pv 1)))
      (pss_cons (ps_asg (pe_op op_fdiv (pe_ix ix_list (pv 0) pe_int (fun _ _ => rfl)) (pv 1)) (pg_sub (pv 0) pe_int set_list))
      (pss_one (ps_ret (pv 2))))) pss_nil)
    (pss_cons (ps_asg (pe_op op_add (pe_ix ix_list (pv 0) pe_int (fun _ _ => rfl)) pe_int) (pg_sub (pv 0) pe_int set_list))
    (pss_cons (ps_set (i := 3) scTake.nd rfl (.inl rfl) (pe_op op_mod (pe_callTy call_int1 (by rfl) gI (by decide +kernel) (pa_cons (pe_op op_pow (pe_op op_add (pe_op op_add (pe_ix ix_list (pv 0) pe_int (fun _ _ => rfl)) (pe_op op_mul pe_int (pe_ix ix_list (pv 0) pe_int (fun _ _ => rfl)))) pe_int) pe_int) pa_nil)) pe_int))
    (pss_one (ps_ret (pe_op op_mod (pe_op op_mod (pe_callTy call_int1 (by rfl) gI (by decide +kernel) (pa_cons (pe_op op_mul (pe_op op_add (pv 3) (pe_ix ix_list (pv 0) pe_int (fun _ _ => rfl))) pe_int) pa_nil)) pe_int) (pv 1))))))), ?_⟩)
  · obtain ⟨p, many, n, rfl, _⟩ := h
    rfl
  · obtain ⟨p, many, n, rfl, hm0, hm1, ⟨g, m, c, hp, hg, hm, hm', hc, hcn⟩, hn, q⟩ := h
    have SL : ∀ {H : Hp} {xs : List V}, H p = some (.lst xs) → SqL K H p xs := fun h => SqL.of h
    refine ⟨_, rfl, p, _, 0, .int g, rfl, rfl, SL hp, rfl, _, _, rfl, rfl, _, rfl, ?_⟩
    refine ite2 (fun hg0 => ?_) (fun _ => ?_)
    · refine ⟨_, rfl, p, _, 0, .int g, rfl, rfl, SL hp, rfl, .inl ⟨_, rfl, _, rfl, _, _, rfl, rfl, hm0, ?_⟩⟩
      refine ⟨_, rfl, p, _, 0, .int g, rfl, rfl, SL hp, rfl, _, rfl, _, _, rfl, rfl, ⟨hm0, hm1⟩, _, rfl, p, _, 0, 0, rfl, rfl, hp, rfl, ?_⟩
      refine ⟨_, rfl, q _ _ (Int.emod_nonneg _ (by omega)) (Int.emod_lt_of_pos _ hm0) ⟨g / many, m, c, upd_same, Int.ediv_nonneg hg (by omega), hm, hm', hc, by omega⟩⟩
    · refine ⟨_, rfl, p, _, 2, .int c, rfl, rfl, SL hp, rfl, _, _, rfl, rfl, _, rfl, p, _, 2, 2, rfl, rfl, hp, rfl, ?_⟩
      have h2 : upd H p (.lst (List.set [V.int g, V.int m, V.int c] 2 (V.int (c + 1)))) p = some (.lst [.int g, .int m, .int (c + 1)]) := upd_same
      refine ⟨_, rfl, p, _, 1, .int m, rfl, rfl, SL h2, rfl, _, rfl, p, _, 2, .int (c + 1), rfl, rfl, SL h2, rfl, _, _, rfl, rfl, .inl ⟨by decide, by decide⟩, _, _, rfl, rfl, _, _, rfl, rfl, _, _, rfl, rfl, ⟨by decide, by decide, ?_⟩, .inl ⟨_, rfl, _, _, rfl, rfl, (show (0 : Int) < 2147483647 by decide), ?_⟩⟩
      · omega
      refine ⟨_, rfl, _, rfl, p, _, 2, .int (c + 1), rfl, rfl, SL h2, rfl, _, _, rfl, rfl, _, _, rfl, rfl, .inr ⟨by decide, by decide⟩, .inl ⟨_, rfl, _, _, rfl, rfl, (show (0 : Int) < 2147483629 by decide), _, rfl, _, _, rfl, rfl, hm0, ?_⟩⟩
      exact q _ _ (Int.emod_nonneg _ (by omega)) (Int.emod_lt_of_pos _ hm0) ⟨g, m, c + 1, upd_same, hg, hm, hm', by omega, by omega⟩
end
end My

namespace PySem
namespace MyX
open PySem.HandSPX Builtin Builtin.ObjectAttr
section
variable {M : Model} {A : Around} {E : Value → Shared → Prop} {h : Heap} {g : Array GenState} {d : Drawn} {t : Nat} {os : OsState}
variable {nm q : Str} {C N : Addr} {bs bm mb : List Value} {hdct : Bool} {sn : List Str} {sub : List Value} {ab : Bool} {col : Option Bool} {dd : Option Addr} {k0 k1 k2 k3 k5 : Option Value} {B idN idI : String}
theorem chk_new (F : ExcBaseFacts B idN idI mb) (hT : ∀ X : String, bm.contains (.type X) = mb.contains (.type X)) {rs : List Value} {kw : List (Str × Value)} {Q : Unit → Shared → Prop}
    (hC : h.get? C = some (excClassObj nm q C N bs bm hdct sn sub ab col dd k0 k1 k2 k3 k5 idN)) (hq : Q () ⟨h, g, d, t, os⟩) :
    wpAny M A (checkBuiltinCall idN ⟨.ref C :: rs, kw⟩) Q E ⟨h, g, d, t, os⟩ := by
  have c1 : (Value.ref C :: bm).contains (.type B) = true := by
    rw [List.contains_cons, hT, F.hasB, Bool.or_true]
  have c2 := F.noStar
  simp only [checkBuiltinCall, F.newKind, F.newSplit, F.newRow]
  repeat (first | refine wpAny_loadPart_at hC ?_ | (refine wpAny_isSubtype_exc hC ?_; rw [c1]) | refine wpAny_staticBase_exc hC ?_ | refine wpAny_madeBy_exc hC ?_ | simp only [bne_self_eq_false, Bool.false_eq_true, if_false] | wp_step)
  exact hq
end
section
variable {prog : Program} {w : World} {A : Around} {E : Value → Shared → Prop} {R : Result → Shared → Prop} {h : Heap} {g : Array GenState} {d : Drawn} {t : Nat} {os : OsState}
variable {nm q : Str} {C N : Addr} {bs bm mb : List Value} {hdct : Bool} {sn : List Str} {sub : List Value} {ab : Bool} {col : Option Bool} {dd : Option Addr} {k0 k1 k2 k3 k5 : Option Value} {B idN idI : String}
theorem new_kw (F : ExcBaseFacts B idN idI mb) (hT : ∀ X : String, bm.contains (.type X) = mb.contains (.type X)) {rs : List Value} {kw : List (Str × Value)}
    (hC : h.get? C = some (excClassObj nm q C N bs bm hdct sn sub ab col dd k0 k1 k2 k3 k5 idN))
    (hq : R (.ok (.ret (.ref (h.objs.size + 1)))) ⟨(h.push (W.kdv_tup rs)).push (excO C h.objs.size), g, d, t, os⟩) (hrs : rs.length ≤ sizeLine) :
    codeAny (model prog w) A (.builtin idN ⟨.ref C :: rs, kw⟩) R ⟨h, g, d, t, os⟩ := by
  have c0 := F.ends
  have c1 : (Value.ref C :: bm).contains (.type B) = true := by
    rw [List.contains_cons, hT, F.hasB, Bool.or_true]
  have c2 : (Value.ref C :: bm).contains (.type "AttributeError") = false := by
    rw [List.contains_cons, hT, F.noAttr]; rfl
  have c3 : (Value.ref C :: bm).contains (.type "NameError") = false := by
    rw [List.contains_cons, hT, F.noName]; rfl
  refine codeAny_builtinAt F.entry ?_
  unfold Builtin.«BaseException.__new__»
  refine wpAt_bind ?_
  show wpAt _ _ _ (stack >>= _) _ _ _
  refine wpAt_bind (wpAt_stack fun p below => wpAt_of_wpAny ?_)
  wp_walk
  refine wpAt_of_wpAny ?_
  rw [F.owner]
  repeat (first | with_reducible refine wpAny_madeHere_exc F.canon hC ?_ | with_reducible refine wpAny_loadPart_at hC ?_ | (with_reducible refine wpAny_isSubtype_exc hC ?_; first | rw [c1] | rw [c2] | rw [c3]) | wp_step)
  show R _ _
  rw [Heap.size_push]
  exact hq
theorem tcall_kw (F : ExcBaseFacts B idN idI mb) (hT : ∀ X : String, bm.contains (.type X) = mb.contains (.type X)) {rs : List Value} {kw : List (Str × Value)} {fI : Addr} {Q : Fin → Shared → Prop}
    (hC : h.get? C = some (excClassObj nm q C N bs bm hdct sn sub ab col dd k0 k1 k2 k3 k5 idN))
    (hi : W.Looks (model prog w) h (typeLookup (.ref C) "__init__") (some (.ref fI))) (hb : ∀ self, W.Looks (model prog w) h (bindSpecial (.ref fI) self) (.ref fI, [self])) (hrs : rs.length ≤ sizeLine)
    (hq : codeAny (model prog w) A (.call (.ref fI) ⟨.ref (h.objs.size + 1) :: rs, kw⟩)
      (fun r s' => match r with | .ok (.ret v) => v = .none ∧ Q (.done (.ret (.ref (h.objs.size + 1)))) s' | .ok _ => False | .error e => E e s')
      ⟨(h.push (W.kdv_tup rs)).push (excO C h.objs.size), g, d, t, os⟩) :
    wpAny (model prog w) A (Builtin.«type.__call__» ⟨.ref C :: rs, kw⟩) Q E ⟨h, g, d, t, os⟩ := by
  repeat (first | with_reducible refine wpAny_loadPart_at hC ?_ | with_reducible refine wpAny_madeBy_exc hC ?_ | wp_step)
  refine codeAny_call_builtin_code (Code.quiet_builtin _ F.quiet) (chk_new F hT hC ?_)
  refine new_kw F hT hC ?_ hrs
  show wpAny _ _ _ _ _ _
  have k : ∀ b o, h.get? b = some o → ((h.push (W.kdv_tup rs)).push (excO C h.objs.size)).get? b = some o := fun b o e => Heap.get?_push_of_some _ (Heap.get?_push_of_some _ e)
  have hC1 := k _ _ hC
  have hget : ((h.push (W.kdv_tup rs)).push (excO C h.objs.size)).get? (h.objs.size + 1) = some (excO C h.objs.size) := by heap_get
  have hcC : (Value.ref C :: bm).contains (.ref C) = true := by simp
  have i1 := hi.keeps k
  have b1 := (hb (.ref (h.objs.size + 1))).keeps k
  unfold isInstance
  repeat (first | with_reducible refine wpAny_loadPart_at hget ?_ | (with_reducible refine wpAny_isSubtype_exc hC1 ?_; rw [hcC]) | wp_step)
  show wpAny _ _ (typeLookup (.ref C) _) _ _ _
  refine i1.at ?_
  refine wpAny_holding (wpAny_bind (b1.at ?_))
  refine wpAny_bind (wpAny_call (codeAny_mono hq fun r s' z => ?_))
  rcases r with e | (v | _ | _ | _) <;> first | exact z | exact z.elim | skip
  obtain ⟨rfl, z⟩ := z
  first
    | exact wpAny_pure (wpAny_pure z)
    | (wp_walk; exact z)
theorem call_kw (F : ExcBaseFacts B idN idI mb) (hT : ∀ X : String, bm.contains (.type X) = mb.contains (.type X)) {rs : List Value} {kw : List (Str × Value)} {fI : Addr}
    (hC : h.get? C = some (excClassObj nm q C N bs bm hdct sn sub ab col dd k0 k1 k2 k3 k5 idN))
    (hi : W.Looks (model prog w) h (typeLookup (.ref C) "__init__") (some (.ref fI))) (hb : ∀ self, W.Looks (model prog w) h (bindSpecial (.ref fI) self) (.ref fI, [self])) (hrs : rs.length ≤ sizeLine)
    (hq : codeAny (model prog w) (A.under (.builtin "type.__call__" ⟨.ref C :: rs, kw⟩)) (.call (.ref fI) ⟨.ref (h.objs.size + 1) :: rs, kw⟩) (W.InitBack (h.objs.size + 1) R)
      ⟨(h.push (W.kdv_tup rs)).push (excO C h.objs.size), g, d, t, os⟩) :
    codeAny (model prog w) A (.call (.ref C) ⟨rs, kw⟩) R ⟨h, g, d, t, os⟩ := by
  have f1 := tc_lookup
  have f2 := tc_bind (.ref C)
  have hTy : (⟨h, g, d, t, os⟩ : Shared).TypeIs (.ref C) "type" := ⟨_, hC, rfl⟩
  refine codeAny_of_tree ?_
  show wpAny _ _ (callAny (.ref C) _) _ _ _
  repeat (any_goals (first | assumption | with_reducible refine wpAny_loadPart_at hC ?_ | wp_step))
  refine ⟨rfl, ?_⟩
  refine codeAny_call_builtin_at (Code.quiet_builtin _ (by decide +kernel)) entry_typeCall (wpAny_check_type_call_sub hC (tcall_kw F hT hC hi hb hrs ?_))
  refine codeAny_mono hq fun r s' z => ?_
  rcases r with e | (v | _ | _ | _) <;> exact z
end
end MyX
end PySem

namespace My
open PySem PySem.Spec PyProof.Rows L2
/-! ### own exceptions as values -/
/-- what isinstance asks of the class of an exception -/
structure KitC (K : PySem.W.Frag) (C : Addr) : Prop where
  cl : (PySem.W.clsIn K C).isSome = true
  at_ : PySem.W.findIn K (.ref C) "__class__" = some (some (.builtin "object.__class__"))
  sp : PySem.W.specialIn K (.builtin "object.__class__") "__get__" = some (some (.builtin "getset_descriptor.__get__"))
  tk : PySem.W.takesIn K (.builtin "object.__class__") = some true
  ob : PySem.W.mroIn K C (.type "object") = some true
/-- an exception of the class at C stands at a: its one field f holds v -/
def ErrAt (H : Hp) (a C : Addr) (f : Str) (v : V) : Prop := ∃ d, H a = some (exo a C (some d)) ∧ H d = some (exd d [(f, v)])
theorem ErrAt.ext {H H' : Hp} {a C : Addr} {f : Str} {v : V} (e : ErrAt H a C f v) (x : Ext H H') : ErrAt H' a C f v := by
  obtain ⟨d, h1, h2⟩ := e
  exact ⟨d, x _ _ h1, x _ _ h2⟩
section
variable {X : Cx} {CX : CXT} {k : Nat} {C fI : Addr} {fd : FuncData} {ps : List Str} {sp : Sp}
theorem run_err {pins : List (Addr × Obj)} {σ : L2.St} {H : Hp} {s : Shared} {Q : VK} {us uz : List Value} {kw : List (Str × Value)} {vs : List V} (T : OexC X.K C) (iC : PySem.W.findIn X.K (.ref C) "__init__" = some (some (.ref fI)))
    (tI : PySem.W.typeIn X.K (.ref fI) = some (.type "function")) (Fn : FnOk X.prog X.w X.K X.mg X.base CX k fI fd ps sp) (hr : Room (k + 1) X.A) (hx : Passes CX X E0)
    (hb : ∀ (s : Shared) (a : Addr), X.K.In s.heap → BindsTo s fd ⟨.ref a :: us, kw⟩ (ps.zip (.ref a :: uz))) (hl : us.length ≤ 1000) (I : Inv X pins σ H s) (r : Vals vs uz)
    (h : ∀ a, H a = none → sp (.ref a :: vs) (upd H a (exo a C none)) (fun v H2 => v = .non ∧ Q (.ref a) H2) E0) :
    wpAny (model X.prog X.w) X.A (call (.ref C) us kw) (EP X pins σ Q) X.xe s := by
  obtain ⟨nm, q, N, bs, bm, sn, sub, ab, col, dd, k0, k1, k2, k3, k5, hC, hbm⟩ := T.cls
  obtain ⟨hp, g, dr, tk, os⟩ := s
  have hz : hp.objs.size ≤ hp.objs.size + 1 := Nat.le_succ _
  have hn : H (hp.objs.size + 1) = none := I.hok.fresh hz
  have hq := h (hp.objs.size + 1) hn
  have kk : ∀ b o, hp.get? b = some o → ((hp.push (PySem.W.kdv_tup us)).push (PySem.HandSPX.excO C hp.objs.size)).get? b = some o := fun b o e =>
    Heap.get?_push_of_some _ (Heap.get?_push_of_some _ e)
  have hg : ((hp.push (PySem.W.kdv_tup us)).push (PySem.HandSPX.excO C hp.objs.size)).get? (hp.objs.size + 1) = some (PySem.HandSPX.excO C hp.objs.size) := by
    heap_get
  have I2 : Inv X pins σ (upd H (hp.objs.size + 1) (exo (hp.objs.size + 1) C none)) ⟨(hp.push (PySem.W.kdv_tup us)).push (PySem.HandSPX.excO C hp.objs.size), g, dr, tk, os⟩ :=
    I.laid (t' := tk) (a := hp.objs.size + 1) (o := exo (hp.objs.size + 1) C none) (h' := (hp.push (PySem.W.kdv_tup us)).push (PySem.HandSPX.excO C hp.objs.size)) kk hz (exo_ok hg)
  have r2 : Vals (V.ref (hp.objs.size + 1) :: vs) (Value.ref (hp.objs.size + 1) :: uz) := .cons rfl r
  have hus : us.length ≤ sizeLine := by
    rw [sizeLine_eq]
    omega
  refine wpAny_call (PySem.MyX.call_kw PySem.F.excBase_ValueError (fun Y => PySem.HandSPX.refsVE_contains Y bm hbm) (I.kIn _ _ hC) (PySem.W.looks_findIn I.kIn iC) (fun self => PySem.W.bind_fn I.kIn self tI) hus
    (codeAny_mono (Fn.run _ X.stack _ _ ⟨Value.ref (hp.objs.size + 1) :: us, kw⟩ (Value.ref (hp.objs.size + 1) :: uz) _ _ E0 (hr.make C us kw) (I2.env0.make C us kw) (hb _ _ I2.kIn) r2 hq) fun r s' hq' => ?_))
  cases r with
  | error er => exact hx pins σ _ _ er s' I2 hq'
  | ok fl =>
    cases fl with
    | ret u =>
      obtain ⟨v, H', I3, rv, ev, q3⟩ := I2.after hq'
      subst ev
      exact ⟨rv, ⟨V.ref (hp.objs.size + 1), H', I3, rfl, q3⟩⟩
    | next => exact False.elim hq'
    | brk => exact False.elim hq'
    | cont => exact False.elim hq'
/-- C(e, ..) as a value -/
def tErr (C : Addr) (sp : Sp) (ta : TA) : TE := fun σ H Q => ta σ H fun vs H1 => vs.length ≤ 1000 ∧ ∀ a, H1 a = none → sp (.ref a :: vs) (upd H1 a (exo a C none)) (fun v H2 => v = .non ∧ Q (.ref a) H2) E0
theorem pe_err {x : Str} {e : Expr} {es : List Expr} {ta : TA} {p pos : Pos} (T : OexC X.K C) (iC : PySem.W.findIn X.K (.ref C) "__init__" = some (some (.ref fI)))
    (tI : PySem.W.typeIn X.K (.ref fI) = some (.type "function")) (Fn : FnOk X.prog X.w X.K X.mg X.base CX k fI fd ps sp) (hr : Room (k + 1) X.A) (hx : Passes CX X E0) (hb : Binds X.K fd ps [])
    (hg : Gl X x) (hm : X.mg x = some (.ref C)) (ha : PA X (e :: es) ta)
    (hdb : (x == ("__debug__" : Str)) = false := by decide) (he : starEach (e :: es) X.env = (false, eval e X.env) :: starEach es X.env := by rfl) (hpl : (backTo pos (starEach es X.env)).any (·.1) = false := by rfl) :
    PE X (.Call (.Name x p) (e :: es) [] pos) (tErr C sp ta) := by
  refine ⟨fun pins s σ H Q I h => ?_⟩
  refine wpAny_Call_Name_kw (ld_glob I hg hm ?_ hdb)
  refine PySem.W.callWith_K (h₀ := X.base) I.ok.mod.kin T.kC (thn (ha.run pos pins s σ H _ I h) fun us s1 ⟨vs, H1, I1, r1, hz, q1⟩ => ⟨I1.kIn, ?_⟩) he hpl
  have l0 : us.length ≤ 1000 := by
    rw [← Paired.length r1]
    exact hz
  have l1 : vs.length + 1 = ps.length := Fn.len _ _ _ _ (q1 (s1.heap.objs.size + 1) (I1.hok.fresh (Nat.le_succ _)))
  refine run_err T iC tI Fn hr hx (fun s a KX => ?_) l0 I1 r1 q1
  have z := hb s (Value.ref a :: us) KX (by rw [List.append_nil, List.length_cons, ← Paired.length r1]; exact l1)
  rw [List.append_nil] at z
  exact z
/-- C(f = e) as a value -/
theorem pe_errK {x kn : Str} {kws : List Keyword} {tk : TA} {p pos : Pos} (T : OexC X.K C) (iC : PySem.W.findIn X.K (.ref C) "__init__" = some (some (.ref fI)))
    (tI : PySem.W.typeIn X.K (.ref fI) = some (.type "function")) (Fn : FnOk X.prog X.w X.K X.mg X.base CX k fI fd ps sp) (hr : Room (k + 1) X.A) (hx : Passes CX X E0)
    (hb : ∀ (s : Shared) (u v : Value), X.K.In s.heap → BindsTo s fd ⟨[u], [(kn, v)]⟩ (ps.zip [u, v])) (hg : Gl X x) (hm : X.mg x = some (.ref C)) (hkw : PK X kws tk)
    (hall : (backToKw pos (keywordEach kws X.env)).all (·.1.isSome) = true := by rfl) (hks : (backToKw pos (keywordEach kws X.env)).filterMap (·.1) = [kn] := by rfl) (hdb : (x == ("__debug__" : Str)) = false := by decide)
    (hpl : ((backTo pos (starEach [] X.env)).any (·.1) || (backToKw pos (keywordEach kws X.env)).any (·.1.isNone)) = false := by rfl) :
    PE X (.Call (.Name x p) [] kws pos) (fun σ H Q => tk σ H fun vs H1 => ∃ v, vs = [v] ∧ tErr C sp (fun _ H Q => Q [v] H) σ H1 Q) := by
  refine ⟨fun pins s σ H Q I h => ?_⟩
  refine wpAny_Call_Name_kw (ld_glob I hg hm ?_ hdb)
  refine PySem.W.callWith_KW0 (h₀ := X.base) I.ok.mod.kin T.kC hall ?_ hpl
  refine thn (hkw.run pos pins s σ H _ I h) fun ws s2 ⟨zs, H2, I2, rz, v, ez, l2, q2⟩ => ⟨I2.kIn, ?_⟩
  rw [hks]
  subst ez
  cases rz with
  | cons rv rn =>
    cases rn
    exact run_err (us := []) T iC tI Fn hr hx (fun s a KX => hb s (.ref a) _ KX) (by decide) I2 (.cons rv .nil) q2
/-- e.f of such a value -/
def tErF (K : PySem.W.Frag) (f : Str) (te : TE) : TE := fun σ H Q => te σ H fun x H1 => ∃ a C v, x = .ref a ∧ ErrAt H1 a C f v ∧ XfC K C ∧ PySem.W.findIn K (.ref C) f = some none ∧ Q v H1
theorem pe_erF {e : Expr} {te : TE} {n : Str} {pos : Pos} (he : PE X e te) (hb : attributeBase e n X.env (eval e X.env) = eval e X.env := by rfl) : PE X (.Attribute e n pos) (tErF X.K n te) := by
  refine ⟨fun pins s σ H Q I h => ?_⟩
  refine attr_of hb (thn (he.run pins s σ H _ I h) fun u s1 hh => ?_)
  obtain ⟨x, H1, I1, rx, a, C, v, ex, ⟨d, ha, hd⟩, T, hno, q⟩ := hh
  subst ex
  obtain rfl : u = Value.ref a := rx
  obtain ⟨t1, ho⟩ := exo_at I1.hok ha
  obtain ⟨mA, hns, hr⟩ := exd_at I1.hok hd
  obtain ⟨od, hod, hl⟩ := lookIn_ns hns
  have l : List.lookup n [(n, v)] = some v := by
    simp [List.lookup]
  obtain ⟨u, hu, ru⟩ := RelO.some_of (v := v) (o := mA n) (by rw [← l]; exact hr n)
  have J : PySem.W.InstAt s1.heap a { cls := .ref C, dict := some d, data := .fields #[.ref t1, .none, .none, .none, .bool false, .none] } C (some od) := ⟨ho, rfl, rfl, hod⟩
  exact HandSPX.exc_get I1.kIn J T.ga T.gg T.exC (PySem.W.findObj_own T.hdC hno rfl (by rw [hl, hu])) (handed_of ru) ⟨v, H1, I1.tok _, ru, q⟩
/-- isinstance(e, D) of such a value, or of one without fields -/
def rIsX (K : PySem.W.Frag) : List V → Hp → VK → Prop := fun xs H Q => ∃ (a C : Addr) (c : V) (u : Value) (b : Bool), xs = [.ref a, c] ∧ ClsV c u ∧ ((∃ f v, ErrAt H a C f v) ∨ H a = some (ExO (.ref C) a)) ∧ XfC K C ∧ KitC K C ∧
  PySem.W.kitOne K (.ref C) u = some b ∧ Q (.bl b) H
theorem call_isX : CallR X (.builtin "isinstance") (rIsX X.K) := by
  intro pins s σ H xs us Q I r h
  obtain ⟨a, C, c, u, b, rfl, kc, ha, T, Z, e, q⟩ := h
  obtain ⟨u1, u2, rfl, r1, r2⟩ := vals2 r
  obtain rfl : u1 = Value.ref a := r1
  have e2 := kc.eq r2
  subst e2
  rcases ha with ⟨f, v, d, ha, hd⟩ | ha
  · obtain ⟨t1, ho⟩ := exo_at I.hok ha
    obtain ⟨mA, hns, hr⟩ := exd_at I.hok hd
    obtain ⟨od, hod, hl⟩ := lookIn_ns hns
    have J : PySem.W.InstAt s.heap a { cls := .ref C, dict := some d, data := .fields #[.ref t1, .none, .none, .none, .bool false, .none] } C (some od) := ⟨ho, rfl, rfl, hod⟩
    exact PySem.W.kia_one (PySem.W.kitx_exc Z.cl T.ga T.gg T.exC Z.at_ Z.sp Z.tk Z.ob) I.kIn J e (fun z => nomatch z) fun tk => ⟨.bl b, H, I.tok tk, rfl, q⟩
  · obtain ⟨⟨oe, vs, ho, hz, hdt, _⟩, _, _⟩ := I.hok a _ ha
    have J : PySem.W.InstAt s.heap a oe C none := ⟨ho, hz.1, by unfold PySem.W.notCls; rw [hdt] <;> rfl, by rw [hz.2]; exact True.intro⟩
    exact PySem.W.kia_one (PySem.W.kitx_exc Z.cl T.ga T.gg T.exC Z.at_ Z.sp Z.tk Z.ob) I.kIn J e (fun z => nomatch z) fun tk => ⟨.bl b, H, I.tok tk, rfl, q⟩
/-- C(), a class without fields -/
theorem pe_exc0 {bmB : List Value} {B newId initId : String} {x : Str} {p pos : Pos} (F : ExcBaseFacts B newId initId bmB) (q : PySem.W.excIn X.K C bmB newId = true) (gC : X.mg x = some (.ref C)) (kC : PySem.W.keepIn X.K (.ref C) = true) (hg : Gl X x)
    (hdb : (x == ("__debug__" : Str)) = false := by decide) :
    PE X (.Call (.Name x p) [] [] pos) (fun _ H Q => ∀ a, H a = none → Q (.ref a) (upd H a (ExO (.ref C) a))) := by
  refine ⟨fun pins s σ H Q I h => ?_⟩
  refine wpAny_Call_Name_kw (ld_glob I hg gC ?_ hdb)
  refine PySem.W.callWith_K0 I.kIn kC ?_
  obtain ⟨bm, N, nm, qn, bs, hdct, sn, sub, ab, col, dd, k0, k1, k2, k3, k5, mN, hC, hN, hni, T⟩ := exc_obj I.kIn q
  refine wpAny_call_exc_subT F T hC hN hni (fun h' a hm => ?_) (Nat.zero_le _)
  have hn : H a = none := I.hok.gone hm.new
  obtain ⟨t, ht, _, _⟩ := hm.there
  exact ⟨.ref a, upd H a (ExO (.ref C) a), I.laidN hm.keeps hm.new hn (exO_ok ht ⟨rfl, rfl⟩ rfl rfl rfl (show 4 < 6 by decide)), rfl, h a hn⟩
end
end My

namespace My
open PySem PySem.Spec PyProof.Rows L2
/-! ### a class of errors with one field -/
/-- what the written part says of the class at C, called x, with the field f; its __init__ stands at fI -/
structure ErrC (K : PySem.W.Frag) (mg : Str → Option Value) (x f : Str) (C fI : Addr) : Prop where
  gl : mg x = some (.ref C)
  oex : OexC K C
  xf : XfC K C
  kit : KitC K C
  iC : PySem.W.findIn K (.ref C) "__init__" = some (some (.ref fI))
  tI : PySem.W.typeIn K (.ref fI) = some (.type "function")
  no : PySem.W.findIn K (.ref C) f = some none
/-- __init__ of an error: the field is stored -/
def spInit (C : Addr) (f : Str) : Sp := fun vs H Q _ => ∃ (a : Addr) (v : V), vs = [.ref a, v] ∧ H a = some (exo a C none) ∧
  ∀ dx, H dx = none → dx ≠ a → Q .non (upd (upd H dx (exd dx [(f, v)])) a (exo a C (some dx)))
section
variable {P : Program} {w : World} {K : PySem.W.Frag} {mg : Str → Option Value} {base : Heap} {C fI : Addr} {fd : FuncData} {x f : Str}
theorem ok_init {st : Stmt} {qual : Str} (T : ErrC K mg x f C fI) (F : FunD K "__init__" qual (defArgs st) (defBody st) (defScope st) [] [] fI fd) (S : FnScope ["self", f] ["self", f] (defScope st))
    (hb : ∃ q1 q2 q3 q4, defBody st = [.Assign [.Attribute (.Name "self" q1) f q2] (.Name f q3) q4]) (d1 : (f == ("__debug__" : Str)) = false) (d2 : (f == ("__classdict__" : Str)) = false) :
    FnOk P w K mg base CX0 1 fI fd ["self", f] (spInit C f) := by
  obtain ⟨q1, q2, q3, q4, hb⟩ := hb
  refine F.ok S (fun vs H Q E h => ?_) (fun cdv A outer s H vs Q E hr h => ⟨_, PSs.nox (by
    rw [hb]
    exact pss_one (ps_ost (pe_var (i := 0) rfl (vis_par S List.mem_cons_self)) (pe_var (i := 1) rfl (vis_par S (List.mem_cons_of_mem _ List.mem_cons_self)) d1 d2))), ?_⟩)
  · obtain ⟨a, v, rfl, _⟩ := h
    rfl
  · obtain ⟨a, v, rfl, ha, q⟩ := h
    exact ⟨_, rfl, _, rfl, a, C, rfl, T.oex, T.no, .inl ⟨ha, fun dx n ne => q dx n ne⟩⟩
/-- all that a caller wants of such a class -/
def Er (P : Program) (w : World) (K : PySem.W.Frag) (mg : Str → Option Value) (base : Heap) (x f : Str) (C : Addr) : Prop := ∃ (fI : Addr) (fd : FuncData), ErrC K mg x f C fI ∧ FnOk P w K mg base CX0 1 fI fd ["self", f] (spInit C f) ∧
  Binds K fd ["self", f] [] ∧ ∀ (s : Shared) (u v : Value), K.In s.heap → BindsTo s fd ⟨[u], [(f, v)]⟩ ((["self", f] : List Str).zip [u, v])
/-- C(e), C(f = e) as values -/
def tEr (C : Addr) (f : Str) (te : TE) : TE := fun σ H Q => te σ H fun v H1 => ∀ a H', H1 a = none → Ext H1 H' → ErrAt H' a C f v → Q (.ref a) H'
theorem tEr_of {C : Addr} {f : Str} {v : V} {H : Hp} {Q : VK} (h : ∀ a H', H a = none → Ext H H' → ErrAt H' a C f v → Q (.ref a) H') {a : Addr} (ha : H a = none) :
    spInit C f [.ref a, v] (upd H a (exo a C none)) (fun z H2 => z = .non ∧ Q (.ref a) H2) E0 := by
  refine ⟨a, v, rfl, upd_same, fun dx n ne => ⟨rfl, ?_⟩⟩
  have hn : H dx = none := by
    rw [upd_ne ne] at n
    exact n
  refine h a _ ha (fun b o e => ?_) ⟨dx, upd_same, ?_⟩
  · rw [upd_ne (ne_of_none e ha), upd_ne (ne_of_none e hn), upd_ne (ne_of_none e ha)]
    exact e
  · rw [upd_ne ne, upd_same]
end
section
variable {X : Cx} {x f : Str} {C : Addr} {e : Expr} {te : TE} {p pos kpos : Pos}
theorem pe_er (E : Er X.prog X.w X.K X.mg X.base x f C) (hr : Room 2 X.A) (he : PE X e te) (hg : Gl X x := by rfl) (hdb : (x == ("__debug__" : Str)) = false := by decide)
    (h1 : starEach [e] X.env = (false, eval e X.env) :: starEach [] X.env := by rfl) (h2 : (backTo pos (starEach [] X.env)).any (·.1) = false := by rfl) :
    PE X (.Call (.Name x p) [e] [] pos) (tEr C f te) := by
  obtain ⟨fI, fd, T, F, b, _⟩ := E
  refine ⟨fun pins s σ H Q I h => ?_⟩
  refine wpAny_Call_Name_kw (ld_glob I hg T.gl ?_ hdb)
  refine PySem.W.callWith_K (h₀ := X.base) I.ok.mod.kin T.oex.kC ?_ h1 h2
  have ha : PA X [e] (tCons te tNil) := pa_cons he pa_nil h1
  refine thn (ha.run pos pins s σ H (fun vs H1 => match vs with | [v] => ∀ a H', H1 a = none → Ext H1 H' → ErrAt H' a C f v → Q (.ref a) H' | _ => False) I h) fun us s1 ⟨vs, H1, I1, r1, q1⟩ => ⟨I1.kIn, ?_⟩
  cases r1 with
  | nil => exact False.elim q1
  | cons rv rn =>
    cases rn with
    | cons _ _ => exact False.elim q1
    | nil =>
      refine run_err T.oex T.iC T.tI F hr pass0 (fun s a KX => b s [Value.ref a, _] KX rfl) (show 1 ≤ 1000 by decide) I1 (.cons rv .nil) fun a ha => tEr_of q1 ha
theorem pe_erK (E : Er X.prog X.w X.K X.mg X.base x f C) (hr : Room 2 X.A) (he : PE X e te) (hg : Gl X x := by rfl) (hdb : (x == ("__debug__" : Str)) = false := by decide)
    (hall : (backToKw pos (keywordEach [⟨some f, e, kpos⟩] X.env)).all (·.1.isSome) = true := by rfl) (hks : (backToKw pos (keywordEach [⟨some f, e, kpos⟩] X.env)).filterMap (·.1) = [f] := by rfl)
    (hpl : ((backTo pos (starEach [] X.env)).any (·.1) || (backToKw pos (keywordEach [⟨some f, e, kpos⟩] X.env)).any (·.1.isNone)) = false := by rfl) :
    PE X (.Call (.Name x p) [] [⟨some f, e, kpos⟩] pos) (tEr C f te) := by
  obtain ⟨fI, fd, T, F, _, b⟩ := E
  refine ⟨fun pins s σ H Q I h => ?_⟩
  refine wpAny_Call_Name_kw (ld_glob I hg T.gl ?_ hdb)
  refine PySem.W.callWith_KW0 (h₀ := X.base) I.ok.mod.kin T.oex.kC hall ?_ hpl
  have ha : PK X [⟨some f, e, kpos⟩] (tCons te tNil) := pk_cons he pk_nil
  refine thn (ha.run pos pins s σ H (fun vs H1 => match vs with | [v] => ∀ a H', H1 a = none → Ext H1 H' → ErrAt H' a C f v → Q (.ref a) H' | _ => False) I h) fun us s1 ⟨vs, H1, I1, r1, q1⟩ => ⟨I1.kIn, ?_⟩
  rw [hks]
  cases r1 with
  | nil => exact False.elim q1
  | cons rv rn =>
    cases rn with
    | cons _ _ => exact False.elim q1
    | nil => exact run_err (us := []) T.oex T.iC T.tI F hr pass0 (fun s a KX => b s _ _ KX) (by decide) I1 (.cons rv .nil) fun a ha => tEr_of q1 ha
end
/-! ### many errors at once -/
def AllErr (H : Hp) (v : V) : List Addr → List (Addr × Str) → Prop
  | [], [] => True
  | a :: as, c :: cs => ErrAt H a c.1 c.2 v ∧ AllErr H v as cs
  | _, _ => False
theorem AllErr.ext {H H' : Hp} {v : V} (x : Ext H H') : ∀ {as : List Addr} {cs : List (Addr × Str)}, AllErr H v as cs → AllErr H' v as cs
  | [], [], _ => True.intro
  | a :: as, c :: cs, h => ⟨h.1.ext x, AllErr.ext x h.2⟩
  | [], _ :: _, h => h.elim
  | _ :: _, [], h => h.elim
theorem AllErr.len {H : Hp} {v : V} : ∀ {as : List Addr} {cs : List (Addr × Str)}, AllErr H v as cs → as.length = cs.length
  | [], [], _ => rfl
  | a :: as, c :: cs, h => by rw [List.length_cons, List.length_cons, AllErr.len h.2]
  | [], _ :: _, h => h.elim
  | _ :: _, [], h => h.elim
theorem AllErr.app {H : Hp} {v : V} : ∀ {as bs : List Addr} {cs ds : List (Addr × Str)}, AllErr H v as cs → AllErr H v bs ds → AllErr H v (as ++ bs) (cs ++ ds)
  | [], _, [], _, _, k => k
  | a :: as, _, c :: cs, _, h, k => ⟨h.1, AllErr.app h.2 k⟩
  | [], _, _ :: _, _, h, _ => h.elim
  | _ :: _, _, [], _, h, _ => h.elim
theorem AllErr.at_ {H : Hp} {v : V} : ∀ {as : List Addr} {cs : List (Addr × Str)} {i : Nat} {c : Addr × Str}, AllErr H v as cs → cs[i]? = some c → ∃ a, as[i]? = some a ∧ ErrAt H a c.1 c.2 v
  | [], [], _, _, _, e => by simp at e
  | a :: as, c :: cs, 0, _, h, e => ⟨a, rfl, by cases e; exact h.1⟩
  | a :: as, c :: cs, i + 1, _, h, e => AllErr.at_ (i := i) h.2 e
  | [], _ :: _, _, _, h, _ => h.elim
  | _ :: _, [], _, _, h, _ => h.elim
def tErL : List (Addr × Str) → TE → TA
  | [], _ => tNil
  | c :: cs, te => tCons (tEr c.1 c.2 te) (tErL cs te)
theorem erL_run {i : Nat} {σ : L2.St} {v : V} (hi : σ[i]? = some (some v)) : ∀ (cs : List (Addr × Str)) (H : Hp) (Q : List V → Hp → Prop), (∀ as H', Ext H H' → AllErr H' v as cs → Q (as.map V.ref) H') → tErL cs (tVar i) σ H Q
  | [], H, Q, h => h [] H Ext.rfl' True.intro
  | c :: cs, H, Q, h => ⟨v, hi, fun a H1 _ x1 e1 => erL_run hi cs H1 _ fun as H2 x2 e2 => h (a :: as) H2 (x1.trans x2) ⟨e1.ext x2, e2⟩⟩
end My

namespace My
open PySem PySem.Spec PyProof.Rows L2 He
abbrev sAny : Stmt := top 33
abbrev sByPlace : Stmt := top 34
abbrev sByName : Stmt := top 35
abbrev sFields : Stmt := top 36
abbrev sKinds : Stmt := top 37
abbrev sIsOwn : Stmt := top 38
abbrev sSame : Stmt := top 39
abbrev sLaw : Stmt := top 40
/-- the classes with a field, in the order of the law's lists -/
def PL : List (Str × Str) := [("BadHouse", "index"), ("NoNode", "node"), ("NoFolder", "folder"), ("NoThing", "thing"), ("Ringed", "folders"), ("BadFact", "index"), ("BadIndex", "thing"), ("Unfit", "nodes"), ("BadPair", "index"), ("NoSuch", "number"), ("BadName", "name"), ("Taken", "name"), ("NoLink", "name"), ("BadVerbs", "verbs"), ("BadDay", "day"), ("BadAnswer", "answer"), ("Wider", "name"), ("NotLet", "name"), ("Quarrel", "nodes"), ("BadDeed", "deed"), ("BadWish", "index"), ("Held", "name"), ("NotHeld", "name"), ("BadText", "line")]
def cl (K : PySem.W.Frag) (l : List (Str × Str)) : List (Addr × Str) := l.map fun c => (ga K c.1, c.2)
abbrev P0 : List (Str × Str) := [("BadHouse", "index"), ("NoNode", "node"), ("NoFolder", "folder"), ("NoThing", "thing"), ("Ringed", "folders"), ("BadFact", "index"), ("BadIndex", "thing"), ("Unfit", "nodes")]
abbrev P1 : List (Str × Str) := [("BadPair", "index"), ("NoSuch", "number"), ("BadName", "name"), ("Taken", "name"), ("NoLink", "name"), ("BadVerbs", "verbs"), ("BadDay", "day")]
abbrev P2 : List (Str × Str) := [("BadAnswer", "answer"), ("Wider", "name"), ("NotLet", "name"), ("Quarrel", "nodes"), ("BadDeed", "deed"), ("BadWish", "index"), ("Held", "name")]
abbrev P3 : List (Str × Str) := [("NotHeld", "name"), ("BadText", "line")]
abbrev N0 : List (Str × Str) := [("BadHouse", "index"), ("NoNode", "node"), ("NoFolder", "folder"), ("NoThing", "thing"), ("Ringed", "folders")]
abbrev N1 : List (Str × Str) := [("BadFact", "index"), ("BadIndex", "thing"), ("Unfit", "nodes"), ("BadPair", "index"), ("NoSuch", "number")]
abbrev N2 : List (Str × Str) := [("BadName", "name"), ("Taken", "name"), ("NoLink", "name"), ("BadVerbs", "verbs"), ("BadDay", "day")]
abbrev N3 : List (Str × Str) := [("BadAnswer", "answer"), ("Wider", "name"), ("NotLet", "name"), ("Quarrel", "nodes"), ("BadDeed", "deed")]
abbrev N4 : List (Str × Str) := [("BadWish", "index"), ("Held", "name"), ("NotHeld", "name"), ("BadText", "line")]
/-- a list of 24 errors, each holding x -/
def spBy (K : PySem.W.Frag) : Sp := fun vs H Q _ => ∃ x : V, vs = [x] ∧ ∀ p as H', Ext H H' → H' p = some (.lst (as.map V.ref)) → AllErr H' x as (cl K PL) → Q (.ref p) H'
theorem seq_asg {te : TE} {g : TG} {u : TS} {D : Ends} {σ : L2.St} {H : Hp} (h : te σ H fun x H1 => g x σ H1 (u D)) : tSeq (tAsg te g) u D σ H := h
theorem op_var {r : R2} {i : Nat} {tb : TE} {σ : L2.St} {H : Hp} {Q : VK} {v : V} (hi : σ[i]? = some (some v)) (h : tb σ H fun y H2 => r v y H2 Q) : tOp r (tVar i) tb σ H Q := ⟨v, hi, h⟩
theorem lst_err {i : Nat} {σ : L2.St} {v : V} (hi : σ[i]? = some (some v)) (cs : List (Addr × Str)) (H : Hp) (Q : VK) (hl : cs.length ≤ 1000) (h : ∀ p as H', Ext H H' → H' p = some (.lst (as.map V.ref)) → AllErr H' v as cs → Q (.ref p) H') :
    tLst (tErL cs (tVar i)) σ H Q := by
  refine erL_run hi cs H _ fun as H1 x1 e1 => ?_
  refine ⟨by rw [List.length_map, e1.len]; exact Nat.le_trans hl (by decide), fun p hp => ?_⟩
  exact h p as _ (x1.trans (Ext.upd hp)) upd_same (e1.ext (Ext.upd hp))
theorem cat_err {H0 H1 : Hp} {v : V} {p r : Addr} {as bs : List Addr} {cs ds : List (Addr × Str)} {Q : VK} (g : AllErr H0 v as cs) (l : H0 p = some (.lst (as.map V.ref))) (x : Ext H0 H1) (k : H1 r = some (.lst (bs.map V.ref))) (e : AllErr H1 v bs ds)
    (hl : (cs ++ ds).length ≤ 1000) (h : ∀ q H', Ext H0 H' → H' q = some (.lst ((as ++ bs).map V.ref)) → AllErr H' v (as ++ bs) (cs ++ ds) → Q (.ref q) H') : rCat (.ref p) (.ref r) H1 Q := by
  refine ⟨p, r, _, _, rfl, rfl, x _ _ l, k, ?_, fun q hq => ?_⟩
  · rw [List.length_map, List.length_map, g.len, e.len, ← List.length_append]
    exact Nat.le_trans hl (by decide)
  · have y : Ext H1 (upd H1 q (.lst (as.map V.ref ++ bs.map V.ref))) := Ext.upd hq
    refine h q _ (x.trans y) ?_ (AllErr.app (g.ext (x.trans y)) (e.ext y))
    rw [List.map_append]
    exact upd_same
theorem szl {n : Nat} (h : n ≤ 1000) : n ≤ sizeLine := Nat.le_trans h (by decide)
section
variable {P : Program} {w : World} {K : PySem.W.Frag} {mg : Str → Option Value} {base : Heap} {f : Addr} {fd : FuncData}
theorem scBP : FnScope ["_law_x", "_law_found"] ["_law_x"] (defScope sByPlace) := ⟨rfl, rfl, rfl, by decide +kernel, rfl, by decide +kernel, by decide +kernel⟩
theorem scBN : FnScope ["_law_x", "_law_found"] ["_law_x"] (defScope sByName) := ⟨rfl, rfl, rfl, by decide +kernel, rfl, by decide +kernel, by decide +kernel⟩
theorem ok_by_place (F : FnP K "_law_by_place" sByPlace f fd) (EA : ∀ c ∈ PL, Er P w K mg base c.1 c.2 (ga K c.1)) : FnOk P w K mg base CX0 3 f fd ["_law_x"] (spBy K) := by
  refine F.ok scBP (fun vs H Q E h => ?_) (fun cdv A outer s H vs Q E hr h => ⟨_, PSs.nox (pss_cons (ps_set (i := 1) scBP.nd rfl (.inl rfl) (pe_lst (pa_cons (pe_er (EA ("BadHouse", "index") (List.mem_of_getElem? (i := 0) rfl)) hr (pv 0)) (pa_cons (pe_er (EA ("NoNode", "node") (List.mem_of_getElem? (i := 1) rfl)) hr (pv 0)) (pa_cons (pe_er (EA ("NoFolder", "folder") (List.mem_of_getElem? (i := 2) rfl)) hr (pv 0)) (pa_cons (pe_er (EA ("NoThing", "thing") (List.mem_of_getElem? (i := 3) rfl)) hr (pv 0)) (pa_cons (pe_er (EA ("Ringed", "folders") (List.mem_of_getElem? (i := 4) rfl)) hr (pv 0)) (pa_cons (pe_er (EA ("BadFact", "index") (List.mem_of_getElem? (i := 5) rfl)) hr (pv 0)) (pa_cons (pe_er (EA ("BadIndex", "thing") (List.mem_of_getElem? (i := 6) rfl)) hr (pv 0)) (pa_cons (pe_er (EA ("Unfit", "nodes") (List.mem_of_getElem? (i := 7) rfl)) hr (pv 0)) pa_nil))))))))))
    (pss_cons (ps_set (i := 1) scBP.nd rfl (.inl rfl) (pe_op op_cat (pv 1) (pe_lst (pa_cons (pe_er (EA ("BadPair", "index") (List.mem_of_getElem? (i := 8) rfl)) hr (pv 0)) (pa_cons (pe_er (EA ("NoSuch", "number") (List.mem_of_getElem? (i := 9) rfl)) hr (pv 0)) (pa_cons (pe_er (EA ("BadName", "name") (List.mem_of_getElem? (i := 10) rfl)) hr (pv 0)) (pa_cons (pe_er (EA ("Taken", "name") (List.mem_of_getElem? (i := 11) rfl)) hr (pv 0)) (pa_cons (pe_er (EA ("NoLink", "name") (List.mem_of_getElem? (i := 12) rfl)) hr (pv 0)) (pa_cons (pe_er (EA ("BadVerbs", "verbs") (List.mem_of_getElem? (i := 13) rfl)) hr (pv 0)) (pa_cons (pe_er (EA ("BadDay", "day") (List.mem_of_getElem? (i := 14) rfl)) hr (pv 0)) pa_nil))))))))))
    (pss_cons (ps_set (i := 1) scBP.nd rfl (.inl rfl) (pe_op op_cat (pv 1) (pe_lst (pa_cons (pe_er (EA ("BadAnswer", "answer") (List.mem_of_getElem? (i := 15) rfl)) hr (pv 0)) (pa_cons (pe_er (EA ("Wider", "name") (List.mem_of_getElem? (i := 16) rfl)) hr (pv 0)) (pa_cons (pe_er (EA ("NotLet", "name") (List.mem_of_getElem? (i := 17) rfl)) hr (pv 0)) (pa_cons (pe_er (EA ("Quarrel", "nodes") (List.mem_of_getElem? (i := 18) rfl)) hr (pv 0)) (pa_cons (pe_er (EA ("BadDeed", "deed") (List.mem_of_getElem? (i := 19) rfl)) hr (pv 0)) (pa_cons (pe_er (EA ("BadWish", "index") (List.mem_of_getElem? (i := 20) rfl)) hr (pv 0)) (pa_cons (pe_er (EA ("Held", "name") (List.mem_of_getElem? (i := 21) rfl)) hr (pv 0)) pa_nil))))))))))
    (pss_cons (ps_set (i := 1) scBP.nd rfl (.inl rfl) (pe_op op_cat (pv 1) (pe_lst (pa_cons (pe_er (EA ("NotHeld", "name") (List.mem_of_getElem? (i := 22) rfl)) hr (pv 0)) (pa_cons (pe_er (EA ("BadText", "line") (List.mem_of_getElem? (i := 23) rfl)) hr (pv 0)) pa_nil)))))
    (pss_one (ps_ret (pv 1))))))), ?_⟩)
  · obtain ⟨x, rfl, _⟩ := h
    rfl
  · obtain ⟨x, rfl, q⟩ := h
    refine seq_asg ?_
    refine lst_err (i := 0) (v := x) rfl (cl K P0) H _ (show 8 ≤ 1000 by decide) fun p0 as0 H0 y0 l0 g0 => ?_
    refine seq_asg (op_var rfl ?_)
    refine lst_err (i := 0) (v := x) rfl (cl K P1) H0 _ (show 7 ≤ 1000 by decide) fun r1 as1 I1 x1 k1 e1 => ?_
    refine cat_err g0 l0 x1 k1 e1 (show 15 ≤ 1000 by decide) fun p1 H1 z1 l1 g1 => ?_
    have y1 := y0.trans z1
    refine seq_asg (op_var rfl ?_)
    refine lst_err (i := 0) (v := x) rfl (cl K P2) H1 _ (show 7 ≤ 1000 by decide) fun r2 as2 I2 x2 k2 e2 => ?_
    refine cat_err g1 l1 x2 k2 e2 (show 22 ≤ 1000 by decide) fun p2 H2 z2 l2 g2 => ?_
    have y2 := y1.trans z2
    refine seq_asg (op_var rfl ?_)
    refine lst_err (i := 0) (v := x) rfl (cl K P3) H2 _ (show 2 ≤ 1000 by decide) fun r3 as3 I3 x3 k3 e3 => ?_
    refine cat_err g2 l2 x3 k3 e3 (show 24 ≤ 1000 by decide) fun p3 H3 z3 l3 g3 => ?_
    have y3 := y2.trans z3
    exact ⟨_, rfl, q p3 _ _ y3 l3 g3⟩
theorem ok_by_name (F : FnP K "_law_by_name" sByName f fd) (EA : ∀ c ∈ PL, Er P w K mg base c.1 c.2 (ga K c.1)) : FnOk P w K mg base CX0 3 f fd ["_law_x"] (spBy K) := by
  refine F.ok scBN (fun vs H Q E h => ?_) (fun cdv A outer s H vs Q E hr h => ⟨_, PSs.nox (pss_cons (ps_set (i := 1) scBN.nd rfl (.inl rfl) (pe_lst (pa_cons (pe_erK (EA ("BadHouse", "index") (List.mem_of_getElem? (i := 0) rfl)) hr (pv 0)) (pa_cons (pe_erK (EA ("NoNode", "node") (List.mem_of_getElem? (i := 1) rfl)) hr (pv 0)) (pa_cons (pe_erK (EA ("NoFolder", "folder") (List.mem_of_getElem? (i := 2) rfl)) hr (pv 0)) (pa_cons (pe_erK (EA ("NoThing", "thing") (List.mem_of_getElem? (i := 3) rfl)) hr (pv 0)) (pa_cons (pe_erK (EA ("Ringed", "folders") (List.mem_of_getElem? (i := 4) rfl)) hr (pv 0)) pa_nil)))))))
    (pss_cons (ps_set (i := 1) scBN.nd rfl (.inl rfl) (pe_op op_cat (pv 1) (pe_lst (pa_cons (pe_erK (EA ("BadFact", "index") (List.mem_of_getElem? (i := 5) rfl)) hr (pv 0)) (pa_cons (pe_erK (EA ("BadIndex", "thing") (List.mem_of_getElem? (i := 6) rfl)) hr (pv 0)) (pa_cons (pe_erK (EA ("Unfit", "nodes") (List.mem_of_getElem? (i := 7) rfl)) hr (pv 0)) (pa_cons (pe_erK (EA ("BadPair", "index") (List.mem_of_getElem? (i := 8) rfl)) hr (pv 0)) (pa_cons (pe_erK (EA ("NoSuch", "number") (List.mem_of_getElem? (i := 9) rfl)) hr (pv 0)) pa_nil))))))))
    (pss_cons (ps_set (i := 1) scBN.nd rfl (.inl rfl) (pe_op op_cat (pv 1) (pe_lst (pa_cons (pe_erK (EA ("BadName", "name") (List.mem_of_getElem? (i := 10) rfl)) hr (pv 0)) (pa_cons (pe_erK (EA ("Taken", "name") (List.mem_of_getElem? (i := 11) rfl)) hr (pv 0)) (pa_cons (pe_erK (EA ("NoLink", "name") (List.mem_of_getElem? (i := 12) rfl)) hr (pv 0)) (pa_cons (pe_erK (EA ("BadVerbs", "verbs") (List.mem_of_getElem? (i := 13) rfl)) hr (pv 0)) (pa_cons (pe_erK (EA ("BadDay", "day") (List.mem_of_getElem? (i := 14) rfl)) hr (pv 0)) pa_nil))))))))
    (pss_cons (ps_set (i := 1) scBN.nd rfl (.inl rfl) (pe_op op_cat (pv 1) (pe_lst (pa_cons (pe_erK (EA ("BadAnswer", "answer") (List.mem_of_getElem? (i := 15) rfl)) hr (pv 0)) (pa_cons (pe_erK (EA ("Wider", "name") (List.mem_of_getElem? (i := 16) rfl)) hr (pv 0)) (pa_cons (pe_erK (EA ("NotLet", "name") (List.mem_of_getElem? (i := 17) rfl)) hr (pv 0)) (pa_cons (pe_erK (EA ("Quarrel", "nodes") (List.mem_of_getElem? (i := 18) rfl)) hr (pv 0)) (pa_cons (pe_erK (EA ("BadDeed", "deed") (List.mem_of_getElem? (i := 19) rfl)) hr (pv 0)) pa_nil))))))))
    (pss_cons (ps_set (i := 1) scBN.nd rfl (.inl rfl) (pe_op op_cat (pv 1) (pe_lst (pa_cons (pe_erK (EA ("BadWish", "index") (List.mem_of_getElem? (i := 20) rfl)) hr (pv 0)) (pa_cons (pe_erK (EA ("Held", "name") (List.mem_of_getElem? (i := 21) rfl)) hr (pv 0)) (pa_cons (pe_erK (EA ("NotHeld", "name") (List.mem_of_getElem? (i := 22) rfl)) hr (pv 0)) (pa_cons (pe_erK (EA ("BadText", "line") (List.mem_of_getElem? (i := 23) rfl)) hr (pv 0)) pa_nil)))))))
    (pss_one (ps_ret (pv 1)))))))), ?_⟩)
  · obtain ⟨x, rfl, _⟩ := h
    rfl
  · obtain ⟨x, rfl, q⟩ := h
    refine seq_asg ?_
    refine lst_err (i := 0) (v := x) rfl (cl K N0) H _ (show 5 ≤ 1000 by decide) fun p0 as0 H0 y0 l0 g0 => ?_
    refine seq_asg (op_var rfl ?_)
    refine lst_err (i := 0) (v := x) rfl (cl K N1) H0 _ (show 5 ≤ 1000 by decide) fun r1 as1 I1 x1 k1 e1 => ?_
    refine cat_err g0 l0 x1 k1 e1 (show 10 ≤ 1000 by decide) fun p1 H1 z1 l1 g1 => ?_
    have y1 := y0.trans z1
    refine seq_asg (op_var rfl ?_)
    refine lst_err (i := 0) (v := x) rfl (cl K N2) H1 _ (show 5 ≤ 1000 by decide) fun r2 as2 I2 x2 k2 e2 => ?_
    refine cat_err g1 l1 x2 k2 e2 (show 15 ≤ 1000 by decide) fun p2 H2 z2 l2 g2 => ?_
    have y2 := y1.trans z2
    refine seq_asg (op_var rfl ?_)
    refine lst_err (i := 0) (v := x) rfl (cl K N3) H2 _ (show 5 ≤ 1000 by decide) fun r3 as3 I3 x3 k3 e3 => ?_
    refine cat_err g2 l2 x3 k3 e3 (show 20 ≤ 1000 by decide) fun p3 H3 z3 l3 g3 => ?_
    have y3 := y2.trans z3
    refine seq_asg (op_var rfl ?_)
    refine lst_err (i := 0) (v := x) rfl (cl K N4) H3 _ (show 4 ≤ 1000 by decide) fun r4 as4 I4 x4 k4 e4 => ?_
    refine cat_err g3 l3 x4 k4 e4 (show 24 ≤ 1000 by decide) fun p4 H4 z4 l4 g4 => ?_
    have y4 := y3.trans z4
    exact ⟨_, rfl, q p4 _ _ y4 l4 g4⟩
end
end My

namespace My
open PySem PySem.Spec PyProof.Rows L2 He
/-! ### lists put together -/
theorem cat_lst {H0 H1 : Hp} {p r : Addr} {xs ys : List V} {Q : VK} (l : H0 p = some (.lst xs)) (x : Ext H0 H1) (k : H1 r = some (.lst ys)) (hl : xs.length + ys.length ≤ 1000)
    (h : ∀ q H', Ext H0 H' → H' q = some (.lst (xs ++ ys)) → Q (.ref q) H') : rCat (.ref p) (.ref r) H1 Q :=
  ⟨p, r, xs, ys, rfl, rfl, x _ _ l, k, Nat.le_trans hl (by decide), fun q hq => h q _ (x.trans (Ext.upd hq)) upd_same⟩
/-! ### the fields of a list of errors -/
def tFe (K : PySem.W.Frag) (k : Nat) (f : Str) : TE := tErF K f (tOp (rIxL K) (tVar 0) (tC (.int (k : Int))))
def tFL (K : PySem.W.Frag) : List (Nat × Str) → TA
  | [] => tNil
  | c :: r => tCons (tFe K c.1 c.2) (tFL K r)
/-- what is asked of each class -/
def FieldOk (K : PySem.W.Frag) (c : Str × Str) : Prop := XfC K (ga K c.1) ∧ PySem.W.findIn K (.ref (ga K c.1)) c.2 = some none
theorem fL_run {K : PySem.W.Frag} {σ : L2.St} {p : Addr} {x : V} {as : List Addr} {H : Hp} (hσ : σ[0]? = some (some (.ref p))) (hp : H p = some (.lst (as.map V.ref))) (g : AllErr H x as (cl K PL)) (ok : ∀ c ∈ PL, FieldOk K c) :
    ∀ (ks : List (Nat × Str)) (Q : List V → Hp → Prop), (∀ k ∈ ks, (PL[k.1]?).map (·.2) = some k.2) → Q (List.replicate ks.length x) H → tFL K ks σ H Q
  | [], Q, _, q => q
  | k :: ks, Q, hk, q => by
    obtain ⟨n, hn⟩ : ∃ n, PL[k.1]? = some (n, k.2) := by
      obtain ⟨⟨n, f⟩, h1, h2⟩ := Option.map_eq_some_iff.mp (hk k List.mem_cons_self)
      obtain rfl : f = k.2 := h2
      exact ⟨n, h1⟩
    have hc : (cl K PL)[k.1]? = some (ga K n, k.2) := by
      unfold cl
      rw [List.getElem?_map, hn] <;> rfl
    obtain ⟨a, ha, e⟩ := g.at_ hc
    obtain ⟨o1, o2⟩ := ok _ (List.mem_of_getElem? hn)
    refine ⟨_, hσ, p, _, (k.1 : Int), .ref a, rfl, rfl, SqL.of hp, atI_nat (by rw [List.getElem?_map, ha] <;> rfl), a, _, x, rfl, e, o1, o2, ?_⟩
    exact fL_run hσ hp g ok ks _ (fun k h => hk k (List.mem_cons_of_mem _ h)) q
theorem lst_fL {K : PySem.W.Frag} {σ : L2.St} {p : Addr} {x : V} {as : List Addr} {H : Hp} (hσ : σ[0]? = some (some (.ref p))) (hp : H p = some (.lst (as.map V.ref))) (g : AllErr H x as (cl K PL)) (ok : ∀ c ∈ PL, FieldOk K c)
    (ks : List (Nat × Str)) (Q : VK) (hk : ∀ k ∈ ks, (PL[k.1]?).map (·.2) = some k.2) (hl : ks.length ≤ 1000) (h : ∀ q H', Ext H H' → H' q = some (.lst (List.replicate ks.length x)) → Q (.ref q) H') : tLst (tFL K ks) σ H Q :=
  fL_run hσ hp g ok ks _ hk ⟨by rw [List.length_replicate]; exact szl hl, fun q hq => h q _ (Ext.upd hq) upd_same⟩
/-! ### the classes of an error -/
def IsErr (H : Hp) (a C : Addr) : Prop := (∃ f v, ErrAt H a C f v) ∨ H a = some (ExO (.ref C) a)
theorem IsErr.ext {H H' : Hp} {a C : Addr} (h : IsErr H a C) (x : Ext H H') : IsErr H' a C := by
  rcases h with ⟨f, v, h⟩ | h
  · exact .inl ⟨f, v, h.ext x⟩
  · exact .inr (x _ _ h)
def KN : List Str := ["BadHouse", "NoNode", "NoFolder", "NoThing", "Ringed", "BadFact", "BadIndex", "UnlikeHouses", "Unfit", "BadPair", "NoSuch", "Misfit", "BadName", "Taken", "NoLink", "BadVerbs", "BadDay", "BadAnswer", "Wider", "NotLet", "Quarrel", "BadDeed", "BadWish", "Held", "NotHeld", "NoDeed", "BadText"]
/-- what is asked of an error's class -/
structure OwnC (K : PySem.W.Frag) (C : Addr) : Prop where
  xf : XfC K C
  kit : KitC K C
  each : ∀ n ∈ KN, PySem.W.kitOne K (.ref C) (.ref (ga K n)) = some (decide (C = ga K n))
  he : PySem.W.kitOne K (.ref C) (.ref (ga K "HouseError")) = some true
  ve : PySem.W.kitOne K (.ref C) (.type "ValueError") = some true
def tKe (K : PySem.W.Frag) (n : Str) : TE := tCB (rIsX K) (tCons (tVar 0) (tCons (tC (.ref (ga K n))) tNil))
def tKL (K : PySem.W.Frag) : List Str → TA
  | [] => tNil
  | n :: r => tCons (tKe K n) (tKL K r)
theorem kL_run {K : PySem.W.Frag} {σ : L2.St} {a C : Addr} {H : Hp} (hσ : σ[0]? = some (some (.ref a))) (g : IsErr H a C) (O : OwnC K C) :
    ∀ (ns : List Str) (Q : List V → Hp → Prop), (∀ n ∈ ns, n ∈ KN) → Q (ns.map fun n => V.bl (decide (C = ga K n))) H → tKL K ns σ H Q
  | [], Q, _, q => q
  | n :: ns, Q, hn, q =>
    ⟨_, hσ, a, C, .ref (ga K n), .ref (ga K n), decide (C = ga K n), rfl, ClsV.own _, g, O.xf, O.kit, O.each n (hn n List.mem_cons_self), kL_run hσ g O ns _ (fun m h => hn m (List.mem_cons_of_mem _ h)) q⟩
theorem lst_kL {K : PySem.W.Frag} {σ : L2.St} {a C : Addr} {H : Hp} (hσ : σ[0]? = some (some (.ref a))) (g : IsErr H a C) (O : OwnC K C) (ns : List Str) (Q : VK) (hn : ∀ n ∈ ns, n ∈ KN) (hl : ns.length ≤ 1000)
    (h : ∀ q H', Ext H H' → H' q = some (.lst (ns.map fun n => V.bl (decide (C = ga K n)))) → Q (.ref q) H') : tLst (tKL K ns) σ H Q :=
  kL_run hσ g O ns _ hn ⟨by rw [List.length_map]; exact szl hl, fun q hq => h q _ (Ext.upd hq) upd_same⟩
/-! ### promises -/
def spFields (K : PySem.W.Frag) : Sp := fun vs H Q _ => ∃ (p : Addr) (as : List Addr) (x : V), vs = [.ref p] ∧ H p = some (.lst (as.map V.ref)) ∧ AllErr H x as (cl K PL) ∧
  ∀ q H', Ext H H' → H' q = some (.lst (List.replicate 24 x)) → Q (.ref q) H'
def spKinds (K : PySem.W.Frag) : Sp := fun vs H Q _ => ∃ a C : Addr, vs = [.ref a] ∧ IsErr H a C ∧ OwnC K C ∧ ∀ q H', Ext H H' → H' q = some (.lst (KN.map fun n => V.bl (decide (C = ga K n)))) → Q (.ref q) H'
def spIsOwn (K : PySem.W.Frag) : Sp := fun vs H Q _ => ∃ (a : Addr) (j : Nat) (n : Str), vs = [.ref a, .int (j : Int)] ∧ KN[j]? = some n ∧ IsErr H a (ga K n) ∧ OwnC K (ga K n) ∧ ∀ H', Ext H H' → Q (.bl true) H'
section
variable {P : Program} {w : World} {K : PySem.W.Frag} {mg : Str → Option Value} {base : Heap} {f fK : Addr} {fd fdK : FuncData}
theorem scFi : FnScope ["_law_some", "_law_found"] ["_law_some"] (defScope sFields) := ⟨rfl, rfl, rfl, by decide +kernel, rfl, by decide +kernel, by decide +kernel⟩
theorem scKi : FnScope ["_law_e", "_law_found"] ["_law_e"] (defScope sKinds) := ⟨rfl, rfl, rfl, by decide +kernel, rfl, by decide +kernel, by decide +kernel⟩
theorem scIO : FnScope ["_law_e", "_law_at", "_law_k"] ["_law_e", "_law_at"] (defScope sIsOwn) := ⟨rfl, rfl, rfl, by decide +kernel, rfl, by decide +kernel, by decide +kernel⟩
theorem ok_fields (F : FnP K "_law_fields" sFields f fd) (ok : ∀ c ∈ PL, FieldOk K c) : FnOk P w K mg base CX0 1 f fd ["_law_some"] (spFields K) := by
  refine F.ok scFi (fun vs H Q E h => ?_) (fun cdv A outer s H vs Q E hr h => ⟨_, PSs.nox (pss_cons (ps_set (i := 1) scFi.nd rfl (.inl rfl) (pe_lst (pa_cons (pe_erF (pe_ix ix_list (pv 0) pe_int (fun _ _ => rfl))) (pa_cons (pe_erF (pe_ix ix_list (pv 0) pe_int (fun _ _ => rfl))) (pa_cons (pe_erF (pe_ix ix_list (pv 0) pe_int (fun _ _ => rfl))) (pa_cons (pe_erF (pe_ix ix_list (pv 0) pe_int (fun _ _ => rfl))) (pa_cons (pe_erF (pe_ix ix_list (pv 0) pe_int (fun _ _ => rfl))) (pa_cons (pe_erF (pe_ix ix_list (pv 0) pe_int (fun _ _ => rfl))) pa_nil))))))))
    (pss_cons (ps_set (i := 1) scFi.nd rfl (.inl rfl) (pe_op op_cat (pv 1) (pe_lst (pa_cons (pe_erF (pe_ix ix_list (pv 0) pe_int (fun _ _ => rfl))) (pa_cons (pe_erF (pe_ix ix_list (pv 0) pe_int (fun _ _ => rfl))) (pa_cons (pe_erF (pe_ix ix_list (pv 0) pe_int (fun _ _ => rfl))) (pa_cons (pe_erF (pe_ix ix_list (pv 0) pe_int (fun _ _ => rfl))) (pa_cons (pe_erF (pe_ix ix_list (pv 0) pe_int (fun _ _ => rfl))) (pa_cons (pe_erF (pe_ix ix_list (pv 0) pe_int (fun _ _ => rfl))) pa_nil)))))))))
    (pss_cons (ps_set (i := 1) scFi.nd rfl (.inl rfl) (pe_op op_cat (pv 1) (pe_lst (pa_cons (pe_erF (pe_ix ix_list (pv 0) pe_int (fun _ _ => rfl))) (pa_cons (pe_erF (pe_ix ix_list (pv 0) pe_int (fun _ _ => rfl))) (pa_cons (pe_erF (pe_ix ix_list (pv 0) pe_int (fun _ _ => rfl))) (pa_cons (pe_erF (pe_ix ix_list (pv 0) pe_int (fun _ _ => rfl))) (pa_cons (pe_erF (pe_ix ix_list (pv 0) pe_int (fun _ _ => rfl))) pa_nil))))))))
    (pss_cons (ps_set (i := 1) scFi.nd rfl (.inl rfl) (pe_op op_cat (pv 1) (pe_lst (pa_cons (pe_erF (pe_ix ix_list (pv 0) pe_int (fun _ _ => rfl))) (pa_cons (pe_erF (pe_ix ix_list (pv 0) pe_int (fun _ _ => rfl))) (pa_cons (pe_erF (pe_ix ix_list (pv 0) pe_int (fun _ _ => rfl))) (pa_cons (pe_erF (pe_ix ix_list (pv 0) pe_int (fun _ _ => rfl))) (pa_cons (pe_erF (pe_ix ix_list (pv 0) pe_int (fun _ _ => rfl))) pa_nil))))))))
    (pss_cons (ps_set (i := 1) scFi.nd rfl (.inl rfl) (pe_op op_cat (pv 1) (pe_lst (pa_cons (pe_erF (pe_ix ix_list (pv 0) pe_int (fun _ _ => rfl))) (pa_cons (pe_erF (pe_ix ix_list (pv 0) pe_int (fun _ _ => rfl))) pa_nil)))))
    (pss_one (ps_ret (pv 1)))))))), ?_⟩)
  · obtain ⟨p, as, x, rfl, _⟩ := h
    rfl
  · obtain ⟨p, as, x, rfl, hp, g, q⟩ := h
    refine seq_asg ?_
    refine lst_fL (x := x) rfl ((Ext.rfl') _ _ hp) (g.ext Ext.rfl') ok [(0, "index"), (1, "node"), (2, "folder"), (3, "thing"), (4, "folders"), (5, "index")] _ (by decide) (by decide) fun p0 H0 y0 l0 => ?_
    refine seq_asg (op_var rfl ?_)
    refine lst_fL (x := x) rfl (y0 _ _ hp) (g.ext y0) ok [(6, "thing"), (7, "nodes"), (8, "index"), (9, "number"), (10, "name"), (11, "name")] _ (by decide) (by decide) fun r1 I1 x1 k1 => ?_
    refine cat_lst l0 x1 k1 (Nat.le_of_ble_eq_true rfl) fun p1 H1 z1 l1 => ?_
    have y1 := y0.trans z1
    refine seq_asg (op_var rfl ?_)
    refine lst_fL (x := x) rfl (y1 _ _ hp) (g.ext y1) ok [(12, "name"), (13, "verbs"), (14, "day"), (15, "answer"), (16, "name")] _ (by decide) (by decide) fun r2 I2 x2 k2 => ?_
    refine cat_lst l1 x2 k2 (Nat.le_of_ble_eq_true rfl) fun p2 H2 z2 l2 => ?_
    have y2 := y1.trans z2
    refine seq_asg (op_var rfl ?_)
    refine lst_fL (x := x) rfl (y2 _ _ hp) (g.ext y2) ok [(17, "name"), (18, "nodes"), (19, "deed"), (20, "index"), (21, "name")] _ (by decide) (by decide) fun r3 I3 x3 k3 => ?_
    refine cat_lst l2 x3 k3 (Nat.le_of_ble_eq_true rfl) fun p3 H3 z3 l3 => ?_
    have y3 := y2.trans z3
    refine seq_asg (op_var rfl ?_)
    refine lst_fL (x := x) rfl (y3 _ _ hp) (g.ext y3) ok [(22, "name"), (23, "line")] _ (by decide) (by decide) fun r4 I4 x4 k4 => ?_
    refine cat_lst l3 x4 k4 (Nat.le_of_ble_eq_true rfl) fun p4 H4 z4 l4 => ?_
    have y4 := y3.trans z4
    exact ⟨_, rfl, q p4 _ y4 l4⟩
theorem ok_kinds (F : FnP K "_law_kinds" sKinds f fd) (gI : mg "isinstance" = none) (gl : ∀ n ∈ KN, mg n = some (.ref (ga K n))) : FnOk P w K mg base CX0 1 f fd ["_law_e"] (spKinds K) := by
  refine F.ok scKi (fun vs H Q E h => ?_) (fun cdv A outer s H vs Q E hr h => ⟨_, PSs.nox (pss_cons (ps_set (i := 1) scKi.nd rfl (.inl rfl) (pe_lst (pa_cons (pe_callB call_isX (by rfl) gI boot_isinstance (pa_cons (pv 0) (pa_cons (pe_glob (v := .ref (ga K "BadHouse")) (by rfl) (gl "BadHouse" (List.mem_of_getElem? (i := 0) rfl)) rfl) pa_nil))) (pa_cons (pe_callB call_isX (by rfl) gI boot_isinstance (pa_cons (pv 0) (pa_cons (pe_glob (v := .ref (ga K "NoNode")) (by rfl) (gl "NoNode" (List.mem_of_getElem? (i := 1) rfl)) rfl) pa_nil))) (pa_cons (pe_callB call_isX (by rfl) gI boot_isinstance (pa_cons (pv 0) (pa_cons (pe_glob (v := .ref (ga K "NoFolder")) (by rfl) (gl "NoFolder" (List.mem_of_getElem? (i := 2) rfl)) rfl) pa_nil))) (pa_cons (pe_callB call_isX (by rfl) gI boot_isinstance (pa_cons (pv 0) (pa_cons (pe_glob (v := .ref (ga K "NoThing")) (by rfl) (gl "NoThing" (List.mem_of_getElem? (i := 3) rfl)) rfl) pa_nil))) pa_nil))))))
    (pss_cons (ps_set (i := 1) scKi.nd rfl (.inl rfl) (pe_op op_cat (pv 1) (pe_lst (pa_cons (pe_callB call_isX (by rfl) gI boot_isinstance (pa_cons (pv 0) (pa_cons (pe_glob (v := .ref (ga K "Ringed")) (by rfl) (gl "Ringed" (List.mem_of_getElem? (i := 4) rfl)) rfl) pa_nil))) (pa_cons (pe_callB call_isX (by rfl) gI boot_isinstance (pa_cons (pv 0) (pa_cons (pe_glob (v := .ref (ga K "BadFact")) (by rfl) (gl "BadFact" (List.mem_of_getElem? (i := 5) rfl)) rfl) pa_nil))) (pa_cons (pe_callB call_isX (by rfl) gI boot_isinstance (pa_cons (pv 0) (pa_cons (pe_glob (v := .ref (ga K "BadIndex")) (by rfl) (gl "BadIndex" (List.mem_of_getElem? (i := 6) rfl)) rfl) pa_nil))) pa_nil))))))
    (pss_cons (ps_set (i := 1) scKi.nd rfl (.inl rfl) (pe_op op_cat (pv 1) (pe_lst (pa_cons (pe_callB call_isX (by rfl) gI boot_isinstance (pa_cons (pv 0) (pa_cons (pe_glob (v := .ref (ga K "UnlikeHouses")) (by rfl) (gl "UnlikeHouses" (List.mem_of_getElem? (i := 7) rfl)) rfl) pa_nil))) (pa_cons (pe_callB call_isX (by rfl) gI boot_isinstance (pa_cons (pv 0) (pa_cons (pe_glob (v := .ref (ga K "Unfit")) (by rfl) (gl "Unfit" (List.mem_of_getElem? (i := 8) rfl)) rfl) pa_nil))) (pa_cons (pe_callB call_isX (by rfl) gI boot_isinstance (pa_cons (pv 0) (pa_cons (pe_glob (v := .ref (ga K "BadPair")) (by rfl) (gl "BadPair" (List.mem_of_getElem? (i := 9) rfl)) rfl) pa_nil))) pa_nil))))))
    (pss_cons (ps_set (i := 1) scKi.nd rfl (.inl rfl) (pe_op op_cat (pv 1) (pe_lst (pa_cons (pe_callB call_isX (by rfl) gI boot_isinstance (pa_cons (pv 0) (pa_cons (pe_glob (v := .ref (ga K "NoSuch")) (by rfl) (gl "NoSuch" (List.mem_of_getElem? (i := 10) rfl)) rfl) pa_nil))) (pa_cons (pe_callB call_isX (by rfl) gI boot_isinstance (pa_cons (pv 0) (pa_cons (pe_glob (v := .ref (ga K "Misfit")) (by rfl) (gl "Misfit" (List.mem_of_getElem? (i := 11) rfl)) rfl) pa_nil))) (pa_cons (pe_callB call_isX (by rfl) gI boot_isinstance (pa_cons (pv 0) (pa_cons (pe_glob (v := .ref (ga K "BadName")) (by rfl) (gl "BadName" (List.mem_of_getElem? (i := 12) rfl)) rfl) pa_nil))) pa_nil))))))
    (pss_cons (ps_set (i := 1) scKi.nd rfl (.inl rfl) (pe_op op_cat (pv 1) (pe_lst (pa_cons (pe_callB call_isX (by rfl) gI boot_isinstance (pa_cons (pv 0) (pa_cons (pe_glob (v := .ref (ga K "Taken")) (by rfl) (gl "Taken" (List.mem_of_getElem? (i := 13) rfl)) rfl) pa_nil))) (pa_cons (pe_callB call_isX (by rfl) gI boot_isinstance (pa_cons (pv 0) (pa_cons (pe_glob (v := .ref (ga K "NoLink")) (by rfl) (gl "NoLink" (List.mem_of_getElem? (i := 14) rfl)) rfl) pa_nil))) (pa_cons (pe_callB call_isX (by rfl) gI boot_isinstance (pa_cons (pv 0) (pa_cons (pe_glob (v := .ref (ga K "BadVerbs")) (by rfl) (gl "BadVerbs" (List.mem_of_getElem? (i := 15) rfl)) rfl) pa_nil))) pa_nil))))))
    (pss_cons (ps_set (i := 1) scKi.nd rfl (.inl rfl) (pe_op op_cat (pv 1) (pe_lst (pa_cons (pe_callB call_isX (by rfl) gI boot_isinstance (pa_cons (pv 0) (pa_cons (pe_glob (v := .ref (ga K "BadDay")) (by rfl) (gl "BadDay" (List.mem_of_getElem? (i := 16) rfl)) rfl) pa_nil))) (pa_cons (pe_callB call_isX (by rfl) gI boot_isinstance (pa_cons (pv 0) (pa_cons (pe_glob (v := .ref (ga K "BadAnswer")) (by rfl) (gl "BadAnswer" (List.mem_of_getElem? (i := 17) rfl)) rfl) pa_nil))) (pa_cons (pe_callB call_isX (by rfl) gI boot_isinstance (pa_cons (pv 0) (pa_cons (pe_glob (v := .ref (ga K "Wider")) (by rfl) (gl "Wider" (List.mem_of_getElem? (i := 18) rfl)) rfl) pa_nil))) pa_nil))))))
    (pss_cons (ps_set (i := 1) scKi.nd rfl (.inl rfl) (pe_op op_cat (pv 1) (pe_lst (pa_cons (pe_callB call_isX (by rfl) gI boot_isinstance (pa_cons (pv 0) (pa_cons (pe_glob (v := .ref (ga K "NotLet")) (by rfl) (gl "NotLet" (List.mem_of_getElem? (i := 19) rfl)) rfl) pa_nil))) (pa_cons (pe_callB call_isX (by rfl) gI boot_isinstance (pa_cons (pv 0) (pa_cons (pe_glob (v := .ref (ga K "Quarrel")) (by rfl) (gl "Quarrel" (List.mem_of_getElem? (i := 20) rfl)) rfl) pa_nil))) (pa_cons (pe_callB call_isX (by rfl) gI boot_isinstance (pa_cons (pv 0) (pa_cons (pe_glob (v := .ref (ga K "BadDeed")) (by rfl) (gl "BadDeed" (List.mem_of_getElem? (i := 21) rfl)) rfl) pa_nil))) pa_nil))))))
    (pss_cons (ps_set (i := 1) scKi.nd rfl (.inl rfl) (pe_op op_cat (pv 1) (pe_lst (pa_cons (pe_callB call_isX (by rfl) gI boot_isinstance (pa_cons (pv 0) (pa_cons (pe_glob (v := .ref (ga K "BadWish")) (by rfl) (gl "BadWish" (List.mem_of_getElem? (i := 22) rfl)) rfl) pa_nil))) (pa_cons (pe_callB call_isX (by rfl) gI boot_isinstance (pa_cons (pv 0) (pa_cons (pe_glob (v := .ref (ga K "Held")) (by rfl) (gl "Held" (List.mem_of_getElem? (i := 23) rfl)) rfl) pa_nil))) (pa_cons (pe_callB call_isX (by rfl) gI boot_isinstance (pa_cons (pv 0) (pa_cons (pe_glob (v := .ref (ga K "NotHeld")) (by rfl) (gl "NotHeld" (List.mem_of_getElem? (i := 24) rfl)) rfl) pa_nil))) pa_nil))))))
    (pss_cons (ps_set (i := 1) scKi.nd rfl (.inl rfl) (pe_op op_cat (pv 1) (pe_lst (pa_cons (pe_callB call_isX (by rfl) gI boot_isinstance (pa_cons (pv 0) (pa_cons (pe_glob (v := .ref (ga K "NoDeed")) (by rfl) (gl "NoDeed" (List.mem_of_getElem? (i := 25) rfl)) rfl) pa_nil))) (pa_cons (pe_callB call_isX (by rfl) gI boot_isinstance (pa_cons (pv 0) (pa_cons (pe_glob (v := .ref (ga K "BadText")) (by rfl) (gl "BadText" (List.mem_of_getElem? (i := 26) rfl)) rfl) pa_nil))) pa_nil)))))
    (pss_one (ps_ret (pv 1)))))))))))), ?_⟩)
  · obtain ⟨a, C, rfl, _⟩ := h
    rfl
  · obtain ⟨a, C, rfl, g, O, q⟩ := h
    refine seq_asg ?_
    refine lst_kL (C := C) rfl (g.ext Ext.rfl') O ["BadHouse", "NoNode", "NoFolder", "NoThing"] _ (by decide) (by decide) fun p0 H0 y0 l0 => ?_
    refine seq_asg (op_var rfl ?_)
    refine lst_kL (C := C) rfl (g.ext y0) O ["Ringed", "BadFact", "BadIndex"] _ (by decide) (by decide) fun r1 I1 x1 k1 => ?_
    refine cat_lst l0 x1 k1 (Nat.le_of_ble_eq_true rfl) fun p1 H1 z1 l1 => ?_
    have y1 := y0.trans z1
    refine seq_asg (op_var rfl ?_)
    refine lst_kL (C := C) rfl (g.ext y1) O ["UnlikeHouses", "Unfit", "BadPair"] _ (by decide) (by decide) fun r2 I2 x2 k2 => ?_
    refine cat_lst l1 x2 k2 (Nat.le_of_ble_eq_true rfl) fun p2 H2 z2 l2 => ?_
    have y2 := y1.trans z2
    refine seq_asg (op_var rfl ?_)
    refine lst_kL (C := C) rfl (g.ext y2) O ["NoSuch", "Misfit", "BadName"] _ (by decide) (by decide) fun r3 I3 x3 k3 => ?_
    refine cat_lst l2 x3 k3 (Nat.le_of_ble_eq_true rfl) fun p3 H3 z3 l3 => ?_
    have y3 := y2.trans z3
    refine seq_asg (op_var rfl ?_)
    refine lst_kL (C := C) rfl (g.ext y3) O ["Taken", "NoLink", "BadVerbs"] _ (by decide) (by decide) fun r4 I4 x4 k4 => ?_
    refine cat_lst l3 x4 k4 (Nat.le_of_ble_eq_true rfl) fun p4 H4 z4 l4 => ?_
    have y4 := y3.trans z4
    refine seq_asg (op_var rfl ?_)
    refine lst_kL (C := C) rfl (g.ext y4) O ["BadDay", "BadAnswer", "Wider"] _ (by decide) (by decide) fun r5 I5 x5 k5 => ?_
    refine cat_lst l4 x5 k5 (Nat.le_of_ble_eq_true rfl) fun p5 H5 z5 l5 => ?_
    have y5 := y4.trans z5
    refine seq_asg (op_var rfl ?_)
    refine lst_kL (C := C) rfl (g.ext y5) O ["NotLet", "Quarrel", "BadDeed"] _ (by decide) (by decide) fun r6 I6 x6 k6 => ?_
    refine cat_lst l5 x6 k6 (Nat.le_of_ble_eq_true rfl) fun p6 H6 z6 l6 => ?_
    have y6 := y5.trans z6
    refine seq_asg (op_var rfl ?_)
    refine lst_kL (C := C) rfl (g.ext y6) O ["BadWish", "Held", "NotHeld"] _ (by decide) (by decide) fun r7 I7 x7 k7 => ?_
    refine cat_lst l6 x7 k7 (Nat.le_of_ble_eq_true rfl) fun p7 H7 z7 l7 => ?_
    have y7 := y6.trans z7
    refine seq_asg (op_var rfl ?_)
    refine lst_kL (C := C) rfl (g.ext y7) O ["NoDeed", "BadText"] _ (by decide) (by decide) fun r8 I8 x8 k8 => ?_
    refine cat_lst l7 x8 k8 (Nat.le_of_ble_eq_true rfl) fun p8 H8 z8 l8 => ?_
    have y8 := y7.trans z8
    exact ⟨_, rfl, q p8 _ y8 l8⟩
end
end My

namespace My
open PySem PySem.Spec PyProof.Rows L2 He
/-! ### lists of truths as data -/
theorem dpAll_bl {K : PySem.W.Frag} {H : Hp} : ∀ bs : List Bool, DpAll K H (bs.map V.bl) (bs.map PyData.bool)
  | [] => .nil
  | b :: bs => .cons (.bl b) (dpAll_bl bs)
theorem canLay_bl : ∀ bs : List Bool, PyData.canLayAll0 (bs.map PyData.bool) = true
  | [] => rfl
  | b :: bs => by
    show (PyData.canLay0 (.bool b) && PyData.canLayAll0 (bs.map PyData.bool)) = true
    rw [canLay_bl bs]
    rfl
theorem depths_bl : ∀ bs : List Bool, PyData.depthAll (bs.map PyData.bool) ≤ 1
  | [] => Nat.zero_le _
  | b :: bs => by
    have h := depths_bl bs
    show max (PyData.depth (.bool b)) (PyData.depthAll (bs.map PyData.bool)) ≤ 1
    exact Nat.max_le.mpr ⟨by decide +revert, h⟩
theorem shaped_bl (bs : List Bool) : SeqAt.shaped (.list (bs.map PyData.bool)) = true := by
  refine Bool.and_eq_true_iff.mpr ⟨canLay_bl bs, decide_eq_true ?_⟩
  have h := depths_bl bs
  show PyData.depthAll (bs.map PyData.bool) + 1 ≤ 64
  omega
theorem lcYes {σ : L2.St} {H : Hp} {A B : Hp → Prop} (h : A H) : tYes σ H (fun b H3 => if b = true then A H3 else B H3) := by
  show if true = true then A H else B H
  rw [if_pos rfl]
  exact h
section
variable {P : Program} {w : World} {K : PySem.W.Frag} {mg : Str → Option Value} {base : Heap} {f fK : Addr} {fd fdK : FuncData}
/-- two places of a list without doubles -/
theorem nodup_dec {α : Type} [DecidableEq α] {l : List α} (hN : l.Nodup) {j : Nat} {x : α} (hj : l[j]? = some x) : (l.map fun y => decide (x = y)) = (List.range l.length).map fun k => decide (k = j) := by
  refine List.ext_getElem? fun i => ?_
  rw [List.getElem?_map, List.getElem?_map]
  by_cases hi : i < l.length
  · rw [List.getElem?_eq_getElem hi, List.getElem?_range hi]
    show some (decide (x = l[i])) = some (decide (i = j))
    congr 1
    rw [decide_eq_decide]
    constructor
    · intro e
      refine (nd_ix hN ?_ hj)
      rw [List.getElem?_eq_getElem hi, e]
    · intro e
      subst e
      rw [List.getElem?_eq_getElem hi] at hj
      exact (Option.some.inj hj).symm
  · rw [List.getElem?_eq_none (by omega), List.getElem?_eq_none (by rw [List.length_range]; omega)]
    rfl
theorem ok_is_own (F : FnP K "_law_is_own" sIsOwn f fd) (FK : FnOk P w K mg base CX0 1 fK fdK ["_law_e"] (spKinds K)) (gK : mg "_law_kinds" = some (.ref fK)) (kK : PySem.W.keepIn K (.ref fK) = true) (bK : Binds K fdK ["_law_e"] [])
    (gI : mg "isinstance" = none) (gR : mg "range" = none) (gV : mg "ValueError" = none) (gH : mg "HouseError" = some (.ref (ga K "HouseError"))) (nd : (KN.map (ga K)).Nodup) :
    FnOk P w K mg base CX0 2 f fd ["_law_e", "_law_at"] (spIsOwn K) := by
  refine F.ok scIO (fun vs H Q E h => ?_) (fun cdv A outer s H vs Q E hr h => ⟨_, PSs.nox
    (pss_cons (ps_if (PW.pt (pw_or (pt_not (pt_val (pe_callB call_isX (by rfl) gI boot_isinstance (pa_cons (pv 0) (pa_cons (pe_glob (v := .ref (ga K "HouseError")) (by rfl) gH rfl) pa_nil)))))
        (pw_or1 (pt_not (pt_val (pe_callB call_isX (by rfl) gI boot_isinstance (pa_cons (pv 0) (pa_cons (pe_bltn (v := .ty "ValueError") (by rfl) gV boot_ValueError rfl) pa_nil)))))))) (pss_one (ps_ret pe_bl)) pss_nil)
    (pss_one (ps_ret (pe_cmpR (op_eqD hr.units) (pe_call FK hr (by rfl) gK kK bK .nil pass0 (pa_cons (pv 0) pa_nil))
      (pe_lc (own := [("_law_k", 2)]) (g := gName 2) (tt := tYes) rfl scIO.nd (pi_range1 (by rfl) gR (pa_cons pe_int pa_nil)) (blkOk_by (N := ["_law_e", "_law_at", "_law_k"]) (sc := defScope sIsOwn) (by decide +kernel))
        (fun _ _ _ _ _ => pg_name (i := 2) scIO.nd rfl (Or.inl rfl)) (fun _ _ _ _ _ => pts_nil) (fun _ _ _ _ _ => pe_cmpR op_eq (pv 2) (pv 1) (nomark _))) (nomark _))))), ?_⟩)
  · obtain ⟨a, j, n, rfl, _⟩ := h
    rfl
  · obtain ⟨a, j, n, rfl, hj, g, O, q⟩ := h
    refine ⟨_, rfl, a, _, .ref (ga K "HouseError"), .ref (ga K "HouseError"), true, rfl, ClsV.own _, g, O.xf, O.kit, O.he, _, rfl, ?_⟩
    refine iteF ⟨_, rfl, a, _, .ty "ValueError", .type "ValueError", true, rfl, ClsV.ty _, g, O.xf, O.kit, O.ve, _, rfl, ?_⟩
    refine iteF ⟨_, rfl, a, _, rfl, g, O, fun p H1 x1 l1 => ?_⟩
    refine ⟨27, rfl, by decide, by decide, fun D hD => lc_range (lo := 0) (n := 27) (fun i H' => Ext H1 H' ∧ H' D = some (.lst ((List.range i).map fun (k : Nat) => V.bl (decide (k = j))))) ⟨Ext.upd hD, upd_same⟩ ?_ ?_⟩
    · rintro i H' hi ⟨x2, l2⟩
      refine ⟨rfl, ?_⟩
      refine lcYes ?_
      refine ⟨_, rfl, _, rfl, rfl, ?_⟩
      refine ⟨_, l2, ?_, ?_⟩
      · rw [List.length_map, List.length_range]
        exact Nat.lt_of_lt_of_le hi (by decide)
      · refine ⟨fun b o e => ?_, ?_⟩
        · have hb : b ≠ D := ne_of_none e hD
          rw [upd_ne hb]
          exact x2 b o e
        · rw [upd_same, List.range_succ, List.map_append]
          congr 3
          show [V.bl (decide (V.int (0 + (i : Int)) = V.int (j : Int)))] = [V.bl (decide (i = j))]
          congr 2
          rw [decide_eq_decide]
          constructor
          · intro e
            have e2 : (0 : Int) + (i : Int) = (j : Int) := V.int.inj e
            omega
          · intro e
            rw [e, Int.zero_add]
    · rintro H' ⟨x2, l2⟩
      have hj2 : (KN.map (ga K))[j]? = some (ga K n) := by
        rw [List.getElem?_map, hj] <;> rfl
      have e1 : (KN.map fun n' => V.bl (decide (ga K n = ga K n'))) = ((KN.map (ga K)).map fun y => decide (ga K n = y)).map V.bl := by
        rw [List.map_map, List.map_map] <;> rfl
      have e2 : ((List.range 27).map fun (k : Nat) => V.bl (decide (k = j))) = ((List.range 27).map fun (k : Nat) => decide (k = j)).map V.bl := by
        rw [List.map_map] <;> rfl
      have e3 : ((KN.map (ga K)).map fun y => decide (ga K n = y)) = (List.range 27).map fun (k : Nat) => decide (k = j) := by
        rw [nodup_dec nd hj2, List.length_map] <;> rfl
      rw [e1, e3] at l1
      rw [e2] at l2
      refine ⟨_, _, .lst (SqL.of (x2 _ _ l1)) (dpAll_bl _), .lst (SqL.of l2) (dpAll_bl _), shaped_bl _, shaped_bl _, ?_⟩
      rw [SeqAt.eqv_refl _ (SeqAt.canLay_of_shaped (shaped_bl _))]
      exact q H' (x1.trans x2)
end
end My

namespace My
open PySem PySem.Spec PyProof.Rows L2 He
/-! ### any object of the law -/
def AnyOb (H : Hp) (x : V) : Prop := (x = .non ∨ (∃ b, x = .bl b) ∨ (∃ i, x = .int i) ∨ x = .str "" ∨ x = .str "a") ∨ (∃ t, x = .ref t ∧ H t = some (.tup [.str "a", .int 1])) ∨
  (∃ l m, x = .ref l ∧ H l = some (.lst [.str "b", .ref m]) ∧ H m = some (.lst [.int 2])) ∨ ∃ d m, x = .ref d ∧ H d = some (.dK [(Sum.inr "a", .ref m)])
theorem AnyOb.ext {H H' : Hp} {x : V} (h : AnyOb H x) (e : Ext H H') : AnyOb H' x := by
  rcases h with h | ⟨t, h1, h2⟩ | ⟨l, m, h1, h2, h3⟩ | ⟨d, m, h1, h2⟩
  · exact .inl h
  · exact .inr (.inl ⟨t, h1, e _ _ h2⟩)
  · exact .inr (.inr (.inl ⟨l, m, h1, e _ _ h2, e _ _ h3⟩))
  · exact .inr (.inr (.inr ⟨d, m, h1, e _ _ h2⟩))
/-- a dict of one object is equal to itself -/
def rEqSelf : R2 := fun x y H Q => ∃ d k m, x = .ref d ∧ y = .ref d ∧ H d = some (.dK [(k, .ref m)]) ∧ Q (.bl true) H
theorem op_eqSelf {X : Cx} (hu : X.A.units + 64 < cLine) : OpR X (compareOp .Eq) rEqSelf := by
  intro pins s σ H x y v u Q I rx ry h
  obtain ⟨d, k, m, rfl, rfl, hd, q⟩ := h
  obtain rfl : v = Value.ref d := rx
  obtain rfl : u = Value.ref d := ry
  obtain ⟨hz, hn, vs, hv, dd⟩ := (show ObjOk X.prog X.w H s.heap d (.dK [(k, .ref m)]) from I.hok d _ hd)
  cases hv with
  | cons h1 h2 =>
    cases h2
    rename_i b
    obtain ⟨b1, b2⟩ := b
    obtain rfl : k = b1 := h1.1
    obtain rfl : b2 = Value.ref m := h1.2
    show wpAny (model X.prog X.w) X.A (richCompare .Eq (.ref d) (.ref d)) (EP X pins σ Q) X.xe s
    refine PySem.W.rcP_dicts (knd := mixKind X.prog X.w) (r := true) hn hn dd dd (by omega) (fun _ => ?_) _ _ ⟨.bl true, H, I, rfl, q⟩
    refine .hit (e := true) (b := true) (y := Value.ref m) ?_ ?_ .nil
    · simp [PySem.valueAt]
    · exact fun E Q hq => SeqAt.EqAt.same (.ref m) _ _ E Q hq
/-- x == x, x one of the law's objects -/
theorem any_eq {K : PySem.W.Frag} {H : Hp} {x : V} {Q : VK} (h : AnyOb H x) (q : Q (.bl true) H) : rEqD K x x H Q ∨ rEqSelf x x H Q := by
  have key : ∀ d, Dp K H x d → SeqAt.shaped d = true → rEqD K x x H Q := fun d hd hs => ⟨d, d, hd, hd, hs, hs, by rw [SeqAt.eqv_refl _ (SeqAt.canLay_of_shaped hs)]; exact q⟩
  rcases h with (rfl | ⟨b, rfl⟩ | ⟨i, rfl⟩ | rfl | rfl) | ⟨t, rfl, h⟩ | ⟨l, m, rfl, h1, h2⟩ | ⟨d, m, rfl, h1⟩
  · exact .inl (key _ .non rfl)
  · exact .inl (key _ (.bl b) rfl)
  · exact .inl (key _ (.int i) rfl)
  · exact .inl (key _ (.str "") (by decide +kernel))
  · exact .inl (key _ (.str "a") (by decide +kernel))
  · exact .inl (key _ (.tup (SqT.of h) (.cons (.str "a") (.cons (.int 1) .nil))) (by decide +kernel))
  · exact .inl (key _ (.lst (SqL.of h1) (.cons (.str "b") (.cons (.lst (SqL.of h2) (.cons (.int 2) .nil)) .nil))) (by decide +kernel))
  · exact .inr ⟨d, _, m, rfl, rfl, h1, q⟩
/-- isinstance(x, bool) -/
theorem any_bool {K : PySem.W.Frag} {H : Hp} {x : V} (h : AnyOb H x) : ∃ t b, TyX K H x t ∧ PySem.W.kitOne K t (.type "bool") = some b := by
  rcases h with (rfl | ⟨b, rfl⟩ | ⟨i, rfl⟩ | rfl | rfl) | ⟨t, rfl, h⟩ | ⟨l, m, rfl, h1, h2⟩ | ⟨d, m, rfl, h1⟩
  · exact ⟨_, false, .base .non, kit_ty (by decide +kernel)⟩
  · exact ⟨_, true, .base (.bl b), kit_ty (by decide +kernel)⟩
  · exact ⟨_, false, .base (.int i), kit_ty (by decide +kernel)⟩
  · exact ⟨_, false, .base (.str _), kit_ty (by decide +kernel)⟩
  · exact ⟨_, false, .base (.str _), kit_ty (by decide +kernel)⟩
  · exact ⟨_, false, .base (.tup h), kit_ty (by decide +kernel)⟩
  · exact ⟨_, false, .base (.lst h1), kit_ty (by decide +kernel)⟩
  · exact ⟨_, false, .base (.dK h1), kit_ty (by decide +kernel)⟩
def spSame : Sp := fun vs H Q _ => ∃ x : V, vs = [x, x] ∧ AnyOb H x ∧ Q (.bl true) H
def spAny : Sp := fun vs H Q _ => ∃ (p : Addr) (n : Int), vs = [.ref p] ∧ Pool H p n ∧ n < 1000000 ∧ ∀ x H', AnyOb H' x → Pool H' p (n + 1) → (∀ b o, b ≠ p → H b = some o → H' b = some o) → Q x H'
section
variable {P : Program} {w : World} {K : PySem.W.Frag} {mg : Str → Option Value} {base : Heap} {f fT : Addr} {fd fdT : FuncData}
theorem scSa : FnScope ["_law_one", "_law_other"] ["_law_one", "_law_other"] (defScope sSame) := ⟨rfl, rfl, rfl, by decide +kernel, rfl, by decide +kernel, by decide +kernel⟩
theorem scAn : FnScope ["_law_pool_here"] ["_law_pool_here"] (defScope sAny) := ⟨rfl, rfl, rfl, by decide +kernel, rfl, by decide +kernel, by decide +kernel⟩
theorem ok_same (F : FnP K "_law_same" sSame f fd) (gI : mg "isinstance" = none) (gB : mg "bool" = none) : FnOk P w K mg base CX0 1 f fd ["_law_one", "_law_other"] spSame := by
  refine F.ok scSa (fun vs H Q E h => ?_) (fun cdv A outer s H vs Q E hr h => ⟨_, PSs.nox
    (pss_one (ps_ret (pe_and (pe_cmpR (OpR.or (op_eqD hr.units) (op_eqSelf hr.units)) (pv 0) (pv 1) (nomark _))
      (pe_one (pe_cmpR op_eq (pe_callB call_isi (by rfl) gI boot_isinstance (pa_cons (pv 0) (pa_cons (pe_bltn (v := .ty "bool") (by rfl) gB boot_bool rfl) pa_nil)))
        (pe_callB call_isi (by rfl) gI boot_isinstance (pa_cons (pv 1) (pa_cons (pe_bltn (v := .ty "bool") (by rfl) gB boot_bool rfl) pa_nil))) (nomark _)))))), ?_⟩)
  · obtain ⟨x, rfl, _⟩ := h
    rfl
  · obtain ⟨x, rfl, g, q⟩ := h
    obtain ⟨t, b, ty, kt⟩ := any_bool (K := K) g
    refine ⟨_, rfl, _, rfl, any_eq g ⟨true, rfl, ?_⟩⟩
    refine iteT ?_
    refine ⟨_, rfl, x, .ty "bool", t, .type "bool", b, rfl, ClsV.ty _, ty, kt, _, rfl, x, .ty "bool", t, .type "bool", b, rfl, ClsV.ty _, ty, kt, rfl, ?_⟩
    rw [decide_eq_true rfl]
    exact q
theorem ok_any (F : FnP K "_law_any" sAny f fd) (FT : FnOk P w K mg base CX0 1 fT fdT ["_law_pool_here", "_law_many"] spTake) (gT : mg "_law_take" = some (.ref fT)) (kT : PySem.W.keepIn K (.ref fT) = true) (bT : Binds K fdT ["_law_pool_here", "_law_many"] []) :
    FnOk P w K mg base CX0 2 f fd ["_law_pool_here"] spAny := by
  refine F.ok scAn (fun vs H Q E h => ?_) (fun cdv A outer s H vs Q E hr h => ⟨_, PSs.nox
    (pss_one (ps_ret (pe_ix ix_list (pe_lst (pa_cons pe_non (pa_cons pe_bl (pa_cons pe_bl (pa_cons pe_int (pa_cons (pe_un un_neg pe_int) (pa_cons (pe_op op_pow pe_int pe_int) (pa_cons pe_str (pa_cons pe_str
      (pa_cons (pe_tup (pa_cons pe_str (pa_cons pe_int pa_nil))) (pa_cons (pe_lst (pa_cons pe_str (pa_cons (pe_lst (pa_cons pe_int pa_nil)) pa_nil))) (pa_cons (pe_disp (pps_cons pe_str (pe_lst pa_nil) pps_nil) (by rfl) (by rfl) (fun z => by cases z) (by decide))
      (pa_cons pe_int pa_nil)))))))))))))
      (pe_call FT hr (by rfl) gT kT bT .nil pass0 (pa_cons (pv 0) (pa_cons pe_int pa_nil))) (fun _ _ => rfl)))), ?_⟩)
  · obtain ⟨p, n, rfl, _⟩ := h
    rfl
  · obtain ⟨p, n, rfl, g, hn, q⟩ := h
    refine ⟨7, rfl, 10, 30, rfl, rfl, ⟨by decide, by decide, by decide⟩, (by show 2 ≤ sizeLine; decide), fun t ht => ?_⟩
    refine ⟨(by show 1 ≤ sizeLine; decide), fun m hm => ⟨(by show 2 ≤ sizeLine; decide), fun l hl => ?_⟩⟩
    intro d hd
    refine ⟨(by show 0 ≤ sizeLine; decide), fun e he => ⟨?_, [(Sum.inr "a", .ref e)], rfl, (by show 1 ≤ 15; decide), ?_⟩⟩
    · rw [upd_ne (ne_of_none upd_same he)]
      exact upd_same
    refine ⟨(by show 12 ≤ sizeLine; decide), fun z hz => ?_⟩
    obtain ⟨g0, m0, c0, hp, gr⟩ := id g
    -- what stands behind the displays
    have x3 : Ext H (upd (upd (upd H t (.tup [.str "a", .int 1])) m (.lst [.int 2])) l (.lst [.str "b", .ref m])) := ((Ext.upd ht).trans (Ext.upd hm)).trans (Ext.upd hl)
    generalize hH3 : upd (upd (upd H t (.tup [.str "a", .int 1])) m (.lst [.int 2])) l (.lst [.str "b", .ref m]) = H3 at *
    have x6 : Ext H3 (upd (upd (upd H3 d (.dK [])) e (.lst [])) d (.dK (mergeK [] [(Sum.inr "a", .ref e)]))) := fun b o k => by
      have hb : b ≠ d := ne_of_none k hd
      rw [upd_ne hb, upd_ne (ne_of_none (show upd H3 d (.dK []) b = some o by rw [upd_ne hb]; exact k) he), upd_ne hb]
      exact k
    have hd6 : (upd (upd (upd H3 d (.dK [])) e (.lst [])) d (.dK (mergeK [] [(Sum.inr "a", .ref e)]))) d = some (.dK [(Sum.inr "a", .ref e)]) := upd_same
    have ht3 : H3 t = some (.tup [.str "a", .int 1]) := by
      rw [← hH3]
      exact Ext.upd hl _ _ (Ext.upd hm _ _ upd_same)
    have hm3 : H3 m = some (.lst [.int 2]) := by
      rw [← hH3]
      exact Ext.upd hl _ _ upd_same
    have hl3 : H3 l = some (.lst [.str "b", .ref m]) := by
      rw [← hH3]
      exact upd_same
    generalize upd (upd (upd H3 d (.dK [])) e (.lst [])) d (.dK (mergeK [] [(Sum.inr "a", .ref e)])) = H6 at *
    have x7 : Ext H6 (upd H6 z (.lst [.non, .bl true, .bl false, .int 0, .int (-7), .int (10 ^ (Int.toNat 30)), .str "", .str "a", .ref t, .ref l, .ref d, .int 1])) := Ext.upd hz
    have hz7 := upd_same (H := H6) (a := z) (o := .lst [.non, .bl true, .bl false, .int 0, .int (-7), .int (10 ^ (Int.toNat 30)), .str "", .str "a", .ref t, .ref l, .ref d, .int 1])
    generalize upd H6 z (.lst [.non, .bl true, .bl false, .int 0, .int (-7), .int (10 ^ (Int.toNat 30)), .str "", .str "a", .ref t, .ref l, .ref d, .int 1]) = H7 at *
    have hp7 := x7 _ _ (x6 _ _ (x3 _ _ hp))
    refine ⟨_, rfl, p, 12, n, rfl, by decide, by decide, ⟨g0, m0, c0, hp7, gr⟩, by omega, fun r o r0 r1 gp => ?_⟩
    have k8 : ∀ b u, b ≠ p → H7 b = some u → upd H7 p o b = some u := fun b u hb k => by
      rw [upd_ne hb]
      exact k
    have t8 := k8 t _ (ne_of (x7 _ _ (x6 _ _ ht3)) hp7 (by intro q; cases q)) (x7 _ _ (x6 _ _ ht3))
    have l8 := k8 l _ (ne_of (x7 _ _ (x6 _ _ hl3)) hp7 (by intro q; cases q)) (x7 _ _ (x6 _ _ hl3))
    have m8 := k8 m _ (ne_of (x7 _ _ (x6 _ _ hm3)) hp7 (by intro q; cases q)) (x7 _ _ (x6 _ _ hm3))
    have d8 := k8 d _ (ne_of (x7 _ _ hd6) hp7 (by intro q; cases q)) (x7 _ _ hd6)
    have z8 := k8 z _ (ne_of hz7 hp7 (by intro q; cases q)) hz7
    have fin : ∀ x, AnyOb (upd H7 p o) x → Q x (upd H7 p o) := fun x hx => q x _ hx gp fun b u hb k => k8 b u hb (x7 _ _ (x6 _ _ (x3 _ _ k)))
    have sc : ∀ i : Int, AnyOb (upd H7 p o) (.int i) := fun i => .inl (.inr (.inr (.inl ⟨i, rfl⟩)))
    have one : ∀ (j : Nat) (x : V), r = (j : Int) → ([.non, .bl true, .bl false, .int 0, .int (-7), .int (10 ^ (Int.toNat 30)), .str "", .str "a", .ref t, .ref l, .ref d, .int 1] : List V)[j]? = some x → AnyOb (upd H7 p o) x →
        rIxL K (.ref z) (.int r) (upd H7 p o) Q := fun j x hj hx ha => ⟨z, _, r, x, rfl, rfl, SqL.of z8, at_of hj hx, fin x ha⟩
    have hr12 : r = 0 ∨ r = 1 ∨ r = 2 ∨ r = 3 ∨ r = 4 ∨ r = 5 ∨ r = 6 ∨ r = 7 ∨ r = 8 ∨ r = 9 ∨ r = 10 ∨ r = 11 := by omega
    show rIxL K (.ref z) (.int r) (upd H7 p o) Q
    rcases hr12 with h | h | h | h | h | h | h | h | h | h | h | h
    · exact one 0 _ h rfl (.inl (.inl rfl))
    · exact one 1 _ h rfl (.inl (.inr (.inl ⟨_, rfl⟩)))
    · exact one 2 _ h rfl (.inl (.inr (.inl ⟨_, rfl⟩)))
    · exact one 3 _ h rfl (sc _)
    · exact one 4 _ h rfl (sc _)
    · exact one 5 _ h rfl (sc _)
    · exact one 6 _ h rfl (.inl (.inr (.inr (.inr (.inl rfl)))))
    · exact one 7 _ h rfl (.inl (.inr (.inr (.inr (.inr rfl)))))
    · exact one 8 _ h rfl (.inr (.inl ⟨t, rfl, t8⟩))
    · exact one 9 _ h rfl (.inr (.inr (.inl ⟨l, m, rfl, l8, m8⟩)))
    · exact one 10 _ h rfl (.inr (.inr (.inr ⟨d, e, rfl, d8⟩)))
    · exact one 11 _ h rfl (sc _)
end
end My

namespace My
open PySem PySem.Spec PyProof.Rows L2 He
/-! ### a def of the module, as a caller wants it -/
def Has (P : Program) (w : World) (K : PySem.W.Frag) (mg : Str → Option Value) (base : Heap) (k : Nat) (x : Str) (ps : List Str) (sp : Sp) : Prop :=
  ∃ (f : Addr) (fd : FuncData), FnOk P w K mg base CX0 k f fd ps sp ∧ mg x = some (.ref f) ∧ PySem.W.keepIn K (.ref f) = true ∧ Binds K fd ps []
theorem pe_has {X : Cx} {k : Nat} {x : Str} {ps : List Str} {sp : Sp} {e : Expr} {es : List Expr} {t : TA} {p pos : Pos} (h : Has X.prog X.w X.K X.mg X.base k x ps sp) (hr : Room k X.A) (ha : PA X (e :: es) t) (hg : Gl X x := by rfl)
    (hdb : (x == ("__debug__" : Str)) = false := by decide) (h1 : starEach (e :: es) X.env = (false, eval e X.env) :: starEach es X.env := by rfl) (h2 : (backTo pos (starEach es X.env)).any (·.1) = false := by rfl) :
    PE X (.Call (.Name x p) (e :: es) [] pos) (tCall sp [] E0 t) := by
  obtain ⟨f, fd, F, m, kp, b⟩ := h
  exact pe_call F hr hg m kp b .nil pass0 ha hdb h1 h2
theorem AnyOb.but {H H' : Hp} {x : V} {p : Addr} {a b c : Int} (h : AnyOb H x) (hp : H p = some (.lst [.int a, .int b, .int c])) (k : ∀ q o, q ≠ p → H q = some o → H' q = some o) : AnyOb H' x := by
  rcases h with h | ⟨t, h1, h2⟩ | ⟨l, m, h1, h2, h3⟩ | ⟨d, m, h1, h2⟩
  · exact .inl h
  · exact .inr (.inl ⟨t, h1, k _ _ (ne_of h2 hp (by intro q; cases q)) h2⟩)
  · exact .inr (.inr (.inl ⟨l, m, h1, k _ _ (ne_of h2 hp (by intro q; cases q)) h2, k _ _ (ne_of h3 hp (by intro q; cases q)) h3⟩))
  · exact .inr (.inr (.inr ⟨d, m, h1, k _ _ (ne_of h2 hp (by intro q; cases q)) h2⟩))
def SPT : List Nat := [0, 1, 2, 3, 4, 5, 6, 8, 9, 10, 12, 13, 14, 15, 16, 17, 18, 19, 20, 21, 22, 23, 24, 26]
theorem spot : ∀ {j : Nat}, j < 24 → ∃ (n : Str) (k : Nat), (∃ c, PL[j]? = some (n, c)) ∧ SPT[j]? = some k ∧ KN[k]? = some n := by
  intro j hj
  have key : ∀ j < 24, ((PL[j]?).map (·.1)).isSome = true ∧ (PL[j]?).map (·.1) = (SPT[j]?).bind fun k => KN[k]? := by decide +kernel
  obtain ⟨h1, h2⟩ := key j hj
  obtain ⟨n, hn⟩ := Option.isSome_iff_exists.mp h1
  rw [hn] at h2
  obtain ⟨k, hk, hk2⟩ := Option.bind_eq_some_iff.mp h2.symm
  obtain ⟨⟨n', c⟩, hc, e⟩ := Option.map_eq_some_iff.mp hn
  obtain rfl : n' = n := e
  exact ⟨n', k, ⟨c, hc⟩, hk, hk2⟩
def spLaw (K : PySem.W.Frag) : Sp := fun vs H Q _ => ∃ (a : Addr) (ns : List Int), vs = [.ref a] ∧ SqL K H a (ns.map V.int) ∧ ∀ H', Q (.bl true) H'
theorem scLw : FnScope ["_law_script", "_law_spots", "_law_k", "_law_pool_here", "_law_x", "_law_y", "_law_one", "_law_two", "_law_at", "_law_plain", "_law_bare", "_law_kept", "_law_e"] ["_law_script"] (defScope sLaw) :=
  ⟨rfl, rfl, rfl, by decide +kernel, rfl, by decide +kernel, by decide +kernel⟩
/-- what stands behind the top -/
structure LawIn (P : Program) (w : World) (K : PySem.W.Frag) (mg : Str → Option Value) (base : Heap) : Prop where
  cell : Has P w K mg base 1 "_law_cell" ["_law_script", "_law_k"] (spCell1 K)
  pool : Has P w K mg base 1 "_law_pool" ["_law_grain"] spPool
  any : Has P w K mg base 2 "_law_any" ["_law_pool_here"] spAny
  byP : Has P w K mg base 3 "_law_by_place" ["_law_x"] (spBy K)
  byN : Has P w K mg base 3 "_law_by_name" ["_law_x"] (spBy K)
  fields : Has P w K mg base 1 "_law_fields" ["_law_some"] (spFields K)
  kinds : Has P w K mg base 1 "_law_kinds" ["_law_e"] (spKinds K)
  own : Has P w K mg base 2 "_law_is_own" ["_law_e", "_law_at"] (spIsOwn K)
  same : Has P w K mg base 1 "_law_same" ["_law_one", "_law_other"] spSame
  gL : mg "len" = none
  gR : mg "range" = none
  gA : mg "all" = none
  gI : mg "isinstance" = none
  gV : mg "ValueError" = none
  owns : ∀ n ∈ KN, OwnC K (ga K n)
  ownH : OwnC K (ga K "HouseError")
  newH : ∀ n ∈ KN, ga K "HouseError" ≠ ga K n
  ex : ∀ n ∈ (["UnlikeHouses", "Misfit", "NoDeed", "HouseError"] : List Str), PySem.W.excIn K (ga K n) PySem.HandSPX.veTail "ValueError.__new__" = true ∧ mg n = some (.ref (ga K n)) ∧ PySem.W.keepIn K (.ref (ga K n)) = true
section
variable {P : Program} {w : World} {K : PySem.W.Frag} {mg : Str → Option Value} {base : Heap} {f : Addr} {fd : FuncData}
theorem ok_law (F : FnP K "law" sLaw f fd) (L : LawIn P w K mg base) : FnOk P w K mg base CX0 4 f fd ["_law_script"] (spLaw K) := by
  have e0 := L.ex "UnlikeHouses" (List.mem_of_getElem? (i := 0) rfl)
  have e1 := L.ex "Misfit" (List.mem_of_getElem? (i := 1) rfl)
  have e2 := L.ex "NoDeed" (List.mem_of_getElem? (i := 2) rfl)
  have e3 := L.ex "HouseError" (List.mem_of_getElem? (i := 3) rfl)
  refine F.ok scLw (fun vs H Q E h => ?_) (fun cdv A outer s H vs Q E hr h => ⟨_, PSs.nox
    (pss_cons (ps_set (i := 1) scLw.nd rfl (.inl rfl) (pe_lst (pa_cons pe_int (pa_cons pe_int (pa_cons pe_int (pa_cons pe_int (pa_cons pe_int (pa_cons pe_int (pa_cons pe_int (pa_cons pe_int (pa_cons pe_int (pa_cons pe_int (pa_cons pe_int (pa_cons pe_int (pa_cons pe_int (pa_cons pe_int (pa_cons pe_int (pa_cons pe_int (pa_cons pe_int (pa_cons pe_int (pa_cons pe_int (pa_cons pe_int (pa_cons pe_int (pa_cons pe_int (pa_cons pe_int (pa_cons pe_int pa_nil))))))))))))))))))))))))))
    (pss_cons (ps_for PassesOwn.never rfl (pi_range1 (by rfl) L.gR (pa_cons pe_int pa_nil)) (pg_name (i := 2) scLw.nd rfl (Or.inl rfl))
      (pss_cons (ps_set (i := 3) scLw.nd rfl (.inl rfl) (pe_has L.pool (hr.mono (by first | exact (by decide : 1 ≤ 3) | exact (by decide : 2 ≤ 3))) (pa_cons (pe_op op_add (pe_has L.cell (hr.mono (by first | exact (by decide : 1 ≤ 3) | exact (by decide : 2 ≤ 3))) (pa_cons (pv 0) (pa_cons (pv 2) pa_nil))) (pv 2)) pa_nil)))
    (pss_cons (ps_asg (pe_tup (pa_cons (pe_has L.any (hr.mono (by first | exact (by decide : 1 ≤ 3) | exact (by decide : 2 ≤ 3))) (pa_cons (pv 3) pa_nil)) (pa_cons (pe_has L.any (hr.mono (by first | exact (by decide : 1 ≤ 3) | exact (by decide : 2 ≤ 3))) (pa_cons (pv 3) pa_nil)) pa_nil))) (pg_tup rfl (pgs_cons (pg_name (i := 4) scLw.nd rfl (Or.inr rfl)) (pgs_cons (pg_name (i := 5) scLw.nd rfl (Or.inr rfl)) pgs_nil))))
    (pss_cons (ps_par (i := 6) (j := 7) rfl scLw.nd rfl rfl (by decide) rfl rfl (pa_cons (pe_has L.byP hr (pa_cons (pv 4) pa_nil)) (pa_cons (pe_has L.byN hr (pa_cons (pv 5) pa_nil)) pa_nil)) (by rfl))
    (pss_cons (ps_if (pt_not (pt_val (pe_callB (cr_all rfl) (by rfl) L.gA boot_all (pa_cons (pe_lc (own := [("_law_kept", 11)]) (g := gName 11) (tt := tYes) rfl scLw.nd (pi_list (pe_has L.fields (hr.mono (by first | exact (by decide : 1 ≤ 3) | exact (by decide : 2 ≤ 3))) (pa_cons (pv 6) pa_nil))) (blkOk_by (N := ["_law_script", "_law_spots", "_law_k", "_law_pool_here", "_law_x", "_law_y", "_law_one", "_law_two", "_law_at", "_law_plain", "_law_bare", "_law_kept", "_law_e"]) (sc := defScope sLaw) (by decide +kernel)) (fun _ _ _ _ _ => pg_name (i := 11) scLw.nd rfl (Or.inl rfl)) (fun _ _ _ _ _ => pts_nil) (fun _ _ _ _ _ => (pe_has L.same (hr.mono (by first | exact (by decide : 1 ≤ 3) | exact (by decide : 2 ≤ 3))) (pa_cons (pv 11) (pa_cons (pv 4) pa_nil))))) pa_nil)))) (pss_one (ps_ret pe_bl)) pss_nil)
    (pss_cons (ps_if (pt_not (pt_val (pe_callB (cr_all rfl) (by rfl) L.gA boot_all (pa_cons (pe_lc (own := [("_law_kept", 11)]) (g := gName 11) (tt := tYes) rfl scLw.nd (pi_list (pe_has L.fields (hr.mono (by first | exact (by decide : 1 ≤ 3) | exact (by decide : 2 ≤ 3))) (pa_cons (pv 7) pa_nil))) (blkOk_by (N := ["_law_script", "_law_spots", "_law_k", "_law_pool_here", "_law_x", "_law_y", "_law_one", "_law_two", "_law_at", "_law_plain", "_law_bare", "_law_kept", "_law_e"]) (sc := defScope sLaw) (by decide +kernel)) (fun _ _ _ _ _ => pg_name (i := 11) scLw.nd rfl (Or.inl rfl)) (fun _ _ _ _ _ => pts_nil) (fun _ _ _ _ _ => (pe_has L.same (hr.mono (by first | exact (by decide : 1 ≤ 3) | exact (by decide : 2 ≤ 3))) (pa_cons (pv 11) (pa_cons (pv 5) pa_nil))))) pa_nil)))) (pss_one (ps_ret pe_bl)) pss_nil)
    (pss_one (ps_for PassesOwn.never rfl (pi_range1 (by rfl) L.gR (pa_cons (pe_callB call_len (by rfl) L.gL boot_len (pa_cons (pv 1) pa_nil)) pa_nil)) (pg_name (i := 8) scLw.nd rfl (Or.inl rfl)) (pss_one (ps_if (PW.pt (pw_or (pt_not (pt_val (pe_has L.own (hr.mono (by first | exact (by decide : 1 ≤ 3) | exact (by decide : 2 ≤ 3))) (pa_cons (pe_ix ix_list (pv 6) (pv 8) (fun _ _ => rfl)) (pa_cons (pe_ix ix_list (pv 1) (pv 8) (fun _ _ => rfl)) pa_nil))))) (pw_or1 (pt_not (pt_val (pe_has L.own (hr.mono (by first | exact (by decide : 1 ≤ 3) | exact (by decide : 2 ≤ 3))) (pa_cons (pe_ix ix_list (pv 7) (pv 8) (fun _ _ => rfl)) (pa_cons (pe_ix ix_list (pv 1) (pv 8) (fun _ _ => rfl)) pa_nil)))))))) (pss_one (ps_ret pe_bl)) pss_nil))))))))))
    (pss_cons (ps_set (i := 9) scLw.nd rfl (.inl rfl) (pe_lst (pa_cons (pe_tup (pa_cons (pe_exc0 PySem.F.excBase_ValueError e0.1 e0.2.1 e0.2.2 (by rfl)) (pa_cons pe_int pa_nil))) (pa_cons (pe_tup (pa_cons (pe_exc0 PySem.F.excBase_ValueError e1.1 e1.2.1 e1.2.2 (by rfl)) (pa_cons pe_int pa_nil))) (pa_cons (pe_tup (pa_cons (pe_exc0 PySem.F.excBase_ValueError e2.1 e2.2.1 e2.2.2 (by rfl)) (pa_cons pe_int pa_nil))) pa_nil)))))
    (pss_cons (ps_if (pt_not (pt_val (pe_callB (cr_all rfl) (by rfl) L.gA boot_all (pa_cons (pe_lc (own := [("_law_e", 12), ("_law_at", 8)]) (g := gTup K 2 (gCons (gName 12) (gCons (gName 8) gNil))) (tt := tYes) rfl scLw.nd (pi_list (pv 9)) (blkOk_by (N := ["_law_script", "_law_spots", "_law_k", "_law_pool_here", "_law_x", "_law_y", "_law_one", "_law_two", "_law_at", "_law_plain", "_law_bare", "_law_kept", "_law_e"]) (sc := defScope sLaw) (by decide +kernel)) (fun _ _ _ _ _ => pg_tup rfl (pgs_cons (pg_name (i := 12) scLw.nd rfl (Or.inl rfl)) (pgs_cons (pg_name (i := 8) scLw.nd rfl (Or.inl rfl)) pgs_nil))) (fun _ _ _ _ _ => pts_nil) (fun _ _ _ _ _ => (pe_has L.own (hr.mono (by first | exact (by decide : 1 ≤ 3) | exact (by decide : 2 ≤ 3))) (pa_cons (pv 12) (pa_cons (pv 8) pa_nil))))) pa_nil)))) (pss_one (ps_ret pe_bl)) pss_nil)
    (pss_cons (ps_set (i := 10) scLw.nd rfl (.inl rfl) (pe_exc0 PySem.F.excBase_ValueError e3.1 e3.2.1 e3.2.2 (by rfl)))
    (pss_one (ps_ret (pe_and (pe_callB call_isX (by rfl) L.gI boot_isinstance (pa_cons (pv 10) (pa_cons (pe_bltn (v := .ty "ValueError") (by rfl) L.gV boot_ValueError rfl) pa_nil))) (pe_one (pe_cmpR op_notIn_seq pe_bl (pe_has L.kinds (hr.mono (by first | exact (by decide : 1 ≤ 3) | exact (by decide : 2 ≤ 3))) (pa_cons (pv 10) pa_nil)) (by rfl))))))))))), ?_⟩)
  · obtain ⟨a, ns, rfl, _⟩ := h
    rfl
  · obtain ⟨a, ns, rfl, hS, q⟩ := h
    refine ⟨(by show 24 ≤ sizeLine; decide), fun sp hsp => ?_⟩
    have hS1 := hS.ext (Ext.upd (o := .lst (SPT.map fun k => V.int (k : Nat))) hsp)
    have lsp := upd_same (H := H) (a := sp) (o := .lst (SPT.map fun k => V.int (k : Nat)))
    obtain ⟨H1, hH1⟩ : ∃ H1, H1 = (upd H sp (.lst (SPT.map fun k => V.int (k : Nat)))) := ⟨_, rfl⟩
    rw [← hH1] at hS1 lsp
    refine ⟨4, rfl, by decide, by decide, for_range (lo := 0) (n := 4) (fun _ σ H' => ∃ v2 v3 v4 v5 v6 v7 v8 v9 v10 v11 v12 : Option V, σ = [some (.ref a), some (.ref sp), v2, v3, v4, v5, v6, v7, v8, v9, v10, v11, v12] ∧ Ext H1 H')
      ⟨none, none, none, none, none, none, none, none, none, none, none, rfl, by rw [hH1]; exact Ext.rfl'⟩ ?_ ?_⟩
    · rintro i σ H2 hi ⟨v2, v3, v4, v5, v6, v7, v8, v9, v10, v11, v12, rfl, x2⟩
      refine ⟨_, rfl, _, rfl, a, ns, i, by rw [Int.zero_add] <;> rfl, hS1.ext x2, fun c => ?_⟩
      refine ⟨_, rfl, _, _, rfl, rfl, _, rfl, fun p H3 hp ⟨g, m, g0, m0, m1, eH⟩ => ?_⟩
      have p3 : Pool H3 p 0 := ⟨g, m, 0, by rw [eH]; exact upd_same, g0, m0, m1, by decide, by decide⟩
      have x3 : Ext H2 H3 := by
        rw [eH]
        exact Ext.upd hp
      refine ⟨_, rfl, p, 0, rfl, p3, by decide, fun x H4 ax p4 k4 => ⟨_, rfl, p, 0 + 1, rfl, p4, by decide, fun y H5 ay p5 k5 => ⟨(by show 2 ≤ sizeLine; decide), fun t ht => ?_⟩⟩⟩
      have x5 : Ext H2 H5 := fun b o e => k5 b o (ne_of_none e hp) (k4 b o (ne_of_none e hp) (x3 b o e))
      obtain ⟨u1, u2, u3, lp4, _⟩ := id p4
      have ax5 := (ax.but lp4 k5).ext (Ext.upd (o := .tup [x, y]) ht)
      have ay5 := ay.ext (Ext.upd (o := .tup [x, y]) ht)
      have x6 : Ext H1 (upd H5 t (.tup [x, y])) := (x2.trans x5).trans (Ext.upd ht)
      refine ⟨t, _, rfl, SqT.of upd_same, rfl, _, _, rfl, _, _, rfl, rfl, ?_⟩
      generalize upd H5 t (.tup [x, y]) = H6 at *
      refine ⟨_, rfl, x, rfl, fun p7 as H7 x7 l7 g7 => ⟨_, rfl, y, rfl, fun p8 bs H8 x8 l8 g8 => ⟨_, _, rfl, ?_⟩⟩⟩
      have l78 := x8 _ _ l7
      have g78 := g7.ext x8
      -- the fields of the first list
      refine ⟨_, rfl, p7, as, x, rfl, l78, g78, fun q9 H9 x9 l9 => ⟨q9, rfl, ⟨_, SqL.of l9⟩, fun D hD => lc_list (xs := List.replicate 24 x) (fun j H' => Ext H9 H' ∧ H' D = some (.lst ((List.replicate j true).map V.bl))) ⟨Ext.upd hD, upd_same⟩ (fun j H' _ ⟨z, _⟩ => SqL.of (z _ _ l9)) ?_ ?_⟩⟩
      · rintro j z H' hz ⟨xj, lj⟩
        have ez : z = x := List.eq_of_mem_replicate (List.mem_of_getElem? hz)
        subst ez
        have hj : j < 24 := by
          have w := (List.getElem?_eq_some_iff.mp hz).1
          rw [List.length_replicate] at w
          exact w
        refine ⟨rfl, ?_⟩
        refine lcYes ?_
        refine ⟨_, rfl, _, rfl, z, rfl, (((ax5.ext x7).ext x8).ext x9).ext xj, _, lj, ?_, ?_, ?_⟩
        · rw [List.length_map, List.length_replicate]
          exact Nat.lt_of_lt_of_le hj (by decide)
        · exact fun b o e => by
            rw [upd_ne (ne_of_none e hD)]
            exact xj b o e
        · rw [upd_same, List.replicate_succ', List.map_append] <;> rfl
      rintro H10 ⟨x10, l10⟩
      refine ⟨D, List.replicate 24 true, rfl, SqL.of l10, _, rfl, ?_⟩
      refine iteF ?_
      have l7a := x10 _ _ (x9 _ _ l78)
      have l8a := x10 _ _ (x9 _ _ l8)
      have g8a := (g8.ext x9).ext x10
      -- the fields of the second list
      refine ⟨_, rfl, p8, bs, y, rfl, l8a, g8a, fun q11 H11 x11 l11 => ⟨q11, rfl, ⟨_, SqL.of l11⟩, fun D2 hD2 => lc_list (xs := List.replicate 24 y) (fun j H' => Ext H11 H' ∧ H' D2 = some (.lst ((List.replicate j true).map V.bl))) ⟨Ext.upd hD2, upd_same⟩ (fun j H' _ ⟨z, _⟩ => SqL.of (z _ _ l11)) ?_ ?_⟩⟩
      · rintro j z H' hz ⟨xj, lj⟩
        have ez : z = y := List.eq_of_mem_replicate (List.mem_of_getElem? hz)
        subst ez
        have hj : j < 24 := by
          have w := (List.getElem?_eq_some_iff.mp hz).1
          rw [List.length_replicate] at w
          exact w
        refine ⟨rfl, ?_⟩
        refine lcYes ?_
        refine ⟨_, rfl, _, rfl, z, rfl, (((((ay5.ext x7).ext x8).ext x9).ext x10).ext x11).ext xj, _, lj, ?_, ?_, ?_⟩
        · rw [List.length_map, List.length_replicate]
          exact Nat.lt_of_lt_of_le hj (by decide)
        · exact fun b o e => by
            rw [upd_ne (ne_of_none e hD2)]
            exact xj b o e
        · rw [upd_same, List.replicate_succ', List.map_append] <;> rfl
      rintro H12 ⟨x12, l12⟩
      refine ⟨D2, List.replicate 24 true, rfl, SqL.of l12, _, rfl, ?_⟩
      refine iteF ?_
      have l7b := x12 _ _ (x11 _ _ l7a)
      have l8b := x12 _ _ (x11 _ _ l8a)
      have g7b := (((g78.ext x9).ext x10).ext x11).ext x12
      have g8b := (g8a.ext x11).ext x12
      have x1b : Ext H1 H12 := (((((x6.trans x7).trans x8).trans x9).trans x10).trans x11).trans x12
      -- each error is of one class alone
      refine ⟨_, rfl, _, 24, rfl, .inl ⟨_, SqL.of (x1b _ _ lsp), rfl⟩, 24, rfl, by decide, by decide, for_range (lo := 0) (n := 24)
        (fun _ σ H' => ∃ w8 w11 : Option V, σ = [some (.ref a), some (.ref sp), some (.int (0 + (i : Int))), some (.ref p), some x, some y, some (.ref p7), some (.ref p8), w8, v9, v10, w11, v12] ∧ Ext H12 H') ⟨_, _, rfl, Ext.rfl'⟩ ?_ ?_⟩
      · rintro j σ H' hj ⟨w8, w11, rfl, xj⟩
        obtain ⟨n, k, hn, hk⟩ := spot hj
        have hc : ∃ c, (cl K PL)[j]? = some (ga K n, c) := by
          obtain ⟨c, hc⟩ := hn
          exact ⟨c, by unfold cl; rw [List.getElem?_map, hc] <;> rfl⟩
        obtain ⟨c, hc⟩ := hc
        obtain ⟨b1, h1, e1⟩ := g7b.at_ hc
        obtain ⟨b2, h2, e2⟩ := g8b.at_ hc
        have O := L.owns n (List.mem_of_getElem? hk.2)
        have hsj : (SPT.map fun k => V.int (k : Nat))[j]? = some (V.int (k : Nat)) := by
          rw [List.getElem?_map, hk.1] <;> rfl
        refine ⟨_, rfl, _, rfl, p7, _, _, .ref b1, rfl, rfl, SqL.of (xj _ _ l7b), at_of (Int.zero_add _) (by rw [List.getElem?_map, h1] <;> rfl), _, rfl, _, rfl, sp, _, _, .int (k : Nat), rfl, rfl, SqL.of (xj _ _ (x1b _ _ lsp)), at_of (Int.zero_add _) hsj, ?_⟩
        refine ⟨b1, k, n, rfl, hk.2, .inl ⟨_, _, e1.ext xj⟩, O, fun H13 x13 => ⟨_, rfl, ?_⟩⟩
        refine iteF ?_
        refine ⟨_, rfl, _, rfl, p8, _, _, .ref b2, rfl, rfl, SqL.of (x13 _ _ (xj _ _ l8b)), at_of (Int.zero_add _) (by rw [List.getElem?_map, h2] <;> rfl), _, rfl, _, rfl, sp, _, _, .int (k : Nat), rfl, rfl, SqL.of (x13 _ _ (xj _ _ (x1b _ _ lsp))), at_of (Int.zero_add _) hsj, ?_⟩
        refine ⟨b2, k, n, rfl, hk.2, .inl ⟨_, _, (e2.ext xj).ext x13⟩, O, fun H14 x14 => ⟨_, rfl, ?_⟩⟩
        refine iteF ?_
        exact ⟨_, _, rfl, (xj.trans x13).trans x14⟩
      · rintro σ H' ⟨w8, w11, rfl, xj⟩
        exact ⟨_, _, _, _, _, _, _, _, _, _, _, rfl, x1b.trans xj⟩
    · rintro σ H2 ⟨v2, v3, v4, v5, v6, v7, v8, v9, v10, v11, v12, rfl, x2⟩
      intro a0 n0
      refine ⟨(by show 2 ≤ sizeLine; decide), fun t0 m0 => ?_⟩
      intro a1 n1
      refine ⟨(by show 2 ≤ sizeLine; decide), fun t1 m1 => ?_⟩
      intro a2 n2
      refine ⟨(by show 2 ≤ sizeLine; decide), fun t2 m2 => ⟨(by show 3 ≤ sizeLine; decide), fun pl hpl => ?_⟩⟩
      have y2 := Ext.upd (o := .lst [.ref t0, .ref t1, .ref t2]) hpl
      have y1 := (Ext.upd (o := .tup [.ref a2, .int 25]) m2).trans y2
      have z1 := (Ext.upd (o := ExO (.ref (ga K "NoDeed")) a2) n2).trans y1
      have y0 := (Ext.upd (o := .tup [.ref a1, .int 11]) m1).trans z1
      have z0 := (Ext.upd (o := ExO (.ref (ga K "Misfit")) a1) n1).trans y0
      have w0 := (Ext.upd (o := .tup [.ref a0, .int 7]) m0).trans z0
      have fA0 := w0 _ _ upd_same
      have fT0 := z0 _ _ upd_same
      have fA1 := y0 _ _ upd_same
      have fT1 := z1 _ _ upd_same
      have fA2 := y1 _ _ upd_same
      have fT2 := y2 _ _ upd_same
      have fL := upd_same (H := upd (upd (upd (upd (upd (upd H2 a0 (ExO (.ref (ga K "UnlikeHouses")) a0)) t0 (.tup [.ref a0, .int 7])) a1 (ExO (.ref (ga K "Misfit")) a1)) t1 (.tup [.ref a1, .int 11])) a2 (ExO (.ref (ga K "NoDeed")) a2)) t2 (.tup [.ref a2, .int 25])) (a := pl) (o := .lst [.ref t0, .ref t1, .ref t2])
      obtain ⟨Hf, hHf⟩ : ∃ Hf, Hf = upd (upd (upd (upd (upd (upd (upd H2 a0 (ExO (.ref (ga K "UnlikeHouses")) a0)) t0 (.tup [.ref a0, .int 7])) a1 (ExO (.ref (ga K "Misfit")) a1)) t1 (.tup [.ref a1, .int 11])) a2 (ExO (.ref (ga K "NoDeed")) a2)) t2 (.tup [.ref a2, .int 25])) pl (.lst [.ref t0, .ref t1, .ref t2]) := ⟨_, rfl⟩
      rw [← hHf] at fA0 fT0 fA1 fT1 fA2 fT2 fL
      have each : ∀ (j : Nat) (z : V), ([.ref t0, .ref t1, .ref t2] : List V)[j]? = some z → ∃ (tj aj : Addr) (k : Nat) (n : Str), z = .ref tj ∧ Hf tj = some (.tup [.ref aj, .int (k : Int)]) ∧ Hf aj = some (ExO (.ref (ga K n)) aj) ∧ KN[k]? = some n := by
        intro j z hz
        match j, hz with
        | 0, hz => exact ⟨t0, a0, 7, "UnlikeHouses", (Option.some.inj hz).symm, fT0, fA0, rfl⟩
        | 1, hz => exact ⟨t1, a1, 11, "Misfit", (Option.some.inj hz).symm, fT1, fA1, rfl⟩
        | 2, hz => exact ⟨t2, a2, 25, "NoDeed", (Option.some.inj hz).symm, fT2, fA2, rfl⟩
        | j + 3, hz => simp at hz
      have hl3 : ∀ (j : Nat) (z : V), ([.ref t0, .ref t1, .ref t2] : List V)[j]? = some z → j < 3 := fun j z hz => (List.getElem?_eq_some_iff.mp hz).1
      refine ⟨_, rfl, pl, rfl, ⟨_, SqL.of (by rw [← hHf]; exact fL)⟩, fun D hD => lc_list (xs := [.ref t0, .ref t1, .ref t2]) (fun j H' => Ext Hf H' ∧ H' D = some (.lst ((List.replicate j true).map V.bl))) ⟨by rw [hHf]; exact Ext.upd hD, upd_same⟩ (fun j H' _ ⟨z, _⟩ => SqL.of (z _ _ fL)) ?_ ?_⟩
      · rintro j z H' hz ⟨xj, lj⟩
        obtain ⟨tj, aj, k, n, rfl, ht, ha, hk⟩ := each j z hz
        have hj := hl3 j _ hz
        refine ⟨tj, _, rfl, SqT.of (xj _ _ ht), rfl, _, _, rfl, _, _, rfl, rfl, ?_⟩
        refine ⟨rfl, ?_⟩
        refine lcYes ?_
        refine ⟨_, rfl, _, rfl, aj, k, n, rfl, hk, .inr (xj _ _ ha), L.owns n (List.mem_of_getElem? hk), fun H13 x13 => ⟨_, x13 _ _ lj, ?_, ?_, ?_⟩⟩
        · rw [List.length_map, List.length_replicate]
          exact Nat.lt_of_lt_of_le hj (by decide)
        · exact fun b o e => by
            rw [upd_ne (ne_of_none (by rw [← hHf]; exact e) hD)]
            exact x13 b o (xj b o e)
        · rw [upd_same, List.replicate_succ', List.map_append] <;> rfl
      rintro H3 ⟨x3, l3⟩
      refine ⟨D, List.replicate 3 true, rfl, SqL.of l3, _, rfl, ?_⟩
      refine iteF ?_
      intro ab nb
      have hb : (upd H3 ab (ExO (.ref (ga K "HouseError")) ab)) ab = some (ExO (.ref (ga K "HouseError")) ab) := upd_same
      refine ⟨_, rfl, ab, _, .ty "ValueError", .type "ValueError", true, rfl, ClsV.ty _, .inr hb, L.ownH.xf, L.ownH.kit, L.ownH.ve, _, rfl, ?_⟩
      refine iteT ?_
      refine ⟨_, rfl, ab, _, rfl, .inr hb, L.ownH, fun p H4 x4 l4 => ?_⟩
      have el : (KN.map fun n => V.bl (decide (ga K "HouseError" = ga K n))) = List.replicate 27 (V.bl false) := by
        have e : (KN.map fun n => V.bl (decide (ga K "HouseError" = ga K n))) = KN.map fun _ => V.bl false :=
          List.map_congr_left fun n hn => by rw [decide_eq_false (L.newH n hn)]
        exact e.trans rfl
      rw [el] at l4
      refine ⟨p, _, rfl, .inl (SqL.of l4), rfl, by decide, ?_⟩
      exact q _
end
end My

namespace My
open PySem PySem.Spec PyProof.Rows L2 He
/-! ### what is looked up in the written part, as truths -/
def oexB (K : PySem.W.Frag) (C : Addr) : Bool := (match K.lookup C with
    | some ⟨.type t, _, .cls cd, sl⟩ => decide (t = "type") && (match cd.mro, sl.toList with
      | .ref C' :: bm, [_, _, _, _, some (.builtin n), _] => decide (C' = C) && (decide (n = "ValueError.__new__") && (!cd.hasDel && (cd.hasDict && PySem.HandSPX.refsVE bm)))
      | _, _ => false)
    | _ => false) && (decide (PySem.W.findIn K (.ref C) "__setattr__" = some (some (.builtin "object.__setattr__"))) && (decide (PySem.W.subIn K (.ref C) (.type "BaseException") = some true) &&
    (decide (PySem.W.typeIn K (.ref C) = some (.type "type")) && PySem.W.keepIn K (.ref C))))
theorem oexB_ok {K : PySem.W.Frag} {C : Addr} (h : oexB K C = true) : OexC K C := by
  obtain ⟨h1, h⟩ := ba h
  obtain ⟨h2, h⟩ := ba h
  obtain ⟨h3, h⟩ := ba h
  obtain ⟨h4, h5⟩ := ba h
  refine ⟨?_, of_decide_eq_true h2, of_decide_eq_true h3, of_decide_eq_true h4, h5⟩
  split at h1
  · rename_i t dd cd sl ho
    obtain ⟨k1, k2⟩ := ba h1
    obtain rfl := of_decide_eq_true k1
    split at k2
    · rename_i C' bm k0 k1 k2' k3 n k5 hm hs
      obtain ⟨e1, k2⟩ := ba k2
      obtain ⟨e2, k2⟩ := ba k2
      obtain ⟨e3, k2⟩ := ba k2
      obtain ⟨e4, e5⟩ := ba k2
      obtain rfl := of_decide_eq_true e1
      obtain rfl := of_decide_eq_true e2
      obtain ⟨nm, bs, mro, ns, qn, hd, sn, sub, ab, col, del⟩ := cd
      dsimp only at hm e3 e4
      subst hm
      obtain rfl : hd = true := e4
      obtain rfl : del = false := by
        cases del
        · rfl
        · cases e3
      have hsl : sl = #[k0, k1, k2', k3, some (.builtin "ValueError.__new__"), k5] := by
        obtain ⟨l⟩ := sl
        simp only at hs
        rw [hs]
      subst hsl
      exact ⟨nm, qn, ns, bs, bm, sn, sub, ab, col, dd, k0, k1, k2', k3, k5, ho, e5⟩
    · cases k2
  · cases h1
def kitCB (K : PySem.W.Frag) (C : Addr) : Bool := (PySem.W.clsIn K C).isSome && (decide (PySem.W.findIn K (.ref C) "__class__" = some (some (.builtin "object.__class__"))) &&
  (decide (PySem.W.specialIn K (.builtin "object.__class__") "__get__" = some (some (.builtin "getset_descriptor.__get__"))) && (decide (PySem.W.takesIn K (.builtin "object.__class__") = some true) && decide (PySem.W.mroIn K C (.type "object") = some true))))
theorem kitCB_ok {K : PySem.W.Frag} {C : Addr} (h : kitCB K C = true) : KitC K C := by
  obtain ⟨h1, h⟩ := ba h
  obtain ⟨h2, h⟩ := ba h
  obtain ⟨h3, h⟩ := ba h
  obtain ⟨h4, h5⟩ := ba h
  exact ⟨h1, of_decide_eq_true h2, of_decide_eq_true h3, of_decide_eq_true h4, of_decide_eq_true h5⟩
/-- a class with one field -/
def errB (K : PySem.W.Frag) (x f : Str) : Bool := oexB K (ga K x) && (xfB K (ga K x) && (kitCB K (ga K x) && (decide (PySem.W.findIn K (.ref (ga K x)) "__init__" = some (some (.ref (ma K (ga K x) "__init__")))) &&
  (decide (PySem.W.typeIn K (.ref (ma K (ga K x) "__init__")) = some (.type "function")) && decide (PySem.W.findIn K (.ref (ga K x)) f = some none)))))
theorem errB_ok {K : PySem.W.Frag} {mg : Str → Option Value} {x f : Str} (g : mg x = some (.ref (ga K x))) (h : errB K x f = true) : ErrC K mg x f (ga K x) (ma K (ga K x) "__init__") := by
  obtain ⟨h1, h⟩ := ba h
  obtain ⟨h2, h⟩ := ba h
  obtain ⟨h3, h⟩ := ba h
  obtain ⟨h4, h⟩ := ba h
  obtain ⟨h5, h6⟩ := ba h
  exact ⟨g, oexB_ok h1, xfB_ok h2, kitCB_ok h3, of_decide_eq_true h4, of_decide_eq_true h5, of_decide_eq_true h6⟩
/-- the class's line of bases is l -/
def mroB (K : PySem.W.Frag) (C : Addr) (l : List Value) : Bool := (match PySem.W.clsIn K C with
  | some cd => decide (cd.mro = l)
  | none => false) && decide (PySem.W.typeIn K (.ref C) = some (.type "type"))
def ownB (K : PySem.W.Frag) (x : Str) (l : List Value) : Bool := xfB K (ga K x) && (kitCB K (ga K x) && mroB K (ga K x) l)
theorem kit_of_mro {K : PySem.W.Frag} {C D : Addr} {l m : List Value} (hC : mroB K C l = true) (hD : mroB K D m = true) (hl : l.isEmpty = false) (hc : C = D → l.contains (.ref D) = true) :
    PySem.W.kitOne K (.ref C) (.ref D) = some (l.contains (.ref D)) := by
  obtain ⟨c1, c2⟩ := ba hC
  obtain ⟨d1, d2⟩ := ba hD
  unfold PySem.W.kitOne
  by_cases e : C = D
  · rw [if_pos (by rw [e]; exact beq_self_eq_true _), hc e]
  · rw [if_neg (by intro z; exact e (Value.ref.inj (eq_of_beq z)))]
    have hs : (PySem.W.clsIn K D).isSome = true := by
      cases q : PySem.W.clsIn K D with
      | none =>
        rw [q] at d1
        cases d1
      | some _ => rfl
    have ht : (PySem.W.typeIn K (.ref D) == some (.type "type")) = true := by
      rw [of_decide_eq_true d2]
      exact beq_self_eq_true _
    show (if ((PySem.W.clsIn K D).isSome && PySem.W.typeIn K (.ref D) == some (.type "type")) = true then PySem.W.subIn K (.ref C) (.ref D) else none) = _
    rw [hs, ht, if_pos (by rfl)]
    show PySem.W.mroIn K C (.ref D) = _
    unfold PySem.W.mroIn
    cases q : PySem.W.clsIn K C with
    | none =>
      rw [q] at c1
      cases c1
    | some cd =>
      rw [q] at c1
      have c3 : cd.mro = l := of_decide_eq_true c1
      rw [Option.bind_some, c3, hl]
      rfl
theorem kit_of_ve {K : PySem.W.Frag} {C : Addr} {l : List Value} (hC : mroB K C l = true) (hl : l.isEmpty = false) (hv : l.contains (.type "ValueError") = true) : PySem.W.kitOne K (.ref C) (.type "ValueError") = some true := by
  obtain ⟨c1, c2⟩ := ba hC
  unfold PySem.W.kitOne
  rw [if_neg (by intro z; cases (eq_of_beq z))]
  show (if PySem.W.kitMeta "ValueError" = true then PySem.W.subIn K (.ref C) (.type "ValueError") else none) = _
  rw [if_pos (by decide +kernel)]
  show PySem.W.mroIn K C (.type "ValueError") = _
  unfold PySem.W.mroIn
  cases q : PySem.W.clsIn K C with
  | none =>
    rw [q] at c1
    cases c1
  | some cd =>
    rw [q] at c1
    have c3 : cd.mro = l := of_decide_eq_true c1
    rw [Option.bind_some, c3, hl, hv]
    rfl
def lineOf (K : PySem.W.Frag) (x : Str) : List Value := .ref (ga K x) :: .ref (ga K "HouseError") :: PySem.HandSPX.veTail
def lineH (K : PySem.W.Frag) : List Value := .ref (ga K "HouseError") :: PySem.HandSPX.veTail
def exB (K : PySem.W.Frag) : Bool := (PL.all fun c => errB K c.1 c.2) && ((KN.all fun n => ownB K n (lineOf K n)) && (ownB K "HouseError" (lineH K) && (decide ((("HouseError" : Str) :: KN).map (ga K)).Nodup &&
  (["UnlikeHouses", "Misfit", "NoDeed", "HouseError"] : List Str).all fun n => PySem.W.excIn K (ga K n) PySem.HandSPX.veTail "ValueError.__new__")))
theorem cont_ref {D : Addr} : PySem.HandSPX.veTail.contains (.ref D) = false := by
  rfl
theorem owns_ok {K : PySem.W.Frag} (h : exB K = true) : (∀ n ∈ KN, OwnC K (ga K n)) ∧ OwnC K (ga K "HouseError") ∧ (∀ n ∈ KN, ga K "HouseError" ≠ ga K n) ∧ (KN.map (ga K)).Nodup := by
  obtain ⟨_, h⟩ := ba h
  obtain ⟨hk, h⟩ := ba h
  obtain ⟨hh, h⟩ := ba h
  obtain ⟨hn, _⟩ := ba h
  have nd := of_decide_eq_true hn
  rw [List.map_cons, List.nodup_cons] at nd
  have nH : ∀ n ∈ KN, ga K "HouseError" ≠ ga K n := fun n hn e => nd.1 (by rw [e]; exact List.mem_map_of_mem hn)
  have each : ∀ n ∈ KN, ownB K n (lineOf K n) = true := List.all_eq_true.mp hk
  obtain ⟨h1, h2⟩ := ba hh
  obtain ⟨h3, h4⟩ := ba h2
  have hHE : (lineH K).contains (.ref (ga K "HouseError")) = true := by
    show ((Value.ref (ga K "HouseError")) == (Value.ref (ga K "HouseError")) || _) = true
    rw [beq_self_eq_true, Bool.true_or]
  refine ⟨fun n hn => ?_, ?_, nH, nd.2⟩
  · obtain ⟨k1, k2⟩ := ba (each n hn)
    obtain ⟨k3, k4⟩ := ba k2
    have self : (lineOf K n).contains (.ref (ga K n)) = true := by
      unfold lineOf
      rw [List.contains_cons, beq_self_eq_true, Bool.true_or]
    refine ⟨xfB_ok k1, kitCB_ok k3, fun m hm => ?_, ?_, kit_of_ve k4 rfl ?_⟩
    · obtain ⟨_, m2⟩ := ba (each m hm)
      obtain ⟨_, m4⟩ := ba m2
      rw [kit_of_mro k4 m4 rfl (fun e => by rw [← e]; exact self)]
      congr 1
      unfold lineOf
      rw [List.contains_cons, List.contains_cons, cont_ref, Bool.or_false]
      have e2 : (Value.ref (ga K m) == Value.ref (ga K "HouseError")) = false := by
        rw [beq_eq_false_iff_ne]
        intro z
        exact nH m hm (Value.ref.inj z).symm
      rw [e2, Bool.or_false]
      by_cases e : ga K n = ga K m
      · rw [e, decide_eq_true rfl]
        exact beq_self_eq_true _
      · rw [decide_eq_false e, beq_eq_false_iff_ne]
        intro z
        exact e (Value.ref.inj z).symm
    · rw [kit_of_mro k4 h4 rfl (fun e => absurd e.symm (nH n hn))]
      congr 1
      unfold lineOf
      rw [List.contains_cons, List.contains_cons, beq_self_eq_true, Bool.true_or, Bool.or_true]
    · unfold lineOf
      rw [List.contains_cons, List.contains_cons]
      show (_ || (_ || true)) = true
      rw [Bool.or_true, Bool.or_true]
  · refine ⟨xfB_ok h1, kitCB_ok h3, fun m hm => ?_, ?_, kit_of_ve h4 rfl ?_⟩
    · obtain ⟨_, m2⟩ := ba (each m hm)
      obtain ⟨_, m4⟩ := ba m2
      rw [kit_of_mro h4 m4 rfl (fun e => absurd e (nH m hm)), decide_eq_false (nH m hm)]
      congr 1
      unfold lineH
      rw [List.contains_cons, cont_ref, Bool.or_false, beq_eq_false_iff_ne]
      intro z
      exact nH m hm (Value.ref.inj z).symm
    · rw [kit_of_mro h4 h4 rfl (fun _ => hHE), hHE]
    · unfold lineH
      rw [List.contains_cons]
      show (_ || true) = true
      rw [Bool.or_true]
/-! ### the look at the head: facts, defs, and one more truth -/
abbrev AlM : Type := AlD × Bool
def seenM (fa : List Fa) (fn : List DefD) (ex : PySem.W.Frag → Bool) (K : PySem.W.Frag) : AlM := (obsD fa fn K, ex K)
def seenMG (n : Nat) (fa : List Fa) (fn : List DefD) (ex : PySem.W.Frag → Bool) (g : Addr → Option Obj) : AlM := seenM fa fn ex (frG g (asD g n))
def hookM (n : Nat) (fa : List Fa) (fn : List DefD) (ex : PySem.W.Frag → Bool) : PySem.W.Hook where
  α := AlM
  obs := fun s => seenMG n fa fn ex s.heap.get?
  val := fun _ => (valD fn, true)
  says := fun _ h => ∃ K : PySem.W.Frag, K.In h ∧ (SaysD fa fn K ∧ ex K = true)
  of := fun _ _ e => ⟨_, frG_in, congrArg (fun z : AlM => z.1) e, congrArg (fun z : AlM => z.2) e⟩
  keeps := fun _ _ _ ⟨K, hK, c⟩ k => ⟨K, PySem.W.Frag.In.keeps hK k, c⟩
theorem seenMG_eq {n : Nat} {fa : List Fa} {fn : List DefD} {ex : PySem.W.Frag → Bool} {g : Addr → Option Obj} {s : Shared} (h : ∀ a, g a = s.heap.get? a) : seenMG n fa fn ex g = (hookM n fa fn ex).obs s := by
  have e : g = s.heap.get? := funext h
  rw [e] <;> rfl
abbrev s_BadHouse : Stmt := inClass (top 2) 0
def d_BadHouse : DefD := ⟨("BadHouse", some "__init__"), "__init__", "BadHouse.__init__", defArgs s_BadHouse, defBody s_BadHouse, defScope s_BadHouse, [], []⟩
abbrev s_NoNode : Stmt := inClass (top 3) 0
def d_NoNode : DefD := ⟨("NoNode", some "__init__"), "__init__", "NoNode.__init__", defArgs s_NoNode, defBody s_NoNode, defScope s_NoNode, [], []⟩
abbrev s_NoFolder : Stmt := inClass (top 4) 0
def d_NoFolder : DefD := ⟨("NoFolder", some "__init__"), "__init__", "NoFolder.__init__", defArgs s_NoFolder, defBody s_NoFolder, defScope s_NoFolder, [], []⟩
abbrev s_NoThing : Stmt := inClass (top 5) 0
def d_NoThing : DefD := ⟨("NoThing", some "__init__"), "__init__", "NoThing.__init__", defArgs s_NoThing, defBody s_NoThing, defScope s_NoThing, [], []⟩
abbrev s_Ringed : Stmt := inClass (top 6) 0
def d_Ringed : DefD := ⟨("Ringed", some "__init__"), "__init__", "Ringed.__init__", defArgs s_Ringed, defBody s_Ringed, defScope s_Ringed, [], []⟩
abbrev s_BadFact : Stmt := inClass (top 7) 0
def d_BadFact : DefD := ⟨("BadFact", some "__init__"), "__init__", "BadFact.__init__", defArgs s_BadFact, defBody s_BadFact, defScope s_BadFact, [], []⟩
abbrev s_BadIndex : Stmt := inClass (top 8) 0
def d_BadIndex : DefD := ⟨("BadIndex", some "__init__"), "__init__", "BadIndex.__init__", defArgs s_BadIndex, defBody s_BadIndex, defScope s_BadIndex, [], []⟩
abbrev s_Unfit : Stmt := inClass (top 10) 0
def d_Unfit : DefD := ⟨("Unfit", some "__init__"), "__init__", "Unfit.__init__", defArgs s_Unfit, defBody s_Unfit, defScope s_Unfit, [], []⟩
abbrev s_BadPair : Stmt := inClass (top 11) 0
def d_BadPair : DefD := ⟨("BadPair", some "__init__"), "__init__", "BadPair.__init__", defArgs s_BadPair, defBody s_BadPair, defScope s_BadPair, [], []⟩
abbrev s_NoSuch : Stmt := inClass (top 12) 0
def d_NoSuch : DefD := ⟨("NoSuch", some "__init__"), "__init__", "NoSuch.__init__", defArgs s_NoSuch, defBody s_NoSuch, defScope s_NoSuch, [], []⟩
abbrev s_BadName : Stmt := inClass (top 14) 0
def d_BadName : DefD := ⟨("BadName", some "__init__"), "__init__", "BadName.__init__", defArgs s_BadName, defBody s_BadName, defScope s_BadName, [], []⟩
abbrev s_Taken : Stmt := inClass (top 15) 0
def d_Taken : DefD := ⟨("Taken", some "__init__"), "__init__", "Taken.__init__", defArgs s_Taken, defBody s_Taken, defScope s_Taken, [], []⟩
abbrev s_NoLink : Stmt := inClass (top 16) 0
def d_NoLink : DefD := ⟨("NoLink", some "__init__"), "__init__", "NoLink.__init__", defArgs s_NoLink, defBody s_NoLink, defScope s_NoLink, [], []⟩
abbrev s_BadVerbs : Stmt := inClass (top 17) 0
def d_BadVerbs : DefD := ⟨("BadVerbs", some "__init__"), "__init__", "BadVerbs.__init__", defArgs s_BadVerbs, defBody s_BadVerbs, defScope s_BadVerbs, [], []⟩
abbrev s_BadDay : Stmt := inClass (top 18) 0
def d_BadDay : DefD := ⟨("BadDay", some "__init__"), "__init__", "BadDay.__init__", defArgs s_BadDay, defBody s_BadDay, defScope s_BadDay, [], []⟩
abbrev s_BadAnswer : Stmt := inClass (top 19) 0
def d_BadAnswer : DefD := ⟨("BadAnswer", some "__init__"), "__init__", "BadAnswer.__init__", defArgs s_BadAnswer, defBody s_BadAnswer, defScope s_BadAnswer, [], []⟩
abbrev s_Wider : Stmt := inClass (top 20) 0
def d_Wider : DefD := ⟨("Wider", some "__init__"), "__init__", "Wider.__init__", defArgs s_Wider, defBody s_Wider, defScope s_Wider, [], []⟩
abbrev s_NotLet : Stmt := inClass (top 21) 0
def d_NotLet : DefD := ⟨("NotLet", some "__init__"), "__init__", "NotLet.__init__", defArgs s_NotLet, defBody s_NotLet, defScope s_NotLet, [], []⟩
abbrev s_Quarrel : Stmt := inClass (top 22) 0
def d_Quarrel : DefD := ⟨("Quarrel", some "__init__"), "__init__", "Quarrel.__init__", defArgs s_Quarrel, defBody s_Quarrel, defScope s_Quarrel, [], []⟩
abbrev s_BadDeed : Stmt := inClass (top 23) 0
def d_BadDeed : DefD := ⟨("BadDeed", some "__init__"), "__init__", "BadDeed.__init__", defArgs s_BadDeed, defBody s_BadDeed, defScope s_BadDeed, [], []⟩
abbrev s_BadWish : Stmt := inClass (top 24) 0
def d_BadWish : DefD := ⟨("BadWish", some "__init__"), "__init__", "BadWish.__init__", defArgs s_BadWish, defBody s_BadWish, defScope s_BadWish, [], []⟩
abbrev s_Held : Stmt := inClass (top 25) 0
def d_Held : DefD := ⟨("Held", some "__init__"), "__init__", "Held.__init__", defArgs s_Held, defBody s_Held, defScope s_Held, [], []⟩
abbrev s_NotHeld : Stmt := inClass (top 26) 0
def d_NotHeld : DefD := ⟨("NotHeld", some "__init__"), "__init__", "NotHeld.__init__", defArgs s_NotHeld, defBody s_NotHeld, defScope s_NotHeld, [], []⟩
abbrev s_BadText : Stmt := inClass (top 28) 0
def d_BadText : DefD := ⟨("BadText", some "__init__"), "__init__", "BadText.__init__", defArgs s_BadText, defBody s_BadText, defScope s_BadText, [], []⟩
def d_law_cell : DefD := ⟨("_law_cell", none), "_law_cell", "_law_cell", defArgs (top 30), defBody (top 30), defScope (top 30), [], []⟩
def d_law_pool : DefD := ⟨("_law_pool", none), "_law_pool", "_law_pool", defArgs (top 31), defBody (top 31), defScope (top 31), [], []⟩
def d_law_take : DefD := ⟨("_law_take", none), "_law_take", "_law_take", defArgs (top 32), defBody (top 32), defScope (top 32), [], []⟩
def d_law_any : DefD := ⟨("_law_any", none), "_law_any", "_law_any", defArgs (top 33), defBody (top 33), defScope (top 33), [], []⟩
def d_law_by_place : DefD := ⟨("_law_by_place", none), "_law_by_place", "_law_by_place", defArgs (top 34), defBody (top 34), defScope (top 34), [], []⟩
def d_law_by_name : DefD := ⟨("_law_by_name", none), "_law_by_name", "_law_by_name", defArgs (top 35), defBody (top 35), defScope (top 35), [], []⟩
def d_law_fields : DefD := ⟨("_law_fields", none), "_law_fields", "_law_fields", defArgs (top 36), defBody (top 36), defScope (top 36), [], []⟩
def d_law_kinds : DefD := ⟨("_law_kinds", none), "_law_kinds", "_law_kinds", defArgs (top 37), defBody (top 37), defScope (top 37), [], []⟩
def d_law_is_own : DefD := ⟨("_law_is_own", none), "_law_is_own", "_law_is_own", defArgs (top 38), defBody (top 38), defScope (top 38), [], []⟩
def d_law_same : DefD := ⟨("_law_same", none), "_law_same", "_law_same", defArgs (top 39), defBody (top 39), defScope (top 39), [], []⟩
def d_law : DefD := ⟨("law", none), "law", "law", defArgs (top 40), defBody (top 40), defScope (top 40), [], []⟩
def fn : List DefD := [d_BadHouse, d_NoNode, d_NoFolder, d_NoThing, d_Ringed, d_BadFact, d_BadIndex, d_Unfit, d_BadPair, d_NoSuch, d_BadName, d_Taken, d_NoLink, d_BadVerbs, d_BadDay, d_BadAnswer, d_Wider, d_NotLet, d_Quarrel, d_BadDeed, d_BadWish, d_Held, d_NotHeld, d_BadText, d_law_cell, d_law_pool, d_law_take, d_law_any, d_law_by_place, d_law_by_name, d_law_fields, d_law_kinds, d_law_is_own, d_law_same, d_law]
def fa : List Fa := [.glo "HouseError", .glo "BadHouse", .glo "NoNode", .glo "NoFolder", .glo "NoThing", .glo "Ringed", .glo "BadFact", .glo "BadIndex", .glo "UnlikeHouses", .glo "Unfit", .glo "BadPair", .glo "NoSuch", .glo "Misfit", .glo "BadName", .glo "Taken", .glo "NoLink", .glo "BadVerbs", .glo "BadDay", .glo "BadAnswer", .glo "Wider", .glo "NotLet", .glo "Quarrel", .glo "BadDeed", .glo "BadWish", .glo "Held", .glo "NotHeld", .glo "NoDeed", .glo "BadText", .glo "_law_cell", .glo "_law_pool", .glo "_law_take", .glo "_law_any", .glo "_law_by_place", .glo "_law_by_name", .glo "_law_fields", .glo "_law_kinds", .glo "_law_is_own", .glo "_law_same", .glo "law", .free "int", .free "len", .free "isinstance", .free "range", .free "all", .free "bool", .free "ValueError", .keep "HouseError", .keep "UnlikeHouses", .keep "Misfit", .keep "NoDeed"]
def loose : List PySem.Str := ((["HouseError", "BadHouse", "NoNode", "NoFolder", "NoThing", "Ringed", "BadFact", "BadIndex", "UnlikeHouses", "Unfit", "BadPair", "NoSuch", "Misfit", "BadName", "Taken", "NoLink", "BadVerbs", "BadDay", "BadAnswer", "Wider"] : List PySem.Str) ++ (["NotLet", "Quarrel", "BadDeed", "BadWish", "Held", "NotHeld", "NoDeed", "BadText", "_law_cell", "_law_pool", "_law_take", "_law_any", "_law_by_place", "_law_by_name", "_law_fields", "_law_kinds", "_law_is_own", "_law_same"] : List PySem.Str))
abbrev Rw : PySem.W.OpenRow := PySem.W.OpenLaw.row PySem.Challenge.rw_whatopened_k01_errors_made
abbrev hk : PySem.W.Hook := hookM 5 fa fn exB
def ob (s : PySem.W.SharedT) : AlM := seenMG 5 fa fn exB (HandSHeadRun.getT s)
theorem ob_eq (s : PySem.W.SharedT) : ob s = hk.obs s.abs := seenMG_eq (HandSHeadRun.getT_eq s)
section
variable {P : Program} {w : World} {K : PySem.W.Frag} {h : Heap} {mg : Str → Option Value} {base : Heap}
theorem ers (X : K.In h) (G : h.Ns mainGlobals mg) (c : SaysD fa fn K) (e : exB K = true) : ∀ c ∈ PL, Er P w K mg base c.1 c.2 (ga K c.1) := by
  have eb := List.all_eq_true.mp (ba e).1
  have E_BadHouse : Er P w K mg base "BadHouse" "index" (ga K "BadHouse") := by
    have T := errB_ok (glo_ok X G (c.fact 1 (f := .glo "BadHouse") rfl)) (eb ("BadHouse", "index") (List.mem_of_getElem? (i := 0) rfl))
    obtain ⟨fd, F⟩ := c.def_ 0 (d := d_BadHouse) rfl
    have S : FnScope ["self", "index"] ["self", "index"] (defScope s_BadHouse) := ⟨rfl, rfl, rfl, by decide +kernel, rfl, by decide +kernel, by decide +kernel⟩
    refine ⟨_, fd, T, ok_init (st := s_BadHouse) (qual := "BadHouse.__init__") T F S ⟨_, _, _, _, rfl⟩ (by decide) (by decide), FunD.bindsN F fun _ _ _ _ _ _ us hl => match us, hl with | [_, _], _ => rfl, fun s u v _ => ?_⟩
    obtain ⟨oc, od, dV, kV, doc, pm, an, cdv, ct, osl, rfl, lk, hcd, hD, hK⟩ := F.ex
    rcases hD with ⟨_, rfl⟩ | ⟨z, _⟩
    · exact .of_eq rfl
    · exact absurd rfl z
  have E_NoNode : Er P w K mg base "NoNode" "node" (ga K "NoNode") := by
    have T := errB_ok (glo_ok X G (c.fact 2 (f := .glo "NoNode") rfl)) (eb ("NoNode", "node") (List.mem_of_getElem? (i := 1) rfl))
    obtain ⟨fd, F⟩ := c.def_ 1 (d := d_NoNode) rfl
    have S : FnScope ["self", "node"] ["self", "node"] (defScope s_NoNode) := ⟨rfl, rfl, rfl, by decide +kernel, rfl, by decide +kernel, by decide +kernel⟩
    refine ⟨_, fd, T, ok_init (st := s_NoNode) (qual := "NoNode.__init__") T F S ⟨_, _, _, _, rfl⟩ (by decide) (by decide), FunD.bindsN F fun _ _ _ _ _ _ us hl => match us, hl with | [_, _], _ => rfl, fun s u v _ => ?_⟩
    obtain ⟨oc, od, dV, kV, doc, pm, an, cdv, ct, osl, rfl, lk, hcd, hD, hK⟩ := F.ex
    rcases hD with ⟨_, rfl⟩ | ⟨z, _⟩
    · exact .of_eq rfl
    · exact absurd rfl z
  have E_NoFolder : Er P w K mg base "NoFolder" "folder" (ga K "NoFolder") := by
    have T := errB_ok (glo_ok X G (c.fact 3 (f := .glo "NoFolder") rfl)) (eb ("NoFolder", "folder") (List.mem_of_getElem? (i := 2) rfl))
    obtain ⟨fd, F⟩ := c.def_ 2 (d := d_NoFolder) rfl
    have S : FnScope ["self", "folder"] ["self", "folder"] (defScope s_NoFolder) := ⟨rfl, rfl, rfl, by decide +kernel, rfl, by decide +kernel, by decide +kernel⟩
    refine ⟨_, fd, T, ok_init (st := s_NoFolder) (qual := "NoFolder.__init__") T F S ⟨_, _, _, _, rfl⟩ (by decide) (by decide), FunD.bindsN F fun _ _ _ _ _ _ us hl => match us, hl with | [_, _], _ => rfl, fun s u v _ => ?_⟩
    obtain ⟨oc, od, dV, kV, doc, pm, an, cdv, ct, osl, rfl, lk, hcd, hD, hK⟩ := F.ex
    rcases hD with ⟨_, rfl⟩ | ⟨z, _⟩
    · exact .of_eq rfl
    · exact absurd rfl z
  have E_NoThing : Er P w K mg base "NoThing" "thing" (ga K "NoThing") := by
    have T := errB_ok (glo_ok X G (c.fact 4 (f := .glo "NoThing") rfl)) (eb ("NoThing", "thing") (List.mem_of_getElem? (i := 3) rfl))
    obtain ⟨fd, F⟩ := c.def_ 3 (d := d_NoThing) rfl
    have S : FnScope ["self", "thing"] ["self", "thing"] (defScope s_NoThing) := ⟨rfl, rfl, rfl, by decide +kernel, rfl, by decide +kernel, by decide +kernel⟩
    refine ⟨_, fd, T, ok_init (st := s_NoThing) (qual := "NoThing.__init__") T F S ⟨_, _, _, _, rfl⟩ (by decide) (by decide), FunD.bindsN F fun _ _ _ _ _ _ us hl => match us, hl with | [_, _], _ => rfl, fun s u v _ => ?_⟩
    obtain ⟨oc, od, dV, kV, doc, pm, an, cdv, ct, osl, rfl, lk, hcd, hD, hK⟩ := F.ex
    rcases hD with ⟨_, rfl⟩ | ⟨z, _⟩
    · exact .of_eq rfl
    · exact absurd rfl z
  have E_Ringed : Er P w K mg base "Ringed" "folders" (ga K "Ringed") := by
    have T := errB_ok (glo_ok X G (c.fact 5 (f := .glo "Ringed") rfl)) (eb ("Ringed", "folders") (List.mem_of_getElem? (i := 4) rfl))
    obtain ⟨fd, F⟩ := c.def_ 4 (d := d_Ringed) rfl
    have S : FnScope ["self", "folders"] ["self", "folders"] (defScope s_Ringed) := ⟨rfl, rfl, rfl, by decide +kernel, rfl, by decide +kernel, by decide +kernel⟩
    refine ⟨_, fd, T, ok_init (st := s_Ringed) (qual := "Ringed.__init__") T F S ⟨_, _, _, _, rfl⟩ (by decide) (by decide), FunD.bindsN F fun _ _ _ _ _ _ us hl => match us, hl with | [_, _], _ => rfl, fun s u v _ => ?_⟩
    obtain ⟨oc, od, dV, kV, doc, pm, an, cdv, ct, osl, rfl, lk, hcd, hD, hK⟩ := F.ex
    rcases hD with ⟨_, rfl⟩ | ⟨z, _⟩
    · exact .of_eq rfl
    · exact absurd rfl z
  have E_BadFact : Er P w K mg base "BadFact" "index" (ga K "BadFact") := by
    have T := errB_ok (glo_ok X G (c.fact 6 (f := .glo "BadFact") rfl)) (eb ("BadFact", "index") (List.mem_of_getElem? (i := 5) rfl))
    obtain ⟨fd, F⟩ := c.def_ 5 (d := d_BadFact) rfl
    have S : FnScope ["self", "index"] ["self", "index"] (defScope s_BadFact) := ⟨rfl, rfl, rfl, by decide +kernel, rfl, by decide +kernel, by decide +kernel⟩
    refine ⟨_, fd, T, ok_init (st := s_BadFact) (qual := "BadFact.__init__") T F S ⟨_, _, _, _, rfl⟩ (by decide) (by decide), FunD.bindsN F fun _ _ _ _ _ _ us hl => match us, hl with | [_, _], _ => rfl, fun s u v _ => ?_⟩
    obtain ⟨oc, od, dV, kV, doc, pm, an, cdv, ct, osl, rfl, lk, hcd, hD, hK⟩ := F.ex
    rcases hD with ⟨_, rfl⟩ | ⟨z, _⟩
    · exact .of_eq rfl
    · exact absurd rfl z
  have E_BadIndex : Er P w K mg base "BadIndex" "thing" (ga K "BadIndex") := by
    have T := errB_ok (glo_ok X G (c.fact 7 (f := .glo "BadIndex") rfl)) (eb ("BadIndex", "thing") (List.mem_of_getElem? (i := 6) rfl))
    obtain ⟨fd, F⟩ := c.def_ 6 (d := d_BadIndex) rfl
    have S : FnScope ["self", "thing"] ["self", "thing"] (defScope s_BadIndex) := ⟨rfl, rfl, rfl, by decide +kernel, rfl, by decide +kernel, by decide +kernel⟩
    refine ⟨_, fd, T, ok_init (st := s_BadIndex) (qual := "BadIndex.__init__") T F S ⟨_, _, _, _, rfl⟩ (by decide) (by decide), FunD.bindsN F fun _ _ _ _ _ _ us hl => match us, hl with | [_, _], _ => rfl, fun s u v _ => ?_⟩
    obtain ⟨oc, od, dV, kV, doc, pm, an, cdv, ct, osl, rfl, lk, hcd, hD, hK⟩ := F.ex
    rcases hD with ⟨_, rfl⟩ | ⟨z, _⟩
    · exact .of_eq rfl
    · exact absurd rfl z
  have E_Unfit : Er P w K mg base "Unfit" "nodes" (ga K "Unfit") := by
    have T := errB_ok (glo_ok X G (c.fact 9 (f := .glo "Unfit") rfl)) (eb ("Unfit", "nodes") (List.mem_of_getElem? (i := 7) rfl))
    obtain ⟨fd, F⟩ := c.def_ 7 (d := d_Unfit) rfl
    have S : FnScope ["self", "nodes"] ["self", "nodes"] (defScope s_Unfit) := ⟨rfl, rfl, rfl, by decide +kernel, rfl, by decide +kernel, by decide +kernel⟩
    refine ⟨_, fd, T, ok_init (st := s_Unfit) (qual := "Unfit.__init__") T F S ⟨_, _, _, _, rfl⟩ (by decide) (by decide), FunD.bindsN F fun _ _ _ _ _ _ us hl => match us, hl with | [_, _], _ => rfl, fun s u v _ => ?_⟩
    obtain ⟨oc, od, dV, kV, doc, pm, an, cdv, ct, osl, rfl, lk, hcd, hD, hK⟩ := F.ex
    rcases hD with ⟨_, rfl⟩ | ⟨z, _⟩
    · exact .of_eq rfl
    · exact absurd rfl z
  have E_BadPair : Er P w K mg base "BadPair" "index" (ga K "BadPair") := by
    have T := errB_ok (glo_ok X G (c.fact 10 (f := .glo "BadPair") rfl)) (eb ("BadPair", "index") (List.mem_of_getElem? (i := 8) rfl))
    obtain ⟨fd, F⟩ := c.def_ 8 (d := d_BadPair) rfl
    have S : FnScope ["self", "index"] ["self", "index"] (defScope s_BadPair) := ⟨rfl, rfl, rfl, by decide +kernel, rfl, by decide +kernel, by decide +kernel⟩
    refine ⟨_, fd, T, ok_init (st := s_BadPair) (qual := "BadPair.__init__") T F S ⟨_, _, _, _, rfl⟩ (by decide) (by decide), FunD.bindsN F fun _ _ _ _ _ _ us hl => match us, hl with | [_, _], _ => rfl, fun s u v _ => ?_⟩
    obtain ⟨oc, od, dV, kV, doc, pm, an, cdv, ct, osl, rfl, lk, hcd, hD, hK⟩ := F.ex
    rcases hD with ⟨_, rfl⟩ | ⟨z, _⟩
    · exact .of_eq rfl
    · exact absurd rfl z
  have E_NoSuch : Er P w K mg base "NoSuch" "number" (ga K "NoSuch") := by
    have T := errB_ok (glo_ok X G (c.fact 11 (f := .glo "NoSuch") rfl)) (eb ("NoSuch", "number") (List.mem_of_getElem? (i := 9) rfl))
    obtain ⟨fd, F⟩ := c.def_ 9 (d := d_NoSuch) rfl
    have S : FnScope ["self", "number"] ["self", "number"] (defScope s_NoSuch) := ⟨rfl, rfl, rfl, by decide +kernel, rfl, by decide +kernel, by decide +kernel⟩
    refine ⟨_, fd, T, ok_init (st := s_NoSuch) (qual := "NoSuch.__init__") T F S ⟨_, _, _, _, rfl⟩ (by decide) (by decide), FunD.bindsN F fun _ _ _ _ _ _ us hl => match us, hl with | [_, _], _ => rfl, fun s u v _ => ?_⟩
    obtain ⟨oc, od, dV, kV, doc, pm, an, cdv, ct, osl, rfl, lk, hcd, hD, hK⟩ := F.ex
    rcases hD with ⟨_, rfl⟩ | ⟨z, _⟩
    · exact .of_eq rfl
    · exact absurd rfl z
  have E_BadName : Er P w K mg base "BadName" "name" (ga K "BadName") := by
    have T := errB_ok (glo_ok X G (c.fact 13 (f := .glo "BadName") rfl)) (eb ("BadName", "name") (List.mem_of_getElem? (i := 10) rfl))
    obtain ⟨fd, F⟩ := c.def_ 10 (d := d_BadName) rfl
    have S : FnScope ["self", "name"] ["self", "name"] (defScope s_BadName) := ⟨rfl, rfl, rfl, by decide +kernel, rfl, by decide +kernel, by decide +kernel⟩
    refine ⟨_, fd, T, ok_init (st := s_BadName) (qual := "BadName.__init__") T F S ⟨_, _, _, _, rfl⟩ (by decide) (by decide), FunD.bindsN F fun _ _ _ _ _ _ us hl => match us, hl with | [_, _], _ => rfl, fun s u v _ => ?_⟩
    obtain ⟨oc, od, dV, kV, doc, pm, an, cdv, ct, osl, rfl, lk, hcd, hD, hK⟩ := F.ex
    rcases hD with ⟨_, rfl⟩ | ⟨z, _⟩
    · exact .of_eq rfl
    · exact absurd rfl z
  have E_Taken : Er P w K mg base "Taken" "name" (ga K "Taken") := by
    have T := errB_ok (glo_ok X G (c.fact 14 (f := .glo "Taken") rfl)) (eb ("Taken", "name") (List.mem_of_getElem? (i := 11) rfl))
    obtain ⟨fd, F⟩ := c.def_ 11 (d := d_Taken) rfl
    have S : FnScope ["self", "name"] ["self", "name"] (defScope s_Taken) := ⟨rfl, rfl, rfl, by decide +kernel, rfl, by decide +kernel, by decide +kernel⟩
    refine ⟨_, fd, T, ok_init (st := s_Taken) (qual := "Taken.__init__") T F S ⟨_, _, _, _, rfl⟩ (by decide) (by decide), FunD.bindsN F fun _ _ _ _ _ _ us hl => match us, hl with | [_, _], _ => rfl, fun s u v _ => ?_⟩
    obtain ⟨oc, od, dV, kV, doc, pm, an, cdv, ct, osl, rfl, lk, hcd, hD, hK⟩ := F.ex
    rcases hD with ⟨_, rfl⟩ | ⟨z, _⟩
    · exact .of_eq rfl
    · exact absurd rfl z
  have E_NoLink : Er P w K mg base "NoLink" "name" (ga K "NoLink") := by
    have T := errB_ok (glo_ok X G (c.fact 15 (f := .glo "NoLink") rfl)) (eb ("NoLink", "name") (List.mem_of_getElem? (i := 12) rfl))
    obtain ⟨fd, F⟩ := c.def_ 12 (d := d_NoLink) rfl
    have S : FnScope ["self", "name"] ["self", "name"] (defScope s_NoLink) := ⟨rfl, rfl, rfl, by decide +kernel, rfl, by decide +kernel, by decide +kernel⟩
    refine ⟨_, fd, T, ok_init (st := s_NoLink) (qual := "NoLink.__init__") T F S ⟨_, _, _, _, rfl⟩ (by decide) (by decide), FunD.bindsN F fun _ _ _ _ _ _ us hl => match us, hl with | [_, _], _ => rfl, fun s u v _ => ?_⟩
    obtain ⟨oc, od, dV, kV, doc, pm, an, cdv, ct, osl, rfl, lk, hcd, hD, hK⟩ := F.ex
    rcases hD with ⟨_, rfl⟩ | ⟨z, _⟩
    · exact .of_eq rfl
    · exact absurd rfl z
  have E_BadVerbs : Er P w K mg base "BadVerbs" "verbs" (ga K "BadVerbs") := by
    have T := errB_ok (glo_ok X G (c.fact 16 (f := .glo "BadVerbs") rfl)) (eb ("BadVerbs", "verbs") (List.mem_of_getElem? (i := 13) rfl))
    obtain ⟨fd, F⟩ := c.def_ 13 (d := d_BadVerbs) rfl
    have S : FnScope ["self", "verbs"] ["self", "verbs"] (defScope s_BadVerbs) := ⟨rfl, rfl, rfl, by decide +kernel, rfl, by decide +kernel, by decide +kernel⟩
    refine ⟨_, fd, T, ok_init (st := s_BadVerbs) (qual := "BadVerbs.__init__") T F S ⟨_, _, _, _, rfl⟩ (by decide) (by decide), FunD.bindsN F fun _ _ _ _ _ _ us hl => match us, hl with | [_, _], _ => rfl, fun s u v _ => ?_⟩
    obtain ⟨oc, od, dV, kV, doc, pm, an, cdv, ct, osl, rfl, lk, hcd, hD, hK⟩ := F.ex
    rcases hD with ⟨_, rfl⟩ | ⟨z, _⟩
    · exact .of_eq rfl
    · exact absurd rfl z
  have E_BadDay : Er P w K mg base "BadDay" "day" (ga K "BadDay") := by
    have T := errB_ok (glo_ok X G (c.fact 17 (f := .glo "BadDay") rfl)) (eb ("BadDay", "day") (List.mem_of_getElem? (i := 14) rfl))
    obtain ⟨fd, F⟩ := c.def_ 14 (d := d_BadDay) rfl
    have S : FnScope ["self", "day"] ["self", "day"] (defScope s_BadDay) := ⟨rfl, rfl, rfl, by decide +kernel, rfl, by decide +kernel, by decide +kernel⟩
    refine ⟨_, fd, T, ok_init (st := s_BadDay) (qual := "BadDay.__init__") T F S ⟨_, _, _, _, rfl⟩ (by decide) (by decide), FunD.bindsN F fun _ _ _ _ _ _ us hl => match us, hl with | [_, _], _ => rfl, fun s u v _ => ?_⟩
    obtain ⟨oc, od, dV, kV, doc, pm, an, cdv, ct, osl, rfl, lk, hcd, hD, hK⟩ := F.ex
    rcases hD with ⟨_, rfl⟩ | ⟨z, _⟩
    · exact .of_eq rfl
    · exact absurd rfl z
  have E_BadAnswer : Er P w K mg base "BadAnswer" "answer" (ga K "BadAnswer") := by
    have T := errB_ok (glo_ok X G (c.fact 18 (f := .glo "BadAnswer") rfl)) (eb ("BadAnswer", "answer") (List.mem_of_getElem? (i := 15) rfl))
    obtain ⟨fd, F⟩ := c.def_ 15 (d := d_BadAnswer) rfl
    have S : FnScope ["self", "answer"] ["self", "answer"] (defScope s_BadAnswer) := ⟨rfl, rfl, rfl, by decide +kernel, rfl, by decide +kernel, by decide +kernel⟩
    refine ⟨_, fd, T, ok_init (st := s_BadAnswer) (qual := "BadAnswer.__init__") T F S ⟨_, _, _, _, rfl⟩ (by decide) (by decide), FunD.bindsN F fun _ _ _ _ _ _ us hl => match us, hl with | [_, _], _ => rfl, fun s u v _ => ?_⟩
    obtain ⟨oc, od, dV, kV, doc, pm, an, cdv, ct, osl, rfl, lk, hcd, hD, hK⟩ := F.ex
    rcases hD with ⟨_, rfl⟩ | ⟨z, _⟩
    · exact .of_eq rfl
    · exact absurd rfl z
  have E_Wider : Er P w K mg base "Wider" "name" (ga K "Wider") := by
    have T := errB_ok (glo_ok X G (c.fact 19 (f := .glo "Wider") rfl)) (eb ("Wider", "name") (List.mem_of_getElem? (i := 16) rfl))
    obtain ⟨fd, F⟩ := c.def_ 16 (d := d_Wider) rfl
    have S : FnScope ["self", "name"] ["self", "name"] (defScope s_Wider) := ⟨rfl, rfl, rfl, by decide +kernel, rfl, by decide +kernel, by decide +kernel⟩
    refine ⟨_, fd, T, ok_init (st := s_Wider) (qual := "Wider.__init__") T F S ⟨_, _, _, _, rfl⟩ (by decide) (by decide), FunD.bindsN F fun _ _ _ _ _ _ us hl => match us, hl with | [_, _], _ => rfl, fun s u v _ => ?_⟩
    obtain ⟨oc, od, dV, kV, doc, pm, an, cdv, ct, osl, rfl, lk, hcd, hD, hK⟩ := F.ex
    rcases hD with ⟨_, rfl⟩ | ⟨z, _⟩
    · exact .of_eq rfl
    · exact absurd rfl z
  have E_NotLet : Er P w K mg base "NotLet" "name" (ga K "NotLet") := by
    have T := errB_ok (glo_ok X G (c.fact 20 (f := .glo "NotLet") rfl)) (eb ("NotLet", "name") (List.mem_of_getElem? (i := 17) rfl))
    obtain ⟨fd, F⟩ := c.def_ 17 (d := d_NotLet) rfl
    have S : FnScope ["self", "name"] ["self", "name"] (defScope s_NotLet) := ⟨rfl, rfl, rfl, by decide +kernel, rfl, by decide +kernel, by decide +kernel⟩
    refine ⟨_, fd, T, ok_init (st := s_NotLet) (qual := "NotLet.__init__") T F S ⟨_, _, _, _, rfl⟩ (by decide) (by decide), FunD.bindsN F fun _ _ _ _ _ _ us hl => match us, hl with | [_, _], _ => rfl, fun s u v _ => ?_⟩
    obtain ⟨oc, od, dV, kV, doc, pm, an, cdv, ct, osl, rfl, lk, hcd, hD, hK⟩ := F.ex
    rcases hD with ⟨_, rfl⟩ | ⟨z, _⟩
    · exact .of_eq rfl
    · exact absurd rfl z
  have E_Quarrel : Er P w K mg base "Quarrel" "nodes" (ga K "Quarrel") := by
    have T := errB_ok (glo_ok X G (c.fact 21 (f := .glo "Quarrel") rfl)) (eb ("Quarrel", "nodes") (List.mem_of_getElem? (i := 18) rfl))
    obtain ⟨fd, F⟩ := c.def_ 18 (d := d_Quarrel) rfl
    have S : FnScope ["self", "nodes"] ["self", "nodes"] (defScope s_Quarrel) := ⟨rfl, rfl, rfl, by decide +kernel, rfl, by decide +kernel, by decide +kernel⟩
    refine ⟨_, fd, T, ok_init (st := s_Quarrel) (qual := "Quarrel.__init__") T F S ⟨_, _, _, _, rfl⟩ (by decide) (by decide), FunD.bindsN F fun _ _ _ _ _ _ us hl => match us, hl with | [_, _], _ => rfl, fun s u v _ => ?_⟩
    obtain ⟨oc, od, dV, kV, doc, pm, an, cdv, ct, osl, rfl, lk, hcd, hD, hK⟩ := F.ex
    rcases hD with ⟨_, rfl⟩ | ⟨z, _⟩
    · exact .of_eq rfl
    · exact absurd rfl z
  have E_BadDeed : Er P w K mg base "BadDeed" "deed" (ga K "BadDeed") := by
    have T := errB_ok (glo_ok X G (c.fact 22 (f := .glo "BadDeed") rfl)) (eb ("BadDeed", "deed") (List.mem_of_getElem? (i := 19) rfl))
    obtain ⟨fd, F⟩ := c.def_ 19 (d := d_BadDeed) rfl
    have S : FnScope ["self", "deed"] ["self", "deed"] (defScope s_BadDeed) := ⟨rfl, rfl, rfl, by decide +kernel, rfl, by decide +kernel, by decide +kernel⟩
    refine ⟨_, fd, T, ok_init (st := s_BadDeed) (qual := "BadDeed.__init__") T F S ⟨_, _, _, _, rfl⟩ (by decide) (by decide), FunD.bindsN F fun _ _ _ _ _ _ us hl => match us, hl with | [_, _], _ => rfl, fun s u v _ => ?_⟩
    obtain ⟨oc, od, dV, kV, doc, pm, an, cdv, ct, osl, rfl, lk, hcd, hD, hK⟩ := F.ex
    rcases hD with ⟨_, rfl⟩ | ⟨z, _⟩
    · exact .of_eq rfl
    · exact absurd rfl z
  have E_BadWish : Er P w K mg base "BadWish" "index" (ga K "BadWish") := by
    have T := errB_ok (glo_ok X G (c.fact 23 (f := .glo "BadWish") rfl)) (eb ("BadWish", "index") (List.mem_of_getElem? (i := 20) rfl))
    obtain ⟨fd, F⟩ := c.def_ 20 (d := d_BadWish) rfl
    have S : FnScope ["self", "index"] ["self", "index"] (defScope s_BadWish) := ⟨rfl, rfl, rfl, by decide +kernel, rfl, by decide +kernel, by decide +kernel⟩
    refine ⟨_, fd, T, ok_init (st := s_BadWish) (qual := "BadWish.__init__") T F S ⟨_, _, _, _, rfl⟩ (by decide) (by decide), FunD.bindsN F fun _ _ _ _ _ _ us hl => match us, hl with | [_, _], _ => rfl, fun s u v _ => ?_⟩
    obtain ⟨oc, od, dV, kV, doc, pm, an, cdv, ct, osl, rfl, lk, hcd, hD, hK⟩ := F.ex
    rcases hD with ⟨_, rfl⟩ | ⟨z, _⟩
    · exact .of_eq rfl
    · exact absurd rfl z
  have E_Held : Er P w K mg base "Held" "name" (ga K "Held") := by
    have T := errB_ok (glo_ok X G (c.fact 24 (f := .glo "Held") rfl)) (eb ("Held", "name") (List.mem_of_getElem? (i := 21) rfl))
    obtain ⟨fd, F⟩ := c.def_ 21 (d := d_Held) rfl
    have S : FnScope ["self", "name"] ["self", "name"] (defScope s_Held) := ⟨rfl, rfl, rfl, by decide +kernel, rfl, by decide +kernel, by decide +kernel⟩
    refine ⟨_, fd, T, ok_init (st := s_Held) (qual := "Held.__init__") T F S ⟨_, _, _, _, rfl⟩ (by decide) (by decide), FunD.bindsN F fun _ _ _ _ _ _ us hl => match us, hl with | [_, _], _ => rfl, fun s u v _ => ?_⟩
    obtain ⟨oc, od, dV, kV, doc, pm, an, cdv, ct, osl, rfl, lk, hcd, hD, hK⟩ := F.ex
    rcases hD with ⟨_, rfl⟩ | ⟨z, _⟩
    · exact .of_eq rfl
    · exact absurd rfl z
  have E_NotHeld : Er P w K mg base "NotHeld" "name" (ga K "NotHeld") := by
    have T := errB_ok (glo_ok X G (c.fact 25 (f := .glo "NotHeld") rfl)) (eb ("NotHeld", "name") (List.mem_of_getElem? (i := 22) rfl))
    obtain ⟨fd, F⟩ := c.def_ 22 (d := d_NotHeld) rfl
    have S : FnScope ["self", "name"] ["self", "name"] (defScope s_NotHeld) := ⟨rfl, rfl, rfl, by decide +kernel, rfl, by decide +kernel, by decide +kernel⟩
    refine ⟨_, fd, T, ok_init (st := s_NotHeld) (qual := "NotHeld.__init__") T F S ⟨_, _, _, _, rfl⟩ (by decide) (by decide), FunD.bindsN F fun _ _ _ _ _ _ us hl => match us, hl with | [_, _], _ => rfl, fun s u v _ => ?_⟩
    obtain ⟨oc, od, dV, kV, doc, pm, an, cdv, ct, osl, rfl, lk, hcd, hD, hK⟩ := F.ex
    rcases hD with ⟨_, rfl⟩ | ⟨z, _⟩
    · exact .of_eq rfl
    · exact absurd rfl z
  have E_BadText : Er P w K mg base "BadText" "line" (ga K "BadText") := by
    have T := errB_ok (glo_ok X G (c.fact 27 (f := .glo "BadText") rfl)) (eb ("BadText", "line") (List.mem_of_getElem? (i := 23) rfl))
    obtain ⟨fd, F⟩ := c.def_ 23 (d := d_BadText) rfl
    have S : FnScope ["self", "line"] ["self", "line"] (defScope s_BadText) := ⟨rfl, rfl, rfl, by decide +kernel, rfl, by decide +kernel, by decide +kernel⟩
    refine ⟨_, fd, T, ok_init (st := s_BadText) (qual := "BadText.__init__") T F S ⟨_, _, _, _, rfl⟩ (by decide) (by decide), FunD.bindsN F fun _ _ _ _ _ _ us hl => match us, hl with | [_, _], _ => rfl, fun s u v _ => ?_⟩
    obtain ⟨oc, od, dV, kV, doc, pm, an, cdv, ct, osl, rfl, lk, hcd, hD, hK⟩ := F.ex
    rcases hD with ⟨_, rfl⟩ | ⟨z, _⟩
    · exact .of_eq rfl
    · exact absurd rfl z
  intro c hc
  unfold PL at hc
  simp only [List.mem_cons, List.not_mem_nil, or_false] at hc
  rcases hc with rfl | rfl | rfl | rfl | rfl | rfl | rfl | rfl | rfl | rfl | rfl | rfl | rfl | rfl | rfl | rfl | rfl | rfl | rfl | rfl | rfl | rfl | rfl | rfl
  · exact E_BadHouse
  · exact E_NoNode
  · exact E_NoFolder
  · exact E_NoThing
  · exact E_Ringed
  · exact E_BadFact
  · exact E_BadIndex
  · exact E_Unfit
  · exact E_BadPair
  · exact E_NoSuch
  · exact E_BadName
  · exact E_Taken
  · exact E_NoLink
  · exact E_BadVerbs
  · exact E_BadDay
  · exact E_BadAnswer
  · exact E_Wider
  · exact E_NotLet
  · exact E_Quarrel
  · exact E_BadDeed
  · exact E_BadWish
  · exact E_Held
  · exact E_NotHeld
  · exact E_BadText
theorem facts {f : Addr} (X : K.In h) (G : h.Ns mainGlobals mg) (hfa : mg ("law" : Str) = some (.ref f)) (c : SaysD fa fn K) (e : exB K = true) :
    ∃ fd : FuncData, (∀ (s : Shared) (v : Value), BindsTo s fd ⟨[v], []⟩ [("_law_script", v)]) ∧ ∀ base : Heap, K.In base → base.Ns mainGlobals mg → FnOk P w K mg base CX0 4 f fd ["_law_script"] (spLaw K) := by
  obtain ⟨fd_law_cell, F_law_cell⟩ := c.def_ 24 (d := d_law_cell) rfl
  obtain ⟨fd_law_pool, F_law_pool⟩ := c.def_ 25 (d := d_law_pool) rfl
  obtain ⟨fd_law_take, F_law_take⟩ := c.def_ 26 (d := d_law_take) rfl
  obtain ⟨fd_law_any, F_law_any⟩ := c.def_ 27 (d := d_law_any) rfl
  obtain ⟨fd_law_by_place, F_law_by_place⟩ := c.def_ 28 (d := d_law_by_place) rfl
  obtain ⟨fd_law_by_name, F_law_by_name⟩ := c.def_ 29 (d := d_law_by_name) rfl
  obtain ⟨fd_law_fields, F_law_fields⟩ := c.def_ 30 (d := d_law_fields) rfl
  obtain ⟨fd_law_kinds, F_law_kinds⟩ := c.def_ 31 (d := d_law_kinds) rfl
  obtain ⟨fd_law_is_own, F_law_is_own⟩ := c.def_ 32 (d := d_law_is_own) rfl
  obtain ⟨fd_law_same, F_law_same⟩ := c.def_ 33 (d := d_law_same) rfl
  obtain ⟨fd_law, F_law⟩ := c.def_ 34 (d := d_law) rfl
  have b_law_cell : Binds K fd_law_cell ["_law_script", "_law_k"] [] := FunD.bindsN F_law_cell fun _ _ _ _ _ _ us hl => match us, hl with | [_, _], _ => rfl
  have b_law_pool : Binds K fd_law_pool ["_law_grain"] [] := FunD.bindsN F_law_pool fun _ _ _ _ _ _ us hl => match us, hl with | [_], _ => rfl
  have b_law_take : Binds K fd_law_take ["_law_pool_here", "_law_many"] [] := FunD.bindsN F_law_take fun _ _ _ _ _ _ us hl => match us, hl with | [_, _], _ => rfl
  have b_law_any : Binds K fd_law_any ["_law_pool_here"] [] := FunD.bindsN F_law_any fun _ _ _ _ _ _ us hl => match us, hl with | [_], _ => rfl
  have b_law_by_place : Binds K fd_law_by_place ["_law_x"] [] := FunD.bindsN F_law_by_place fun _ _ _ _ _ _ us hl => match us, hl with | [_], _ => rfl
  have b_law_by_name : Binds K fd_law_by_name ["_law_x"] [] := FunD.bindsN F_law_by_name fun _ _ _ _ _ _ us hl => match us, hl with | [_], _ => rfl
  have b_law_fields : Binds K fd_law_fields ["_law_some"] [] := FunD.bindsN F_law_fields fun _ _ _ _ _ _ us hl => match us, hl with | [_], _ => rfl
  have b_law_kinds : Binds K fd_law_kinds ["_law_e"] [] := FunD.bindsN F_law_kinds fun _ _ _ _ _ _ us hl => match us, hl with | [_], _ => rfl
  have b_law_is_own : Binds K fd_law_is_own ["_law_e", "_law_at"] [] := FunD.bindsN F_law_is_own fun _ _ _ _ _ _ us hl => match us, hl with | [_, _], _ => rfl
  have b_law_same : Binds K fd_law_same ["_law_one", "_law_other"] [] := FunD.bindsN F_law_same fun _ _ _ _ _ _ us hl => match us, hl with | [_, _], _ => rfl
  have q := hfa.symm.trans (glo_ok X G (c.fact 38 (f := .glo "law") rfl))
  cases q
  have b := FunD.bindsA (ps := ["_law_script"]) F_law fun _ _ _ _ _ _ us hl => match us, hl with | [_], _ => rfl
  refine ⟨fd_law, fun s v => b s [v] rfl, fun base XB GB => ?_⟩
  have EA : ∀ c ∈ PL, Er P w K mg base c.1 c.2 (ga K c.1) := ers X G c e
  obtain ⟨ow, oH, nH, nd⟩ := owns_ok e
  have fo : ∀ c ∈ PL, FieldOk K c := fun p hp => by
    obtain ⟨_, _, T, _⟩ := EA p hp
    exact ⟨T.xf, T.no⟩
  have gl : ∀ n ∈ KN, mg n = some (.ref (ga K n)) := by
    intro n hn
    unfold KN at hn
    simp only [List.mem_cons, List.not_mem_nil, or_false] at hn
    rcases hn with rfl | rfl | rfl | rfl | rfl | rfl | rfl | rfl | rfl | rfl | rfl | rfl | rfl | rfl | rfl | rfl | rfl | rfl | rfl | rfl | rfl | rfl | rfl | rfl | rfl | rfl | rfl
    · exact (glo_ok X G (c.fact 1 (f := .glo "BadHouse") rfl))
    · exact (glo_ok X G (c.fact 2 (f := .glo "NoNode") rfl))
    · exact (glo_ok X G (c.fact 3 (f := .glo "NoFolder") rfl))
    · exact (glo_ok X G (c.fact 4 (f := .glo "NoThing") rfl))
    · exact (glo_ok X G (c.fact 5 (f := .glo "Ringed") rfl))
    · exact (glo_ok X G (c.fact 6 (f := .glo "BadFact") rfl))
    · exact (glo_ok X G (c.fact 7 (f := .glo "BadIndex") rfl))
    · exact (glo_ok X G (c.fact 8 (f := .glo "UnlikeHouses") rfl))
    · exact (glo_ok X G (c.fact 9 (f := .glo "Unfit") rfl))
    · exact (glo_ok X G (c.fact 10 (f := .glo "BadPair") rfl))
    · exact (glo_ok X G (c.fact 11 (f := .glo "NoSuch") rfl))
    · exact (glo_ok X G (c.fact 12 (f := .glo "Misfit") rfl))
    · exact (glo_ok X G (c.fact 13 (f := .glo "BadName") rfl))
    · exact (glo_ok X G (c.fact 14 (f := .glo "Taken") rfl))
    · exact (glo_ok X G (c.fact 15 (f := .glo "NoLink") rfl))
    · exact (glo_ok X G (c.fact 16 (f := .glo "BadVerbs") rfl))
    · exact (glo_ok X G (c.fact 17 (f := .glo "BadDay") rfl))
    · exact (glo_ok X G (c.fact 18 (f := .glo "BadAnswer") rfl))
    · exact (glo_ok X G (c.fact 19 (f := .glo "Wider") rfl))
    · exact (glo_ok X G (c.fact 20 (f := .glo "NotLet") rfl))
    · exact (glo_ok X G (c.fact 21 (f := .glo "Quarrel") rfl))
    · exact (glo_ok X G (c.fact 22 (f := .glo "BadDeed") rfl))
    · exact (glo_ok X G (c.fact 23 (f := .glo "BadWish") rfl))
    · exact (glo_ok X G (c.fact 24 (f := .glo "Held") rfl))
    · exact (glo_ok X G (c.fact 25 (f := .glo "NotHeld") rfl))
    · exact (glo_ok X G (c.fact 26 (f := .glo "NoDeed") rfl))
    · exact (glo_ok X G (c.fact 27 (f := .glo "BadText") rfl))
  have exs := List.all_eq_true.mp (ba (ba (ba (ba e).2).2).2).2
  have KO : FnOk P w K mg base CX0 1 _ fd_law_kinds ["_law_e"] (spKinds K) := ok_kinds F_law_kinds (free_ok X G (c.fact 41 (f := .free "isinstance") rfl)) gl
  refine ok_law F_law ⟨⟨_, fd_law_cell, ok_cell F_law_cell (free_ok X G (c.fact 40 (f := .free "len") rfl)), (glo_ok X G (c.fact 28 (f := .glo "_law_cell") rfl)), F_law_cell.kp, b_law_cell⟩,
    ⟨_, fd_law_pool, ok_pool F_law_pool (free_ok X G (c.fact 39 (f := .free "int") rfl)), (glo_ok X G (c.fact 29 (f := .glo "_law_pool") rfl)), F_law_pool.kp, b_law_pool⟩,
    ⟨_, fd_law_any, ok_any F_law_any (ok_take F_law_take (free_ok X G (c.fact 39 (f := .free "int") rfl))) (glo_ok X G (c.fact 30 (f := .glo "_law_take") rfl)) F_law_take.kp b_law_take, (glo_ok X G (c.fact 31 (f := .glo "_law_any") rfl)), F_law_any.kp, b_law_any⟩,
    ⟨_, fd_law_by_place, ok_by_place F_law_by_place EA, (glo_ok X G (c.fact 32 (f := .glo "_law_by_place") rfl)), F_law_by_place.kp, b_law_by_place⟩,
    ⟨_, fd_law_by_name, ok_by_name F_law_by_name EA, (glo_ok X G (c.fact 33 (f := .glo "_law_by_name") rfl)), F_law_by_name.kp, b_law_by_name⟩,
    ⟨_, fd_law_fields, ok_fields F_law_fields fo, (glo_ok X G (c.fact 34 (f := .glo "_law_fields") rfl)), F_law_fields.kp, b_law_fields⟩,
    ⟨_, fd_law_kinds, KO, (glo_ok X G (c.fact 35 (f := .glo "_law_kinds") rfl)), F_law_kinds.kp, b_law_kinds⟩,
    ⟨_, fd_law_is_own, ok_is_own F_law_is_own KO (glo_ok X G (c.fact 35 (f := .glo "_law_kinds") rfl)) F_law_kinds.kp b_law_kinds (free_ok X G (c.fact 41 (f := .free "isinstance") rfl)) (free_ok X G (c.fact 42 (f := .free "range") rfl)) (free_ok X G (c.fact 45 (f := .free "ValueError") rfl)) (glo_ok X G (c.fact 0 (f := .glo "HouseError") rfl)) nd, (glo_ok X G (c.fact 36 (f := .glo "_law_is_own") rfl)), F_law_is_own.kp, b_law_is_own⟩,
    ⟨_, fd_law_same, ok_same F_law_same (free_ok X G (c.fact 41 (f := .free "isinstance") rfl)) (free_ok X G (c.fact 44 (f := .free "bool") rfl)), (glo_ok X G (c.fact 37 (f := .glo "_law_same") rfl)), F_law_same.kp, b_law_same⟩,
    (free_ok X G (c.fact 40 (f := .free "len") rfl)), (free_ok X G (c.fact 42 (f := .free "range") rfl)), (free_ok X G (c.fact 43 (f := .free "all") rfl)), (free_ok X G (c.fact 41 (f := .free "isinstance") rfl)), (free_ok X G (c.fact 45 (f := .free "ValueError") rfl)), ow, oH, nH, ?_⟩
  intro n hn
  have hx := exs n hn
  simp only [List.mem_cons, List.not_mem_nil, or_false] at hn
  rcases hn with rfl | rfl | rfl | rfl
  · exact ⟨hx, (glo_ok X G (c.fact 8 (f := .glo "UnlikeHouses") rfl)), keep_ok (c.fact 47 (f := .keep "UnlikeHouses") rfl)⟩
  · exact ⟨hx, (glo_ok X G (c.fact 12 (f := .glo "Misfit") rfl)), keep_ok (c.fact 48 (f := .keep "Misfit") rfl)⟩
  · exact ⟨hx, (glo_ok X G (c.fact 26 (f := .glo "NoDeed") rfl)), keep_ok (c.fact 49 (f := .keep "NoDeed") rfl)⟩
  · exact ⟨hx, (glo_ok X G (c.fact 0 (f := .glo "HouseError") rfl)), keep_ok (c.fact 46 (f := .keep "HouseError") rfl)⟩
end
end My

namespace My
open PySem PySem.Spec PyProof.Rows L2 He
theorem run (w : World) : HandSHeadRun.RunEq Rw (PySem.W.view Rw.prog [40]) hk ob 8000 loose w := by
  intro os
  kernel_rfl
end My
open PySem PySem.W PySem.Calls PyProof.Rows
theorem PySem.Challenge.cw_whatopened_k01_errors_made_holds : PySem.Challenge.rw_whatopened_k01_errors_made.Holds := by
  w_on; o_law
  refine HandSHeadRun.head_any (r := OpenLaw.row PySem.Challenge.rw_whatopened_k01_errors_made) (q := view (OpenLaw.row PySem.Challenge.rw_whatopened_k01_errors_made).prog [40]) (H := My.hk) (ob := My.ob) (M := 8000) (loose := My.loose) (d := HandSHeadRun.topDef (OpenLaw.row PySem.Challenge.rw_whatopened_k01_errors_made).prog 40) (kwd := []) My.ob_eq
    (by kernel_rfl) (fun s => by kernel_rfl) My.run (by kernel_rfl) (by kernel_rfl) (by kernel_rfl) (by rfl) (by first | assumption | decide +kernel) (by decide +kernel) ⟨rfl, rfl, rfl, rfl, rfl, by decide +kernel⟩ ?hw ?hc
  case hw => w_witness2
  case hc =>
    refine L2.walk_ofE (l := PySem.Challenge.rw_whatopened_k01_errors_made) (n := 63) (k := 4) (x := "_law_script") (CX := L2.CX0) rfl (by decide) (by kernel_rfl) ⟨rfl, by decide, by decide⟩ ?F (fun _ _ _ _ z => z)
    intro w mg fa h Y G hmg0
    obtain ⟨K, KX, c, e⟩ := Y
    have hmg : mg ("law" : PySem.Str) = some (.ref fa) := by
      have e : (HandSHeadRun.topDef (OpenLaw.row PySem.Challenge.rw_whatopened_k01_errors_made).prog 40).name = ("law" : PySem.Str) := by kernel_rfl
      rw [← e]
      exact hmg0
    obtain ⟨fd, hb, hF⟩ := My.facts (P := (PySem.Challenge.rw_whatopened_k01_errors_made).prog) (w := w) KX G hmg c e
    exact ⟨K, fd, My.spLaw K, KX, hb, fun H a ns hl _ hS => ⟨a, ns, rfl, hS, fun _ => rfl⟩, hF⟩
#print axioms PySem.Challenge.cw_whatopened_k01_errors_made_holds

