import PyProof.Rows.All
import Wide.All
import OpenK.AllK
import Wide.FinOn
import HandS.ForMost
import HandS.ForExc
import HandS.Defaults
import HandS.IsInst
import HandS.ExcInit
import HandS.OwnEq
import PySem.Challenge.RW_whatopened_k44_contraries_of_facts
import HandS.ExcValue
import HandS.ExcField
import HandS.MakeKw
import KE.KExcIs
import HandS.LawCells
import HandS.OwnIter
import PyProof.InstEq
import HandS.IterVal
import HandS.Walk
import KE.GoesMore
import KE.GoesEnum
import PyProof.Draws
import HandS.CallSlots
import HandS.Star
import HandS.TupAny
import HandS.WordsExc
import HandS.Style
import HandS.Codes
import HandS.NoneIn
import HandS.Deep
import KE.KStateDown
import Lean
import HandS.Head0
import HandS.Head1
import HandS.Head2
import HandS.HeadEnd
import HandS.HeadHook1
import HandS.HeadHook2
set_option Elab.async false
set_option linter.all false
set_option maxRecDepth 100000
set_option maxHeartbeats 0
namespace My
open PySem PySem.Spec PyProof.Rows L2
def top (i : Nat) : Stmt := PySem.Challenge.pw_whatopened_k44_contraries_of_facts.main.body.getD i (.Pass ⟨0, 0, 0, 0⟩)
abbrev FnP (K : PySem.W.Frag) (x : Str) (st : Stmt) (f : Addr) (fd : FuncData) : Prop := FunD K x x (defArgs st) (defBody st) (defScope st) [] [] f fd
def inCls (s : Stmt) (i : Nat) : Stmt := match s with
  | .ClassDef (body := b) .. => b.getD i (.Pass ⟨0, 0, 0, 0⟩)
  | _ => .Pass ⟨0, 0, 0, 0⟩
abbrev s_BadHouse_init : Stmt := inCls (top 2) 0
abbrev s_BadFact_init : Stmt := inCls (top 3) 0
abbrev s_is_list : Stmt := top 7
abbrev sIsList : Stmt := top 7
abbrev s_is_name : Stmt := top 8
abbrev sIsName : Stmt := top 8
abbrev s_is_fact : Stmt := top 11
abbrev s_as_told : Stmt := top 12
abbrev s_against : Stmt := top 13
abbrev s_wrong_name : Stmt := top 15
abbrev sWrongName : Stmt := top 15
abbrev s_wrong_part : Stmt := top 16
abbrev sWrongPart : Stmt := top 16
abbrev s_House_init : Stmt := inCls (top 17) 0
abbrev sHInit : Stmt := inCls (top 17) 0
abbrev s_House_len : Stmt := inCls (top 17) 1
abbrev sHLen : Stmt := inCls (top 17) 1
abbrev s_House_contains : Stmt := inCls (top 17) 2
abbrev sHHas : Stmt := inCls (top 17) 2
abbrev s_House_iter : Stmt := inCls (top 17) 3
abbrev sHIter : Stmt := inCls (top 17) 3
abbrev s_House_eq : Stmt := inCls (top 17) 4
abbrev sHEq : Stmt := inCls (top 17) 4
abbrev s__law_cell : Stmt := top 19
abbrev sCell : Stmt := top 19
abbrev s__law_pool : Stmt := top 20
abbrev sPool : Stmt := top 20
abbrev s__law_take : Stmt := top 21
abbrev sTake : Stmt := top 21
abbrev s__law_names : Stmt := top 22
abbrev sNames : Stmt := top 22
abbrev s__law_plan : Stmt := top 23
abbrev s__law_house : Stmt := top 24
abbrev sHouse : Stmt := top 24
abbrev s__law_lies : Stmt := top 25
abbrev s__law_holds : Stmt := top 26
abbrev s__law_keeps : Stmt := top 27
abbrev s__law_all_trees : Stmt := top 28
abbrev s__law_all_facts : Stmt := top 29
abbrev s__law_due : Stmt := top 30
abbrev s__law_refused : Stmt := top 31
abbrev s_law : Stmt := top 32
end My

namespace My
open PySem PySem.Spec PyProof.Rows L2
/-! ### the pool -/
/-- a pool stands at p, at most n draws of its second kind were made -/
def Pool (H : Hp) (p : Addr) (n : Int) : Prop := ∃ g m c : Int, H p = some (.lst [.int g, .int m, .int c]) ∧ 0 ≤ g ∧ 0 ≤ m ∧ m < 1000000007 ∧ 0 ≤ c ∧ c ≤ n
def spCell1 (K : PySem.W.Frag) : Sp := fun vs H Q _ => ∃ (l : Addr) (ns : List Int) (j : Nat), vs = [.ref l, .int (j : Int)] ∧ SqL K H l (ns.map V.int) ∧ ∀ i : Int, Q (.int i) H
def spPool : Sp := fun vs H Q _ => ∃ g : Int, vs = [.int g] ∧ ∀ p H', H p = none → (∃ a b : Int, 0 ≤ a ∧ 0 ≤ b ∧ b < 1000000007 ∧ H' = upd H p (.lst [.int a, .int b, .int 0])) → Q (.ref p) H'
def spTake : Sp := fun vs H Q _ => ∃ (p : Addr) (many n : Int), vs = [.ref p, .int many] ∧ 0 < many ∧ many < 1073741824 ∧ Pool H p n ∧ n < 1099511627776 ∧
  ∀ (r : Int) (o : HO), 0 ≤ r → r < many → Pool (upd H p o) p (n + 1) → Q (.int r) (upd H p o)
theorem scCell : FnScope ["_law_script", "_law_k"] ["_law_script", "_law_k"] (defScope sCell) := ⟨rfl, rfl, rfl, by decide +kernel, rfl, by decide +kernel, by decide +kernel⟩
theorem scPool : FnScope ["_law_cell_here", "_law_folded"] ["_law_cell_here"] (defScope sPool) := ⟨rfl, rfl, rfl, by decide +kernel, rfl, by decide +kernel, by decide +kernel⟩
theorem scTake : FnScope ["_law_pool_here", "_law_many", "_law_draw", "_law_mixed"] ["_law_pool_here", "_law_many"] (defScope sTake) := ⟨rfl, rfl, rfl, by decide +kernel, rfl, by decide +kernel, by decide +kernel⟩
section
variable {P : Program} {w : World} {K : PySem.W.Frag} {mg : Str → Option Value} {base : Heap} {f : Addr} {fd : FuncData}
theorem ok_cell (F : FnP K "_law_cell" sCell f fd) (gL : mg "len" = none) : FnOk P w K mg base CX0 1 f fd ["_law_script", "_law_k"] (spCell1 K) := by
  refine F.ok scCell (fun vs H Q E h => ?_) (fun cdv A outer s H vs Q E hr h => ⟨_, PSs.nox (pss_cons (ps_if (pt_cmpR op_lt (pv 1) (pe_callB call_len (by rfl) gL boot_len (pa_cons (pv 0) pa_nil)) (nomark _)) (pss_one (ps_ret (pe_ix ix_list (pv 0) (pv 1) (fun _ _ => rfl)))) pss_nil) (pss_one (ps_ret pe_int))), ?_⟩)
  · obtain ⟨l, ns, j, rfl, _⟩ := h
    rfl
  · obtain ⟨l, ns, j, rfl, hS, q⟩ := h
    refine ⟨_, rfl, _, rfl, _, _, rfl, .inl ⟨_, hS, rfl⟩, _, _, rfl, rfl, _, rfl, ?_⟩
    refine ite2 (fun hj => ?_) (fun _ => ?_)
    · have hj' : j < ns.length := by
        have z := of_decide_eq_true hj
        rw [List.length_map] at z
        omega
      refine ⟨_, rfl, _, rfl, l, _, _, _, rfl, rfl, hS, atI_nat (by rw [List.getElem?_map, List.getElem?_eq_getElem hj'] <;> rfl), q _⟩
    · exact q 0
theorem ok_pool (F : FnP K "_law_pool" sPool f fd) (gI : mg "int" = none) : FnOk P w K mg base CX0 1 f fd ["_law_cell_here"] spPool := by
  refine F.ok scPool (fun vs H Q E h => ?_) (fun cdv A outer s H vs Q E hr h => ⟨_, PSs.nox (
    pss_cons (ps_set (i := 1) scPool.nd rfl (.inl rfl) (pe_op op_mul pe_int (pv 0)))
    (pss_cons (ps_if (pt_cmpR op_lt (pv 0) pe_int (nomark _)) (pss_one (ps_set (i := 1) scPool.nd rfl (.inl rfl) (pe_op op_sub (pe_op op_sub pe_int (pe_op op_mul pe_int (pv 0))) pe_int))) pss_nil)
    (pss_cons (ps_if (pt_cmpR op_ge (pv 1) (pe_op op_pow pe_int pe_int) (nomark _)) (pss_one (ps_ret (pe_lst (pa_cons (pv 1) (pa_cons (pe_op op_mod (pe_callTy call_int1 (by rfl) gI (by decide +kernel) (pa_cons (pv 1) pa_nil)) pe_int) (pa_cons pe_int pa_nil)))))) pss_nil)
    (pss_one (ps_ret (pe_lst (pa_cons pe_int (pa_cons (pe_op op_mod (pe_callTy call_int1 (by rfl) gI (by decide +kernel) (pa_cons (pv 1) pa_nil)) pe_int) (pa_cons pe_int pa_nil))))))))), ?_⟩)
  · obtain ⟨g, rfl, _⟩ := h
    rfl
  · obtain ⟨g, rfl, q⟩ := h
    refine ⟨_, rfl, _, _, rfl, rfl, .inl ⟨by decide, by decide⟩, _, rfl, _, _, rfl, rfl, _, rfl, ?_⟩
    have m1 : ∀ z : Int, 0 ≤ z % 1000000007 := fun z => Int.emod_nonneg z (by decide)
    have m2 : ∀ z : Int, z % 1000000007 < 1000000007 := fun z => Int.emod_lt_of_pos z (by decide)
    have lst3 : ∀ a b c : V, ([a, b, c] : List V).length ≤ sizeLine := fun a b c => by show 3 ≤ sizeLine; decide
    refine ite2 (fun hn => ?_) (fun hn => ?_)
    · have hn' := of_decide_eq_true hn
      refine ⟨_, rfl, _, _, rfl, rfl, .inl ⟨by decide, by decide⟩, _, _, rfl, rfl, _, _, rfl, rfl, ?_⟩
      refine ⟨_, rfl, _, _, rfl, rfl, ⟨by decide, by decide, by decide⟩, _, _, rfl, rfl, _, rfl, ?_⟩
      refine ite2 (fun _ => ?_) (fun _ => ?_)
      · refine ⟨_, rfl, _, rfl, .inl ⟨_, rfl, _, _, rfl, rfl, (show (0 : Int) < 1000000007 by decide), lst3 _ _ _, fun p hp => q p _ hp ⟨_, _, ?_, m1 _, m2 _, rfl⟩⟩⟩
        omega
      · refine ⟨_, rfl, .inl ⟨_, rfl, _, _, rfl, rfl, (show (0 : Int) < 1000000007 by decide), lst3 _ _ _, fun p hp => q p _ hp ⟨_, _, by decide, m1 _, m2 _, rfl⟩⟩⟩
    · have hn' : ¬ g < 0 := fun z => hn (decide_eq_true z)
      refine ⟨_, rfl, _, _, rfl, rfl, ⟨by decide, by decide, by decide⟩, _, _, rfl, rfl, _, rfl, ?_⟩
      refine ite2 (fun _ => ?_) (fun _ => ?_)
      · refine ⟨_, rfl, _, rfl, .inl ⟨_, rfl, _, _, rfl, rfl, (show (0 : Int) < 1000000007 by decide), lst3 _ _ _, fun p hp => q p _ hp ⟨_, _, ?_, m1 _, m2 _, rfl⟩⟩⟩
        omega
      · refine ⟨_, rfl, .inl ⟨_, rfl, _, _, rfl, rfl, (show (0 : Int) < 1000000007 by decide), lst3 _ _ _, fun p hp => q p _ hp ⟨_, _, by decide, m1 _, m2 _, rfl⟩⟩⟩
theorem ok_take (F : FnP K "_law_take" sTake f fd) (gI : mg "int" = none) : FnOk P w K mg base CX0 1 f fd ["_law_pool_here", "_law_many"] spTake := by
  refine F.ok scTake (fun vs H Q E h => ?_) (fun cdv A outer s H vs Q E hr h => ⟨_, PSs.nox (
    pss_cons (ps_if (pt_cmpR op_gt (pe_ix ix_list (pv 0) pe_int (fun _ _ => rfl)) pe_int (nomark _))
      (pss_cons (ps_set (i := 2) scTake.nd rfl (.inl rfl) (pe_op op_mod (pe_callTy call_int1 (by rfl) gI (by decide +kernel) (pa_cons (pe_ix ix_list (pv 0) pe_int (fun _ _ => rfl)) pa_nil)) (pv 1)))
      (pss_cons (ps_asg (pe_op op_fdiv (pe_ix ix_list (pv 0) pe_int (fun _ _ => rfl)) (pv 1)) (pg_sub (pv 0) pe_int set_list))
      (pss_one (ps_ret (pv 2))))) pss_nil)
    (pss_cons (ps_asg (pe_op op_add (pe_ix ix_list (pv 0) pe_int (fun _ _ => rfl)) pe_int) (pg_sub (pv 0) pe_int set_list))
    (pss_cons (ps_set (i := 3) scTake.nd rfl (.inl rfl) (pe_op op_mod (pe_callTy call_int1 (by rfl) gI (by decide +kernel) (pa_cons (pe_op op_pow (pe_op op_add (pe_op op_add (pe_ix ix_list (pv 0) pe_int (fun _ _ => rfl)) (pe_op op_mul pe_int (pe_ix ix_list (pv 0) pe_int (fun _ _ => rfl)))) pe_int) pe_int) pa_nil)) pe_int))
    (pss_one (ps_ret (pe_op op_mod (pe_op op_mod (pe_callTy call_int1 (by rfl) gI (by decide +kernel) (pa_cons (pe_op op_mul (pe_op op_add (pv 3) (pe_ix ix_list (pv 0) pe_int (fun _ _ => rfl))) pe_int) pa_nil)) pe_int) (pv 1))))))), ?_⟩)
  · obtain ⟨p, many, n, rfl, _⟩ := h
    rfl
  · obtain ⟨p, many, n, rfl, hm0, hm1, ⟨g, m, c, hp, hg, hm, hm', hc, hcn⟩, hn, q⟩ := h
    have SL : ∀ {H : Hp} {xs : List V}, H p = some (.lst xs) → SqL K H p xs := fun h => SqL.of h
    refine ⟨_, rfl, p, _, 0, .int g, rfl, rfl, SL hp, rfl, _, _, rfl, rfl, _, rfl, ?_⟩
    refine ite2 (fun hg0 => ?_) (fun _ => ?_)
    · refine ⟨_, rfl, p, _, 0, .int g, rfl, rfl, SL hp, rfl, .inl ⟨_, rfl, _, rfl, _, _, rfl, rfl, hm0, ?_⟩⟩
      refine ⟨_, rfl, p, _, 0, .int g, rfl, rfl, SL hp, rfl, _, rfl, _, _, rfl, rfl, ⟨hm0, hm1⟩, _, rfl, p, _, 0, 0, rfl, rfl, hp, rfl, ?_⟩
      refine ⟨_, rfl, q _ _ (Int.emod_nonneg _ (by omega)) (Int.emod_lt_of_pos _ hm0) ⟨g / many, m, c, upd_same, Int.ediv_nonneg hg (by omega), hm, hm', hc, by omega⟩⟩
    · refine ⟨_, rfl, p, _, 2, .int c, rfl, rfl, SL hp, rfl, _, _, rfl, rfl, _, rfl, p, _, 2, 2, rfl, rfl, hp, rfl, ?_⟩
      have h2 : upd H p (.lst (List.set [V.int g, V.int m, V.int c] 2 (V.int (c + 1)))) p = some (.lst [.int g, .int m, .int (c + 1)]) := upd_same
      refine ⟨_, rfl, p, _, 1, .int m, rfl, rfl, SL h2, rfl, _, rfl, p, _, 2, .int (c + 1), rfl, rfl, SL h2, rfl, _, _, rfl, rfl, .inl ⟨by decide, by decide⟩, _, _, rfl, rfl, _, _, rfl, rfl, _, _, rfl, rfl, ⟨by decide, by decide, ?_⟩, .inl ⟨_, rfl, _, _, rfl, rfl, (show (0 : Int) < 2147483647 by decide), ?_⟩⟩
      · omega
      refine ⟨_, rfl, _, rfl, p, _, 2, .int (c + 1), rfl, rfl, SL h2, rfl, _, _, rfl, rfl, _, _, rfl, rfl, .inr ⟨by decide, by decide⟩, .inl ⟨_, rfl, _, _, rfl, rfl, (show (0 : Int) < 2147483629 by decide), _, rfl, _, _, rfl, rfl, hm0, ?_⟩⟩
      exact q _ _ (Int.emod_nonneg _ (by omega)) (Int.emod_lt_of_pos _ hm0) ⟨g, m, c + 1, upd_same, hg, hm, hm', by omega, by omega⟩
end
end My

namespace PySem
namespace MyX
open PySem.HandSPX Builtin Builtin.ObjectAttr
section
variable {M : Model} {A : Around} {E : Value → Shared → Prop} {h : Heap} {g : Array GenState} {d : Drawn} {t : Nat} {os : OsState}
variable {nm q : Str} {C N : Addr} {bs bm mb : List Value} {hdct : Bool} {sn : List Str} {sub : List Value} {ab : Bool} {col : Option Bool} {dd : Option Addr} {k0 k1 k2 k3 k5 : Option Value} {B idN idI : String}
theorem chk_new (F : ExcBaseFacts B idN idI mb) (hT : ∀ X : String, bm.contains (.type X) = mb.contains (.type X)) {rs : List Value} {kw : List (Str × Value)} {Q : Unit → Shared → Prop}
    (hC : h.get? C = some (excClassObj nm q C N bs bm hdct sn sub ab col dd k0 k1 k2 k3 k5 idN)) (hq : Q () ⟨h, g, d, t, os⟩) :
    wpAny M A (checkBuiltinCall idN ⟨.ref C :: rs, kw⟩) Q E ⟨h, g, d, t, os⟩ := by
  have c1 : (Value.ref C :: bm).contains (.type B) = true := by
    rw [List.contains_cons, hT, F.hasB, Bool.or_true]
  have c2 := F.noStar
  simp only [checkBuiltinCall, F.newKind, F.newSplit, F.newRow]
  repeat (first | refine wpAny_loadPart_at hC ?_ | (refine wpAny_isSubtype_exc hC ?_; rw [c1]) | refine wpAny_staticBase_exc hC ?_ | refine wpAny_madeBy_exc hC ?_ | simp only [bne_self_eq_false, Bool.false_eq_true, if_false] | wp_step)
  exact hq
end
section
variable {prog : Program} {w : World} {A : Around} {E : Value → Shared → Prop} {R : Result → Shared → Prop} {h : Heap} {g : Array GenState} {d : Drawn} {t : Nat} {os : OsState}
variable {nm q : Str} {C N : Addr} {bs bm mb : List Value} {hdct : Bool} {sn : List Str} {sub : List Value} {ab : Bool} {col : Option Bool} {dd : Option Addr} {k0 k1 k2 k3 k5 : Option Value} {B idN idI : String}
theorem new_kw (F : ExcBaseFacts B idN idI mb) (hT : ∀ X : String, bm.contains (.type X) = mb.contains (.type X)) {rs : List Value} {kw : List (Str × Value)}
    (hC : h.get? C = some (excClassObj nm q C N bs bm hdct sn sub ab col dd k0 k1 k2 k3 k5 idN))
    (hq : R (.ok (.ret (.ref (h.objs.size + 1)))) ⟨(h.push (W.kdv_tup rs)).push (excO C h.objs.size), g, d, t, os⟩) (hrs : rs.length ≤ sizeLine) :
    codeAny (model prog w) A (.builtin idN ⟨.ref C :: rs, kw⟩) R ⟨h, g, d, t, os⟩ := by
  have c0 := F.ends
  have c1 : (Value.ref C :: bm).contains (.type B) = true := by
    rw [List.contains_cons, hT, F.hasB, Bool.or_true]
  have c2 : (Value.ref C :: bm).contains (.type "AttributeError") = false := by
    rw [List.contains_cons, hT, F.noAttr]; rfl
  have c3 : (Value.ref C :: bm).contains (.type "NameError") = false := by
    rw [List.contains_cons, hT, F.noName]; rfl
  refine codeAny_builtinAt F.entry ?_
  unfold Builtin.«BaseException.__new__»
  refine wpAt_bind ?_
  show wpAt _ _ _ (stack >>= _) _ _ _
  refine wpAt_bind (wpAt_stack fun p below => wpAt_of_wpAny ?_)
  wp_walk
  refine wpAt_of_wpAny ?_
  rw [F.owner]
  repeat (first | with_reducible refine wpAny_madeHere_exc F.canon hC ?_ | with_reducible refine wpAny_loadPart_at hC ?_ | (with_reducible refine wpAny_isSubtype_exc hC ?_; first | rw [c1] | rw [c2] | rw [c3]) | wp_step)
  show R _ _
  rw [Heap.size_push]
  exact hq
theorem tcall_kw (F : ExcBaseFacts B idN idI mb) (hT : ∀ X : String, bm.contains (.type X) = mb.contains (.type X)) {rs : List Value} {kw : List (Str × Value)} {fI : Addr} {Q : Fin → Shared → Prop}
    (hC : h.get? C = some (excClassObj nm q C N bs bm hdct sn sub ab col dd k0 k1 k2 k3 k5 idN))
    (hi : W.Looks (model prog w) h (typeLookup (.ref C) "__init__") (some (.ref fI))) (hb : ∀ self, W.Looks (model prog w) h (bindSpecial (.ref fI) self) (.ref fI, [self])) (hrs : rs.length ≤ sizeLine)
    (hq : codeAny (model prog w) A (.call (.ref fI) ⟨.ref (h.objs.size + 1) :: rs, kw⟩)
      (fun r s' => match r with | .ok (.ret v) => v = .none ∧ Q (.done (.ret (.ref (h.objs.size + 1)))) s' | .ok _ => False | .error e => E e s')
      ⟨(h.push (W.kdv_tup rs)).push (excO C h.objs.size), g, d, t, os⟩) :
    wpAny (model prog w) A (Builtin.«type.__call__» ⟨.ref C :: rs, kw⟩) Q E ⟨h, g, d, t, os⟩ := by
  repeat (first | with_reducible refine wpAny_loadPart_at hC ?_ | with_reducible refine wpAny_madeBy_exc hC ?_ | wp_step)
  refine codeAny_call_builtin_code (Code.quiet_builtin _ F.quiet) (chk_new F hT hC ?_)
  refine new_kw F hT hC ?_ hrs
  show wpAny _ _ _ _ _ _
  have k : ∀ b o, h.get? b = some o → ((h.push (W.kdv_tup rs)).push (excO C h.objs.size)).get? b = some o := fun b o e => Heap.get?_push_of_some _ (Heap.get?_push_of_some _ e)
  have hC1 := k _ _ hC
  have hget : ((h.push (W.kdv_tup rs)).push (excO C h.objs.size)).get? (h.objs.size + 1) = some (excO C h.objs.size) := by heap_get
  have hcC : (Value.ref C :: bm).contains (.ref C) = true := by simp
  have i1 := hi.keeps k
  have b1 := (hb (.ref (h.objs.size + 1))).keeps k
  unfold isInstance
  repeat (first | with_reducible refine wpAny_loadPart_at hget ?_ | (with_reducible refine wpAny_isSubtype_exc hC1 ?_; rw [hcC]) | wp_step)
  show wpAny _ _ (typeLookup (.ref C) _) _ _ _
  refine i1.at ?_
  refine wpAny_holding (wpAny_bind (b1.at ?_))
  refine wpAny_bind (wpAny_call (codeAny_mono hq fun r s' z => ?_))
  rcases r with e | (v | _ | _ | _) <;> first | exact z | exact z.elim | skip
  obtain ⟨rfl, z⟩ := z
  first
    | exact wpAny_pure (wpAny_pure z)
    | (wp_walk; exact z)
theorem call_kw (F : ExcBaseFacts B idN idI mb) (hT : ∀ X : String, bm.contains (.type X) = mb.contains (.type X)) {rs : List Value} {kw : List (Str × Value)} {fI : Addr}
    (hC : h.get? C = some (excClassObj nm q C N bs bm hdct sn sub ab col dd k0 k1 k2 k3 k5 idN))
    (hi : W.Looks (model prog w) h (typeLookup (.ref C) "__init__") (some (.ref fI))) (hb : ∀ self, W.Looks (model prog w) h (bindSpecial (.ref fI) self) (.ref fI, [self])) (hrs : rs.length ≤ sizeLine)
    (hq : codeAny (model prog w) (A.under (.builtin "type.__call__" ⟨.ref C :: rs, kw⟩)) (.call (.ref fI) ⟨.ref (h.objs.size + 1) :: rs, kw⟩) (W.InitBack (h.objs.size + 1) R)
      ⟨(h.push (W.kdv_tup rs)).push (excO C h.objs.size), g, d, t, os⟩) :
    codeAny (model prog w) A (.call (.ref C) ⟨rs, kw⟩) R ⟨h, g, d, t, os⟩ := by
  have f1 := tc_lookup
  have f2 := tc_bind (.ref C)
  have hTy : (⟨h, g, d, t, os⟩ : Shared).TypeIs (.ref C) "type" := ⟨_, hC, rfl⟩
  refine codeAny_of_tree ?_
  show wpAny _ _ (callAny (.ref C) _) _ _ _
  repeat (any_goals (first | assumption | with_reducible refine wpAny_loadPart_at hC ?_ | wp_step))
  refine ⟨rfl, ?_⟩
  refine codeAny_call_builtin_at (Code.quiet_builtin _ (by decide +kernel)) entry_typeCall (wpAny_check_type_call_sub hC (tcall_kw F hT hC hi hb hrs ?_))
  refine codeAny_mono hq fun r s' z => ?_
  rcases r with e | (v | _ | _ | _) <;> exact z
end
end MyX
end PySem

namespace My
open PySem PySem.Spec PyProof.Rows L2
/-! ### own exceptions as values -/
/-- what isinstance asks of the class of an exception -/
structure KitC (K : PySem.W.Frag) (C : Addr) : Prop where
  cl : (PySem.W.clsIn K C).isSome = true
  at_ : PySem.W.findIn K (.ref C) "__class__" = some (some (.builtin "object.__class__"))
  sp : PySem.W.specialIn K (.builtin "object.__class__") "__get__" = some (some (.builtin "getset_descriptor.__get__"))
  tk : PySem.W.takesIn K (.builtin "object.__class__") = some true
  ob : PySem.W.mroIn K C (.type "object") = some true
/-- an exception of the class at C stands at a: its one field f holds v -/
def ErrAt (H : Hp) (a C : Addr) (f : Str) (v : V) : Prop := ∃ d, H a = some (exo a C (some d)) ∧ H d = some (exd d [(f, v)])
theorem ErrAt.ext {H H' : Hp} {a C : Addr} {f : Str} {v : V} (e : ErrAt H a C f v) (x : Ext H H') : ErrAt H' a C f v := by
  obtain ⟨d, h1, h2⟩ := e
  exact ⟨d, x _ _ h1, x _ _ h2⟩
section
variable {X : Cx} {CX : CXT} {k : Nat} {C fI : Addr} {fd : FuncData} {ps : List Str} {sp : Sp}
theorem run_err {pins : List (Addr × Obj)} {σ : L2.St} {H : Hp} {s : Shared} {Q : VK} {us uz : List Value} {kw : List (Str × Value)} {vs : List V} (T : OexC X.K C) (iC : PySem.W.findIn X.K (.ref C) "__init__" = some (some (.ref fI)))
    (tI : PySem.W.typeIn X.K (.ref fI) = some (.type "function")) (Fn : FnOk X.prog X.w X.K X.mg X.base CX k fI fd ps sp) (hr : Room (k + 1) X.A) (hx : Passes CX X E0)
    (hb : ∀ (s : Shared) (a : Addr), X.K.In s.heap → BindsTo s fd ⟨.ref a :: us, kw⟩ (ps.zip (.ref a :: uz))) (hl : us.length ≤ 1000) (I : Inv X pins σ H s) (r : Vals vs uz)
    (h : ∀ a, H a = none → sp (.ref a :: vs) (upd H a (exo a C none)) (fun v H2 => v = .non ∧ Q (.ref a) H2) E0) :
    wpAny (model X.prog X.w) X.A (call (.ref C) us kw) (EP X pins σ Q) X.xe s := by
  obtain ⟨nm, q, N, bs, bm, sn, sub, ab, col, dd, k0, k1, k2, k3, k5, hC, hbm⟩ := T.cls
  obtain ⟨hp, g, dr, tk, os⟩ := s
  have hz : hp.objs.size ≤ hp.objs.size + 1 := Nat.le_succ _
  have hn : H (hp.objs.size + 1) = none := I.hok.fresh hz
  have hq := h (hp.objs.size + 1) hn
  have kk : ∀ b o, hp.get? b = some o → ((hp.push (PySem.W.kdv_tup us)).push (PySem.HandSPX.excO C hp.objs.size)).get? b = some o := fun b o e =>
    Heap.get?_push_of_some _ (Heap.get?_push_of_some _ e)
  have hg : ((hp.push (PySem.W.kdv_tup us)).push (PySem.HandSPX.excO C hp.objs.size)).get? (hp.objs.size + 1) = some (PySem.HandSPX.excO C hp.objs.size) := by
    heap_get
  have I2 : Inv X pins σ (upd H (hp.objs.size + 1) (exo (hp.objs.size + 1) C none)) ⟨(hp.push (PySem.W.kdv_tup us)).push (PySem.HandSPX.excO C hp.objs.size), g, dr, tk, os⟩ :=
    I.laid (t' := tk) (a := hp.objs.size + 1) (o := exo (hp.objs.size + 1) C none) (h' := (hp.push (PySem.W.kdv_tup us)).push (PySem.HandSPX.excO C hp.objs.size)) kk hz (exo_ok hg)
  have r2 : Vals (V.ref (hp.objs.size + 1) :: vs) (Value.ref (hp.objs.size + 1) :: uz) := .cons rfl r
  have hus : us.length ≤ sizeLine := by
    rw [sizeLine_eq]
    omega
  refine wpAny_call (PySem.MyX.call_kw PySem.F.excBase_ValueError (fun Y => PySem.HandSPX.refsVE_contains Y bm hbm) (I.kIn _ _ hC) (PySem.W.looks_findIn I.kIn iC) (fun self => PySem.W.bind_fn I.kIn self tI) hus
    (codeAny_mono (Fn.run _ X.stack _ _ ⟨Value.ref (hp.objs.size + 1) :: us, kw⟩ (Value.ref (hp.objs.size + 1) :: uz) _ _ E0 (hr.make C us kw) (I2.env0.make C us kw) (hb _ _ I2.kIn) r2 hq) fun r s' hq' => ?_))
  cases r with
  | error er => exact hx pins σ _ _ er s' I2 hq'
  | ok fl =>
    cases fl with
    | ret u =>
      obtain ⟨v, H', I3, rv, ev, q3⟩ := I2.after hq'
      subst ev
      exact ⟨rv, ⟨V.ref (hp.objs.size + 1), H', I3, rfl, q3⟩⟩
    | next => exact False.elim hq'
    | brk => exact False.elim hq'
    | cont => exact False.elim hq'
/-- C(e, ..) as a value -/
def tErr (C : Addr) (sp : Sp) (ta : TA) : TE := fun σ H Q => ta σ H fun vs H1 => vs.length ≤ 1000 ∧ ∀ a, H1 a = none → sp (.ref a :: vs) (upd H1 a (exo a C none)) (fun v H2 => v = .non ∧ Q (.ref a) H2) E0
theorem pe_err {x : Str} {e : Expr} {es : List Expr} {ta : TA} {p pos : Pos} (T : OexC X.K C) (iC : PySem.W.findIn X.K (.ref C) "__init__" = some (some (.ref fI)))
    (tI : PySem.W.typeIn X.K (.ref fI) = some (.type "function")) (Fn : FnOk X.prog X.w X.K X.mg X.base CX k fI fd ps sp) (hr : Room (k + 1) X.A) (hx : Passes CX X E0) (hb : Binds X.K fd ps [])
    (hg : Gl X x) (hm : X.mg x = some (.ref C)) (ha : PA X (e :: es) ta)
    (hdb : (x == ("__debug__" : Str)) = false := by decide) (he : starEach (e :: es) X.env = (false, eval e X.env) :: starEach es X.env := by rfl) (hpl : (backTo pos (starEach es X.env)).any (·.1) = false := by rfl) :
    PE X (.Call (.Name x p) (e :: es) [] pos) (tErr C sp ta) := by
  refine ⟨fun pins s σ H Q I h => ?_⟩
  refine wpAny_Call_Name_kw (ld_glob I hg hm ?_ hdb)
  refine PySem.W.callWith_K (h₀ := X.base) I.ok.mod.kin T.kC (thn (ha.run pos pins s σ H _ I h) fun us s1 ⟨vs, H1, I1, r1, hz, q1⟩ => ⟨I1.kIn, ?_⟩) he hpl
  have l0 : us.length ≤ 1000 := by
    rw [← Paired.length r1]
    exact hz
  have l1 : vs.length + 1 = ps.length := Fn.len _ _ _ _ (q1 (s1.heap.objs.size + 1) (I1.hok.fresh (Nat.le_succ _)))
  refine run_err T iC tI Fn hr hx (fun s a KX => ?_) l0 I1 r1 q1
  have z := hb s (Value.ref a :: us) KX (by rw [List.append_nil, List.length_cons, ← Paired.length r1]; exact l1)
  rw [List.append_nil] at z
  exact z
/-- C(f = e) as a value -/
theorem pe_errK {x kn : Str} {kws : List Keyword} {tk : TA} {p pos : Pos} (T : OexC X.K C) (iC : PySem.W.findIn X.K (.ref C) "__init__" = some (some (.ref fI)))
    (tI : PySem.W.typeIn X.K (.ref fI) = some (.type "function")) (Fn : FnOk X.prog X.w X.K X.mg X.base CX k fI fd ps sp) (hr : Room (k + 1) X.A) (hx : Passes CX X E0)
    (hb : ∀ (s : Shared) (u v : Value), X.K.In s.heap → BindsTo s fd ⟨[u], [(kn, v)]⟩ (ps.zip [u, v])) (hg : Gl X x) (hm : X.mg x = some (.ref C)) (hkw : PK X kws tk)
    (hall : (backToKw pos (keywordEach kws X.env)).all (·.1.isSome) = true := by rfl) (hks : (backToKw pos (keywordEach kws X.env)).filterMap (·.1) = [kn] := by rfl) (hdb : (x == ("__debug__" : Str)) = false := by decide)
    (hpl : ((backTo pos (starEach [] X.env)).any (·.1) || (backToKw pos (keywordEach kws X.env)).any (·.1.isNone)) = false := by rfl) :
    PE X (.Call (.Name x p) [] kws pos) (fun σ H Q => tk σ H fun vs H1 => ∃ v, vs = [v] ∧ tErr C sp (fun _ H Q => Q [v] H) σ H1 Q) := by
  refine ⟨fun pins s σ H Q I h => ?_⟩
  refine wpAny_Call_Name_kw (ld_glob I hg hm ?_ hdb)
  refine PySem.W.callWith_KW0 (h₀ := X.base) I.ok.mod.kin T.kC hall ?_ hpl
  refine thn (hkw.run pos pins s σ H _ I h) fun ws s2 ⟨zs, H2, I2, rz, v, ez, l2, q2⟩ => ⟨I2.kIn, ?_⟩
  rw [hks]
  subst ez
  cases rz with
  | cons rv rn =>
    cases rn
    exact run_err (us := []) T iC tI Fn hr hx (fun s a KX => hb s (.ref a) _ KX) (by decide) I2 (.cons rv .nil) q2
/-- e.f of such a value -/
def tErF (K : PySem.W.Frag) (f : Str) (te : TE) : TE := fun σ H Q => te σ H fun x H1 => ∃ a C v, x = .ref a ∧ ErrAt H1 a C f v ∧ XfC K C ∧ PySem.W.findIn K (.ref C) f = some none ∧ Q v H1
theorem pe_erF {e : Expr} {te : TE} {n : Str} {pos : Pos} (he : PE X e te) (hb : attributeBase e n X.env (eval e X.env) = eval e X.env := by rfl) : PE X (.Attribute e n pos) (tErF X.K n te) := by
  refine ⟨fun pins s σ H Q I h => ?_⟩
  refine attr_of hb (thn (he.run pins s σ H _ I h) fun u s1 hh => ?_)
  obtain ⟨x, H1, I1, rx, a, C, v, ex, ⟨d, ha, hd⟩, T, hno, q⟩ := hh
  subst ex
  obtain rfl : u = Value.ref a := rx
  obtain ⟨t1, ho⟩ := exo_at I1.hok ha
  obtain ⟨mA, hns, hr⟩ := exd_at I1.hok hd
  obtain ⟨od, hod, hl⟩ := lookIn_ns hns
  have l : List.lookup n [(n, v)] = some v := by
    simp [List.lookup]
  obtain ⟨u, hu, ru⟩ := RelO.some_of (v := v) (o := mA n) (by rw [← l]; exact hr n)
  have J : PySem.W.InstAt s1.heap a { cls := .ref C, dict := some d, data := .fields #[.ref t1, .none, .none, .none, .bool false, .none] } C (some od) := ⟨ho, rfl, rfl, hod⟩
  exact HandSPX.exc_get I1.kIn J T.ga T.gg T.exC (PySem.W.findObj_own T.hdC hno rfl (by rw [hl, hu])) (handed_of ru) ⟨v, H1, I1.tok _, ru, q⟩
/-- isinstance(e, D) of such a value, or of one without fields -/
def rIsX (K : PySem.W.Frag) : List V → Hp → VK → Prop := fun xs H Q => ∃ (a C : Addr) (c : V) (u : Value) (b : Bool), xs = [.ref a, c] ∧ ClsV c u ∧ ((∃ f v, ErrAt H a C f v) ∨ H a = some (ExO (.ref C) a)) ∧ XfC K C ∧ KitC K C ∧
  PySem.W.kitOne K (.ref C) u = some b ∧ Q (.bl b) H
theorem call_isX : CallR X (.builtin "isinstance") (rIsX X.K) := by
  intro pins s σ H xs us Q I r h
  obtain ⟨a, C, c, u, b, rfl, kc, ha, T, Z, e, q⟩ := h
  obtain ⟨u1, u2, rfl, r1, r2⟩ := vals2 r
  obtain rfl : u1 = Value.ref a := r1
  have e2 := kc.eq r2
  subst e2
  rcases ha with ⟨f, v, d, ha, hd⟩ | ha
  · obtain ⟨t1, ho⟩ := exo_at I.hok ha
    obtain ⟨mA, hns, hr⟩ := exd_at I.hok hd
    obtain ⟨od, hod, hl⟩ := lookIn_ns hns
    have J : PySem.W.InstAt s.heap a { cls := .ref C, dict := some d, data := .fields #[.ref t1, .none, .none, .none, .bool false, .none] } C (some od) := ⟨ho, rfl, rfl, hod⟩
    exact PySem.W.kia_one (PySem.W.kitx_exc Z.cl T.ga T.gg T.exC Z.at_ Z.sp Z.tk Z.ob) I.kIn J e (fun z => nomatch z) fun tk => ⟨.bl b, H, I.tok tk, rfl, q⟩
  · obtain ⟨⟨oe, vs, ho, hz, hdt, _⟩, _, _⟩ := I.hok a _ ha
    have J : PySem.W.InstAt s.heap a oe C none := ⟨ho, hz.1, by unfold PySem.W.notCls; rw [hdt] <;> rfl, by rw [hz.2]; exact True.intro⟩
    exact PySem.W.kia_one (PySem.W.kitx_exc Z.cl T.ga T.gg T.exC Z.at_ Z.sp Z.tk Z.ob) I.kIn J e (fun z => nomatch z) fun tk => ⟨.bl b, H, I.tok tk, rfl, q⟩
/-- C(), a class without fields -/
theorem pe_exc0 {bmB : List Value} {B newId initId : String} {x : Str} {p pos : Pos} (F : ExcBaseFacts B newId initId bmB) (q : PySem.W.excIn X.K C bmB newId = true) (gC : X.mg x = some (.ref C)) (kC : PySem.W.keepIn X.K (.ref C) = true) (hg : Gl X x)
    (hdb : (x == ("__debug__" : Str)) = false := by decide) :
    PE X (.Call (.Name x p) [] [] pos) (fun _ H Q => ∀ a, H a = none → Q (.ref a) (upd H a (ExO (.ref C) a))) := by
  refine ⟨fun pins s σ H Q I h => ?_⟩
  refine wpAny_Call_Name_kw (ld_glob I hg gC ?_ hdb)
  refine PySem.W.callWith_K0 I.kIn kC ?_
  obtain ⟨bm, N, nm, qn, bs, hdct, sn, sub, ab, col, dd, k0, k1, k2, k3, k5, mN, hC, hN, hni, T⟩ := exc_obj I.kIn q
  refine wpAny_call_exc_subT F T hC hN hni (fun h' a hm => ?_) (Nat.zero_le _)
  have hn : H a = none := I.hok.gone hm.new
  obtain ⟨t, ht, _, _⟩ := hm.there
  exact ⟨.ref a, upd H a (ExO (.ref C) a), I.laidN hm.keeps hm.new hn (exO_ok ht ⟨rfl, rfl⟩ rfl rfl rfl (show 4 < 6 by decide)), rfl, h a hn⟩
end
end My

namespace My
open PySem PySem.Spec PyProof.Rows L2
/-! ### a class of errors with one field -/
/-- what the written part says of the class at C, called x, with the field f; its __init__ stands at fI -/
structure ErrC (K : PySem.W.Frag) (mg : Str → Option Value) (x f : Str) (C fI : Addr) : Prop where
  gl : mg x = some (.ref C)
  oex : OexC K C
  xf : XfC K C
  kit : KitC K C
  iC : PySem.W.findIn K (.ref C) "__init__" = some (some (.ref fI))
  tI : PySem.W.typeIn K (.ref fI) = some (.type "function")
  no : PySem.W.findIn K (.ref C) f = some none
/-- __init__ of an error: the field is stored -/
def spInit (C : Addr) (f : Str) : Sp := fun vs H Q _ => ∃ (a : Addr) (v : V), vs = [.ref a, v] ∧ H a = some (exo a C none) ∧
  ∀ dx, H dx = none → dx ≠ a → Q .non (upd (upd H dx (exd dx [(f, v)])) a (exo a C (some dx)))
section
variable {P : Program} {w : World} {K : PySem.W.Frag} {mg : Str → Option Value} {base : Heap} {C fI : Addr} {fd : FuncData} {x f : Str}
theorem ok_init {st : Stmt} {qual : Str} (T : ErrC K mg x f C fI) (F : FunD K "__init__" qual (defArgs st) (defBody st) (defScope st) [] [] fI fd) (S : FnScope ["self", f] ["self", f] (defScope st))
    (hb : ∃ q1 q2 q3 q4, defBody st = [.Assign [.Attribute (.Name "self" q1) f q2] (.Name f q3) q4]) (d1 : (f == ("__debug__" : Str)) = false) (d2 : (f == ("__classdict__" : Str)) = false) :
    FnOk P w K mg base CX0 1 fI fd ["self", f] (spInit C f) := by
  obtain ⟨q1, q2, q3, q4, hb⟩ := hb
  refine F.ok S (fun vs H Q E h => ?_) (fun cdv A outer s H vs Q E hr h => ⟨_, PSs.nox (by
    rw [hb]
    exact pss_one (ps_ost (pe_var (i := 0) rfl (vis_par S List.mem_cons_self)) (pe_var (i := 1) rfl (vis_par S (List.mem_cons_of_mem _ List.mem_cons_self)) d1 d2))), ?_⟩)
  · obtain ⟨a, v, rfl, _⟩ := h
    rfl
  · obtain ⟨a, v, rfl, ha, q⟩ := h
    exact ⟨_, rfl, _, rfl, a, C, rfl, T.oex, T.no, .inl ⟨ha, fun dx n ne => q dx n ne⟩⟩
/-- all that a caller wants of such a class -/
def Er (P : Program) (w : World) (K : PySem.W.Frag) (mg : Str → Option Value) (base : Heap) (x f : Str) (C : Addr) : Prop := ∃ (fI : Addr) (fd : FuncData), ErrC K mg x f C fI ∧ FnOk P w K mg base CX0 1 fI fd ["self", f] (spInit C f) ∧
  Binds K fd ["self", f] [] ∧ ∀ (s : Shared) (u v : Value), K.In s.heap → BindsTo s fd ⟨[u], [(f, v)]⟩ ((["self", f] : List Str).zip [u, v])
/-- C(e), C(f = e) as values -/
def tEr (C : Addr) (f : Str) (te : TE) : TE := fun σ H Q => te σ H fun v H1 => ∀ a H', H1 a = none → Ext H1 H' → ErrAt H' a C f v → Q (.ref a) H'
theorem tEr_of {C : Addr} {f : Str} {v : V} {H : Hp} {Q : VK} (h : ∀ a H', H a = none → Ext H H' → ErrAt H' a C f v → Q (.ref a) H') {a : Addr} (ha : H a = none) :
    spInit C f [.ref a, v] (upd H a (exo a C none)) (fun z H2 => z = .non ∧ Q (.ref a) H2) E0 := by
  refine ⟨a, v, rfl, upd_same, fun dx n ne => ⟨rfl, ?_⟩⟩
  have hn : H dx = none := by
    rw [upd_ne ne] at n
    exact n
  refine h a _ ha (fun b o e => ?_) ⟨dx, upd_same, ?_⟩
  · rw [upd_ne (ne_of_none e ha), upd_ne (ne_of_none e hn), upd_ne (ne_of_none e ha)]
    exact e
  · rw [upd_ne ne, upd_same]
end
section
variable {X : Cx} {x f : Str} {C : Addr} {e : Expr} {te : TE} {p pos kpos : Pos}
theorem pe_er (E : Er X.prog X.w X.K X.mg X.base x f C) (hr : Room 2 X.A) (he : PE X e te) (hg : Gl X x := by rfl) (hdb : (x == ("__debug__" : Str)) = false := by decide)
    (h1 : starEach [e] X.env = (false, eval e X.env) :: starEach [] X.env := by rfl) (h2 : (backTo pos (starEach [] X.env)).any (·.1) = false := by rfl) :
    PE X (.Call (.Name x p) [e] [] pos) (tEr C f te) := by
  obtain ⟨fI, fd, T, F, b, _⟩ := E
  refine ⟨fun pins s σ H Q I h => ?_⟩
  refine wpAny_Call_Name_kw (ld_glob I hg T.gl ?_ hdb)
  refine PySem.W.callWith_K (h₀ := X.base) I.ok.mod.kin T.oex.kC ?_ h1 h2
  have ha : PA X [e] (tCons te tNil) := pa_cons he pa_nil h1
  refine thn (ha.run pos pins s σ H (fun vs H1 => match vs with | [v] => ∀ a H', H1 a = none → Ext H1 H' → ErrAt H' a C f v → Q (.ref a) H' | _ => False) I h) fun us s1 ⟨vs, H1, I1, r1, q1⟩ => ⟨I1.kIn, ?_⟩
  cases r1 with
  | nil => exact False.elim q1
  | cons rv rn =>
    cases rn with
    | cons _ _ => exact False.elim q1
    | nil =>
      refine run_err T.oex T.iC T.tI F hr pass0 (fun s a KX => b s [Value.ref a, _] KX rfl) (show 1 ≤ 1000 by decide) I1 (.cons rv .nil) fun a ha => tEr_of q1 ha
theorem pe_erK (E : Er X.prog X.w X.K X.mg X.base x f C) (hr : Room 2 X.A) (he : PE X e te) (hg : Gl X x := by rfl) (hdb : (x == ("__debug__" : Str)) = false := by decide)
    (hall : (backToKw pos (keywordEach [⟨some f, e, kpos⟩] X.env)).all (·.1.isSome) = true := by rfl) (hks : (backToKw pos (keywordEach [⟨some f, e, kpos⟩] X.env)).filterMap (·.1) = [f] := by rfl)
    (hpl : ((backTo pos (starEach [] X.env)).any (·.1) || (backToKw pos (keywordEach [⟨some f, e, kpos⟩] X.env)).any (·.1.isNone)) = false := by rfl) :
    PE X (.Call (.Name x p) [] [⟨some f, e, kpos⟩] pos) (tEr C f te) := by
  obtain ⟨fI, fd, T, F, _, b⟩ := E
  refine ⟨fun pins s σ H Q I h => ?_⟩
  refine wpAny_Call_Name_kw (ld_glob I hg T.gl ?_ hdb)
  refine PySem.W.callWith_KW0 (h₀ := X.base) I.ok.mod.kin T.oex.kC hall ?_ hpl
  have ha : PK X [⟨some f, e, kpos⟩] (tCons te tNil) := pk_cons he pk_nil
  refine thn (ha.run pos pins s σ H (fun vs H1 => match vs with | [v] => ∀ a H', H1 a = none → Ext H1 H' → ErrAt H' a C f v → Q (.ref a) H' | _ => False) I h) fun us s1 ⟨vs, H1, I1, r1, q1⟩ => ⟨I1.kIn, ?_⟩
  rw [hks]
  cases r1 with
  | nil => exact False.elim q1
  | cons rv rn =>
    cases rn with
    | cons _ _ => exact False.elim q1
    | nil => exact run_err (us := []) T.oex T.iC T.tI F hr pass0 (fun s a KX => b s _ _ KX) (by decide) I1 (.cons rv .nil) fun a ha => tEr_of q1 ha
end
/-! ### many errors at once -/
def AllErr (H : Hp) (v : V) : List Addr → List (Addr × Str) → Prop
  | [], [] => True
  | a :: as, c :: cs => ErrAt H a c.1 c.2 v ∧ AllErr H v as cs
  | _, _ => False
theorem AllErr.ext {H H' : Hp} {v : V} (x : Ext H H') : ∀ {as : List Addr} {cs : List (Addr × Str)}, AllErr H v as cs → AllErr H' v as cs
  | [], [], _ => True.intro
  | a :: as, c :: cs, h => ⟨h.1.ext x, AllErr.ext x h.2⟩
  | [], _ :: _, h => h.elim
  | _ :: _, [], h => h.elim
theorem AllErr.len {H : Hp} {v : V} : ∀ {as : List Addr} {cs : List (Addr × Str)}, AllErr H v as cs → as.length = cs.length
  | [], [], _ => rfl
  | a :: as, c :: cs, h => by rw [List.length_cons, List.length_cons, AllErr.len h.2]
  | [], _ :: _, h => h.elim
  | _ :: _, [], h => h.elim
theorem AllErr.app {H : Hp} {v : V} : ∀ {as bs : List Addr} {cs ds : List (Addr × Str)}, AllErr H v as cs → AllErr H v bs ds → AllErr H v (as ++ bs) (cs ++ ds)
  | [], _, [], _, _, k => k
  | a :: as, _, c :: cs, _, h, k => ⟨h.1, AllErr.app h.2 k⟩
  | [], _, _ :: _, _, h, _ => h.elim
  | _ :: _, _, [], _, h, _ => h.elim
theorem AllErr.at_ {H : Hp} {v : V} : ∀ {as : List Addr} {cs : List (Addr × Str)} {i : Nat} {c : Addr × Str}, AllErr H v as cs → cs[i]? = some c → ∃ a, as[i]? = some a ∧ ErrAt H a c.1 c.2 v
  | [], [], _, _, _, e => by simp at e
  | a :: as, c :: cs, 0, _, h, e => ⟨a, rfl, by cases e; exact h.1⟩
  | a :: as, c :: cs, i + 1, _, h, e => AllErr.at_ (i := i) h.2 e
  | [], _ :: _, _, _, h, _ => h.elim
  | _ :: _, [], _, _, h, _ => h.elim
def tErL : List (Addr × Str) → TE → TA
  | [], _ => tNil
  | c :: cs, te => tCons (tEr c.1 c.2 te) (tErL cs te)
theorem erL_run {i : Nat} {σ : L2.St} {v : V} (hi : σ[i]? = some (some v)) : ∀ (cs : List (Addr × Str)) (H : Hp) (Q : List V → Hp → Prop), (∀ as H', Ext H H' → AllErr H' v as cs → Q (as.map V.ref) H') → tErL cs (tVar i) σ H Q
  | [], H, Q, h => h [] H Ext.rfl' True.intro
  | c :: cs, H, Q, h => ⟨v, hi, fun a H1 _ x1 e1 => erL_run hi cs H1 _ fun as H2 x2 e2 => h (a :: as) H2 (x1.trans x2) ⟨e1.ext x2, e2⟩⟩
end My

namespace PySem
namespace MyD
open PySem.W Builtin
section
variable {prog : Program} {w : World} {A : Around} {E : Value → Shared → Prop} {s : Shared} {K : Frag} {x C f : Addr} {ox : Obj} {od : Option Obj}
/-- y in x, x an instance with an own __contains__ -/
theorem contains_own {M : Model} {y : Value} {Q : Bool → Shared → Prop} (X : K.In s.heap) (I : InstAt s.heap x ox C od) (hs : findIn K (.ref C) "__contains__" = some (some (.ref f))) (hf : isFn K (.ref f) = true)
    (h : wpAny M A (call (.ref f) [.ref x, y]) (fun r s' => ∃ b, r = .bool b ∧ Q b s') E s) : wpAny M A (contains (.ref x) y) Q E s := by
  have body : wpAny M A (callSpecialUnlessNone? (.ref x) "__contains__" [y] (do rule "in.none"; raiseError "TypeError" s!"'{← typeNameOf (.ref x)}' object is not a container")) (fun r s' => ∃ b, r = some (.bool b) ∧ Q b s') E s := by
    unfold callSpecialUnlessNone?
    refine wpAny_bind (wpAny_bind (I.type.here ((looks_findIn X hs).here ?_)))
    refine wpAny_holding (wpAny_bind ((bind_fn X _ (beq_iff_eq.mp hf)).here ?_))
    refine wpAny_bind (wpAny_mono h (fun r s' hr => ?_) fun _ _ e => e)
    obtain ⟨b, rfl, q⟩ := hr
    exact wpAny_pure ⟨b, rfl, q⟩
  unfold contains
  refine wpAny_holding ?_
  refine wpAny_bind (wpAny_bind (I.type.here ((looks_findIn X hs).here ?_)))
  rw [if_neg (show ¬ (some (Value.ref f) == some Value.none) = true from Bool.false_ne_true)]
  refine wpAny_bind (wpAny_mono body (fun r s' hr => ?_) fun _ _ e => e)
  obtain ⟨b, rfl, q⟩ := hr
  exact wpAny_truthy_bool q
/-- x != b, the class of x with an own __eq__ and object's __ne__ -/
theorem ne_own {b tb : Value} {Q : Value → Shared → Prop} (hu : A.units + 1 < cLine) (X : K.In s.heap) (I : InstAt s.heap x ox C od) (hb : Looks (model prog w) s.heap (typeOf b) tb) (hn : notFirst K C tb = true)
    (hne : findIn K (.ref C) "__ne__" = some (some (.builtin "object.__ne__"))) (hob : mroIn K C (.type "object") = some true) (hs : findIn K (.ref C) "__eq__" = some (some (.ref f))) (hf : isFn K (.ref f) = true)
    (h : wpAny (model prog w) A.in1 (call (.ref f) [.ref x, b]) (fun r s' => ∃ k, r = .bool k ∧ Q (.bool (!k)) s') E s) : wpAny (model prog w) A (richCompare .NotEq (.ref x) b) Q E s := by
  have sub : Looks (model prog w) s.heap (isInstance (.ref x) (.type "object")) true := I.type.andThen (looks_mroIn X hob)
  have go : wpAny (model prog w) A (call (.builtin "object.__ne__") ([.ref x] ++ [b])) (fun v s' => ∃ k, v = .bool (!k) ∧ Q (.bool (!k)) s') E s := by
    show wpAny _ _ (call (.builtin "object.__ne__") [.ref x, b]) _ _ _
    refine wpAny_call (codeAny_call_builtin F.cmp_object.ne.plain F.cmpEntry_ne ?_)
    refine check_slot F.cmpKind_ne F.cmpSplit_ne sub (F.cmpArgs_ne _ _) ?_
    unfold Builtin.«object.__ne__»
    refine wpAny_bind (wpAny_of_eq (a := ((Value.ref x : Value), [b])) (by first | rfl | (simp only [slotArgs]; rfl)) ?_)
    refine wpAny_bind (wpAny_cRoomFor hu ?_)
    refine wpAny_bind (ifBound_K X I hs hf (wpAny_mono h (fun v s' hv => ?_) fun _ _ e => e))
    obtain ⟨k, rfl, q⟩ := hv
    refine wpAny_bind (wpAny_truthy_bool ?_)
    exact wpAny_pure ⟨k, rfl, q⟩
  have bnd : wpAny (model prog w) A (callSpecialIfBound? (.ref x) "__ne__" [b]) (fun r s' => ∃ k, r = some (.bool (!k)) ∧ Q (.bool (!k)) s') E s := by
    simp only [callSpecialIfBound?, bindSpecialIfBound?]
    refine wpAny_holding (wpAny_bind (wpAny_bind (wpAny_bind (I.type.here ((looks_findIn X hne).here ?_)))))
    refine wpAny_bind (wpAny_askSetting (wpAny_ite ?_))
    have fin : wpAny (model prog w) A (call (.builtin "object.__ne__") ([.ref x] ++ [b]) >>= fun v => pure (some v)) (fun r s' => ∃ k, r = some (.bool (!k)) ∧ Q (.bool (!k)) s') E s := by
      refine wpAny_bind (wpAny_mono go (fun v s' hv => ?_) fun _ _ e => e)
      obtain ⟨k, rfl, q⟩ := hv
      exact wpAny_pure ⟨k, rfl, q⟩
    split
    · exact wpAny_bind (wpAny_of_eq (F.cmp_object.ne.bind _) (wpAny_pure (by exact fin)))
    · exact wpAny_tryCatch (wpAny_bind (wpAny_of_eq (F.cmp_object.ne.bind _) (wpAny_pure (by exact fin))))
  have one : wpAny (model prog w) A (tryCompare (.ref x) "__ne__" b) (fun r s' => ∃ v, r = some v ∧ Q v s') E s := by
    unfold tryCompare
    refine wpAny_bind (wpAny_mono bnd (fun r s' hv => ?_) fun _ _ e => e)
    obtain ⟨k, rfl, q⟩ := hv
    exact wpAny_pure ⟨_, rfl, q⟩
  unfold richCompare
  simp only [oneThing_ref]
  refine wpAny_holding (wpAny_bind (wpAny_cRoomFor (by omega) ?_))
  refine wpAny_bind (I.type.here (wpAny_bind (hb.here ?_)))
  split
  · rename_i q
    have e : subIn K tb (.ref C) = some false := by
      rcases Bool.or_eq_true_iff.mp hn with e | e
      · rw [beq_iff_eq.mp e] at q
        simp at q
      · exact beq_iff_eq.mp e
    refine wpAny_bind ((looks_subIn X e).here ?_)
    simp only [Bool.false_eq_true, if_false]
    refine wpAny_bind (wpAny_mono one (fun r s' z => ?_) fun _ _ e => e)
    obtain ⟨v, rfl, hq⟩ := z
    exact wpAny_pure hq
  · refine wpAny_bind (wpAny_pure ?_)
    simp only [Bool.false_eq_true, if_false]
    refine wpAny_bind (wpAny_mono one (fun r s' z => ?_) fun _ _ e => e)
    obtain ⟨v, rfl, hq⟩ := z
    exact wpAny_pure hq
end
end MyD
end PySem

namespace L2
open PySem PySem.Spec PyProof.Rows
/-! ### own operators, run -/
section
variable {X : Cx} {pins : List (Addr × Obj)} {σ : St} {H : Hp} {s : Shared} {CI : CXT} {f : Addr} {fd : FuncData} {ps : List Str} {sp : Sp} {EI : XK} {n : Nat} {A1 : Around}
theorem envSub (I : Inv X pins σ H s) (sb : Sub X n A1) : Env0 X.prog X.w X.K X.mg X.base A1 X.stack s H := by
  have e := I.env0
  exact ⟨by rw [sb.fr]; exact e.frames, e.mod, e.bs, e.bsz, e.funs, e.frf, e.hok, e.bare⟩
theorem rv2 (a : Addr) {y : V} {u : Value} (r : RelV y u) : Vals [V.ref a, y] [Value.ref a, u] := .cons rfl (.cons r .nil)
/-- a known def runs somewhere below the body -/
theorem run_sub {xs : List V} {us : List Value} {Q : VK} {base : Heap} (sb : Sub X n A1) (F : FnOk X.prog X.w X.K X.mg base CI n f fd ps sp) (e0 : Env0 X.prog X.w X.K X.mg base A1 X.stack s H) (hb : Binds X.K fd ps []) (hx : Passes CI X EI)
    (I : Inv X pins σ H s) (rv : Vals xs us) (hsp : sp xs H Q EI) : wpAny (model X.prog X.w) A1 (call (.ref f) us) (EP X pins σ Q) X.xe s := by
  have hl := F.len _ _ _ _ hsp
  have hl' : us.length = ps.length := by rw [← rv.length]; exact hl
  refine wpAny_call (codeAny_mono (F.run A1 X.stack s H ⟨us, []⟩ us xs Q EI sb.room e0 (by
    have := hb s us I.kIn (by simpa using hl')
    simpa using this) rv hsp) fun r s' hq => ?_)
  cases r with
  | error e => exact hx pins σ H s e s' I hq
  | ok fl =>
    cases fl with
    | ret u => exact I.after hq
    | next => exact False.elim hq
    | brk => exact False.elim hq
    | cont => exact False.elim hq
/-- a method under its name -/
structure OwnM (K : PySem.W.Frag) (C : Addr) (m : Str) (f : Addr) : Prop where
  at_ : PySem.W.findIn K (.ref C) m = some (some (.ref f))
  fn : PySem.W.isFn K (.ref f) = true
/-- x in o -/
def rInO (C : Addr) (sp : Sp) (E : XK) : R2 := fun x y H Q => ∃ a dx fs, y = .ref a ∧ H a = some (.ins C dx fs) ∧ sp [.ref a, x] H (fun v H' => ∃ b, v = .bl b ∧ Q (.bl b) H') E
theorem op_inO {C : Addr} (hr : Room n X.A) (M : OwnM X.K C "__contains__" f) (F : FnOk X.prog X.w X.K X.mg X.base CI n f fd ps sp) (hb : Binds X.K fd ps []) (hx : Passes CI X EI) : OpR X (compareOp .In) (rInO C sp EI) := by
  intro pins s σ H x y v u Q I rx ry h
  obtain ⟨a, dx, fs, rfl, ha, hsp⟩ := h
  cases ry
  obtain ⟨mA, J, _⟩ := ins_get I.hok ha
  obtain ⟨od, J, _⟩ := J.look
  show wpAny _ _ (contains (.ref a) v >>= fun z => pure (Value.bool z)) _ _ s
  refine wpAny_bind (wpAny_mono (MyD.contains_own (Q := fun b s' => EP X pins σ Q (.bool b) s') I.kIn J M.at_ M.fn ?_) (fun b s' hb => wpAny_pure hb) fun _ _ z => z)
  refine wpAny_mono (run_sub ⟨hr, rfl⟩ F (envSub I ⟨hr, rfl⟩) hb hx I (rv2 a rx) hsp) (fun w s' hq => ?_) fun _ _ z => z
  obtain ⟨z, H', I', rz, b, rfl, q⟩ := hq
  cases rz
  exact ⟨b, rfl, .bl b, H', I', rfl, q⟩
/-- o == y, o an instance with its own __eq__, y anything whose type is not one below o's class -/
def rEqO (K : PySem.W.Frag) (C : Addr) (sp : Sp) (E : XK) : R2 := fun x y H Q => ∃ a dx fs t, x = .ref a ∧ H a = some (.ins C dx fs) ∧ TyX K H y t ∧ PySem.W.notFirst K C t = true ∧ sp [.ref a, y] H (fun v H' => ∃ b, v = .bl b ∧ Q (.bl b) H') E
theorem op_eqO {C : Addr} (hr : Room n X.A) (M : OwnM X.K C "__eq__" f) (F : FnOk X.prog X.w X.K X.mg X.base CI n f fd ps sp) (hb : Binds X.K fd ps []) (hx : Passes CI X EI) : OpR X (compareOp .Eq) (rEqO X.K C sp EI) := by
  intro pins s σ H x y v u Q I rx ry h
  obtain ⟨a, dx, fs, t, rfl, ha, ty, nf, hsp⟩ := h
  cases rx
  obtain ⟨mA, J, _⟩ := ins_get I.hok ha
  obtain ⟨od, J, _⟩ := J.look
  obtain ⟨m, hF⟩ := I.fr
  obtain ⟨P, Z, p, hx'⟩ := kit_of I ry ty
  show wpAny _ _ (richCompare .Eq (.ref a) u) _ _ _
  refine PySem.W.cmp_K (op := .Eq) (tb := t) hr.units0 hF I.ok.mod.kin J (Z.ty _ _ I.kIn p) nf M.at_ M.fn ?_
  refine wpAny_mono (run_sub ⟨hr, rfl⟩ F (envSub I ⟨hr, rfl⟩) hb hx I (rv2 a ry) hsp) (fun w s' hq => ?_) fun _ _ z => z
  obtain ⟨z, H', I', rz, b, rfl, q⟩ := hq
  cases rz
  exact ⟨.bl b, H', I', rfl, q⟩
/-- o != y -/
def rNeO (K : PySem.W.Frag) (C : Addr) (sp : Sp) (E : XK) : R2 := fun x y H Q => ∃ a dx fs t, x = .ref a ∧ H a = some (.ins C dx fs) ∧ TyX K H y t ∧ PySem.W.notFirst K C t = true ∧ sp [.ref a, y] H (fun v H' => ∃ b, v = .bl b ∧ Q (.bl (!b)) H') E
theorem op_neO {C : Addr} (hr : Room (n + 1) X.A) (M : OwnM X.K C "__eq__" f) (hne : PySem.W.findIn X.K (.ref C) "__ne__" = some (some (.builtin "object.__ne__"))) (hob : PySem.W.mroIn X.K C (.type "object") = some true)
    (F : FnOk X.prog X.w X.K X.mg X.base CI n f fd ps sp) (hb : Binds X.K fd ps []) (hx : Passes CI X EI) : OpR X (compareOp .NotEq) (rNeO X.K C sp EI) := by
  intro pins s σ H x y v u Q I rx ry h
  obtain ⟨a, dx, fs, t, rfl, ha, ty, nf, hsp⟩ := h
  cases rx
  obtain ⟨mA, J, _⟩ := ins_get I.hok ha
  obtain ⟨od, J, _⟩ := J.look
  obtain ⟨P, Z, p, hx'⟩ := kit_of I ry ty
  have sb : Sub X n X.A.in1 := Sub.in1 (⟨hr, rfl⟩ : Sub X (n + 1) X.A)
  show wpAny _ _ (richCompare .NotEq (.ref a) u) _ _ _
  refine MyD.ne_own (by have := hr.un; omega) I.kIn J (Z.ty _ _ I.kIn p) nf hne hob M.at_ M.fn ?_
  refine wpAny_mono (run_sub sb F (envSub I sb) hb hx I (rv2 a ry) hsp) (fun w s' hq => ?_) fun _ _ z => z
  obtain ⟨z, H', I', rz, b, rfl, q⟩ := hq
  cases rz
  exact ⟨b, rfl, .bl (!b), H', I', rfl, q⟩
/-- len(o) -/
def rLenO (C : Addr) (sp : Sp) (E : XK) : List V → Hp → VK → Prop := fun xs H Q => ∃ a dx fs, xs = [.ref a] ∧ H a = some (.ins C dx fs) ∧ sp [.ref a] H (fun v H' => ∃ k : Int, v = .int k ∧ 0 ≤ k ∧ k < 2 ^ 63 ∧ Q (.int k) H') E
theorem call_lenO {C : Addr} (hr : Room (n + 1) X.A) (M : OwnM X.K C "__len__" f) (F : FnOk X.prog X.w X.K X.mg X.base CI n f fd ps sp) (hb : Binds X.K fd ps []) (hx : Passes CI X EI) : CallR X (.builtin "len") (rLenO C sp EI) := by
  intro pins s σ H xs us Q I rv h
  obtain ⟨a, dx, fs, rfl, ha, hsp⟩ := h
  obtain ⟨u, rfl, ru⟩ := rv.one
  cases ru
  obtain ⟨mA, J, _⟩ := ins_get I.hok ha
  obtain ⟨od, J, _⟩ := J.look
  obtain ⟨m, hF⟩ := I.fr
  have sb : Sub X n X.A.in1 := Sub.in1 (⟨hr, rfl⟩ : Sub X (n + 1) X.A)
  refine PySem.W.len_K hF I.ok.mod.kin J M.at_ M.fn ?_
  refine wpAny_mono (run_sub sb F (envSub I sb) hb hx I rv hsp) (fun w s' hq => ?_) fun _ _ z => z
  obtain ⟨z, H', I', rz, k, rfl, k0, k1, q⟩ := hq
  obtain ⟨t, rfl⟩ := rz
  exact ⟨⟨k0, k1⟩, .int k, H', I'.tok _, ⟨_, rfl⟩, q⟩
end
end L2

namespace L2
open PySem PySem.Spec PyProof.Rows
/-! ### a base with room behind it: what is not in it is young -/
def deadO : Obj := ⟨.none, none, .freed, #[]⟩
def padB (h : Heap) (n : Nat) : Heap := ⟨h.objs ++ Array.replicate n deadO, h.life⟩
theorem padB_get (h : Heap) (n : Nat) (b : Addr) : (padB h n).get? b = h.get? b := by
  by_cases k : b < h.objs.size
  · have e : (padB h n).objs[b]? = h.objs[b]? := by show (h.objs ++ Array.replicate n deadO)[b]? = _; rw [Array.getElem?_append_left k]
    unfold Heap.get?
    rw [e]
  · have e : h.get? b = none := by
      unfold Heap.get?
      rw [Array.getElem?_eq_none (Nat.le_of_not_lt k)]
    rw [e]
    unfold Heap.get?
    have e2 : (padB h n).objs[b]? = (Array.replicate n deadO)[b - h.objs.size]? := by
      show (h.objs ++ Array.replicate n deadO)[b]? = _
      rw [Array.getElem?_append_right (Nat.le_of_not_lt k)]
    rw [e2, Array.getElem?_replicate]
    split
    · rename_i q
      split at q
      · cases q; rfl
      · cases q
    · rename_i q
      split at q
      · exact absurd rfl (q _ _ _)
      · rw [if_neg (by assumption)]
theorem padB_size (h : Heap) (n : Nat) : (padB h n).objs.size = h.objs.size + n := by
  show (h.objs ++ Array.replicate n deadO).size = _
  rw [Array.size_append, Array.size_replicate]
theorem padB_keeps (h : Heap) (n : Nat) : ∀ b o, h.get? b = some o → (padB h n).get? b = some o := fun b o e => by rw [padB_get]; exact e
theorem Mod.pad {K : PySem.W.Frag} {mg : Str → Option Value} {base : Heap} (m : Mod K mg base) (n : Nat) : Mod K mg (padB base n) :=
  ⟨fun a o e => padB_keeps _ _ _ _ (m.kin a o e), m.glob.keeps (padB_keeps _ _), m.blt.elim fun mb h => ⟨mb, h.1.keeps (padB_keeps _ _), h.2⟩, m.nolimit.keeps (padB_keeps _ _)⟩
theorem funFrames_pad {h base : Heap} (n : Nat) : ∀ {l : List Env}, h.FunFrames base l → h.FunFrames (padB base n) l
  | [], _ => True.intro
  | _ :: _, ⟨a, ⟨L, o, e1, e2, e3⟩, r⟩ => ⟨a, ⟨L, o, e1, by rw [padB_get]; exact e2, e3⟩, funFrames_pad n r⟩
theorem Env0.pad {P : Program} {w : World} {K : PySem.W.Frag} {mg : Str → Option Value} {base : Heap} {A : Around} {outer : List Env} {s : Shared} {H : Hp} (e : Env0 P w K mg base A outer s H) {n : Nat} (hn : base.objs.size + n ≤ s.heap.objs.size) :
    Env0 P w K mg (padB base n) A outer s H := ⟨e.frames, e.mod.pad n, fun b o q => e.bs b o (by rw [padB_get] at q; exact q), by rw [padB_size]; exact hn, funFrames_pad n e.funs, e.frf, e.hok, e.bare⟩
/-! ### iter(tuple) as a value -/
def itT (l : Addr) (i : Nat) : Obj := { cls := .type "tuple_iterator", data := .fields #[.ref l, .int i 0] }
def ItoT (l it : Addr) : HO := .ext fun h => h.get? it = some (itT l 0)
theorem itoT_ok {P : Program} {w : World} {H : Hp} {h : Heap} {l it : Addr} (e : h.get? it = some (itT l 0)) : ObjOk P w H h it (ItoT l it) := ⟨e, ⟨_, e⟩, fun h1 h2 q k => k _ q⟩
def rIterT (K : PySem.W.Frag) (n : Nat) : List V → Hp → VK → Prop := fun xs H Q => ∃ (l : Addr) (zs : List V), xs = [.ref l] ∧ SqT K H l zs ∧ ∀ it, H it = Option.none → n ≤ it → Q (.ref it) (upd H it (ItoT l it))
section
variable {X : Cx} {pins : List (Addr × Obj)} {σ : St} {H : Hp} {s : Shared}
theorem call_iter_tup {prog : Program} {w : World} {A : Around} {E : Value → Shared → Prop} {l : Addr} {items : Array Value} {Q : Value → Shared → Prop} (hl : s.heap.IsTuple l items) (h : Q (.ref s.heap.objs.size) { s with heap := s.heap.push (itT l 0) }) : wpAny (model prog w) A (call (.builtin "iter") [.ref l]) Q E s := by
  refine Calls.call_function_entry (by decide +kernel) (by decide +kernel) PySem.W.kdk_entry_iter (PySem.W.kdk_args_iter _) ?_
  unfold Builtin.«iter»
  refine wpAny_bind (m := someArgs "iter" 1 2 _) (wpAny_of_eq (a := [Value.ref l]) (by first | rfl | kernel_rfl!) ?_)
  show wpAny _ _ (pyIter (.ref l) >>= _) _ _ _
  refine wpAny_bind (wpAny_pyIter_tuple hl ?_)
  exact wpAny_pure ⟨_, rfl, h⟩
theorem call_iterT : CallR X (.builtin "iter") (rIterT X.K X.base.objs.size) := by
  intro pins s σ H xs us Q I r h
  obtain ⟨l, zs, rfl, hq, q⟩ := h
  obtain ⟨u, rfl, ru⟩ := vals1 r
  cases ru
  obtain ⟨its, rv, pl, hz⟩ := I.tuple hq
  refine call_iter_tup (show s.heap.IsTuple l its.toArray from pl) ?_
  exact ⟨.ref s.heap.objs.size, _, I.laid (t' := s.toks) (fun b u e => Heap.get?_push_of_some _ e) (Nat.le_refl _) (itoT_ok (Heap.get?_push_size _ rfl)), rfl, q _ (I.hok.fresh (Nat.le_refl _)) (Nat.le_trans I.ok.bsz I.sz)⟩
theorem rv1 (a : Addr) : Vals [V.ref a] [Value.ref a] := .cons rfl .nil
/-! ### walked: an instance whose __iter__ gives iter(tuple) -/
/-- what __iter__ promises: N of the instance is a tuple at l -/
def spIter (K : PySem.W.Frag) (C : Addr) (N : Str) (n : Nat) : Sp := fun vs H Q _ => ∃ a dx fs l zs, vs = [.ref a] ∧ H a = some (.ins C dx fs) ∧ fs.lookup N = some (.ref l) ∧ SqT K H l zs ∧ ∀ it, H it = none → n ≤ it → Q (.ref it) (upd H it (ItoT l it))
def iOwn (K : PySem.W.Frag) (C : Addr) (N : Str) (te : TE) : TI := fun σ H R => te σ H fun x H1 => ∃ a dx fs l zs, x = .ref a ∧ H1 a = some (.ins C dx fs) ∧ fs.lookup N = some (.ref l) ∧ SqT K H1 l zs ∧ R (Itt K l) H1
variable {tg e : Expr} {te : TE} {C f : Addr} {fd : FuncData} {N : Str} {ps : List Str} {n : Nat}
theorem pi_own (hr : Room n X.A) (M : OwnM X.K C "__iter__" f) (Fi : ∀ base, FnOk X.prog X.w X.K X.mg base CX0 n f fd ps (spIter X.K C N base.objs.size)) (hb : Binds X.K fd ps []) (he : PE X e te) : PI X tg e (iOwn X.K C N te) := by
  refine ⟨fun pins s σ H R I h => ?_⟩
  refine thn (he.run pins s σ H _ I h) fun v s1 ⟨x, H1, I1, r1, q1⟩ => ?_
  obtain ⟨a, dx, fs, l, zs, rfl, ha, hf, hl, q⟩ := q1
  cases r1
  obtain ⟨mA, J, _⟩ := ins_get I1.hok ha
  obtain ⟨od, J, _⟩ := J.look
  obtain ⟨m, hF⟩ := I1.fr
  have sb : Sub X n X.A := ⟨hr, rfl⟩
  refine PySem.W.owit_iter hF I1.ok.mod.kin J M.at_ M.fn ?_
  have hsz : X.base.objs.size + (X.s_0.heap.objs.size - X.base.objs.size) = X.s_0.heap.objs.size := by have := I1.ok.bsz; omega
  have e0 := (envSub I1 sb).pad (n := X.s_0.heap.objs.size - X.base.objs.size) (by rw [hsz]; exact I1.sz)
  refine wpAny_mono (run_sub (Q := fun v H' => ∃ it, v = .ref it ∧ H1 it = none ∧ X.s_0.heap.objs.size ≤ it ∧ H' = upd H1 it (ItoT l it)) sb (Fi _) e0 hb (EI := fun _ _ _ => False) pass0 I1 (rv1 a) ⟨a, dx, fs, l, zs, rfl, ha, hf, hl, fun it h1 h2 => ⟨it, rfl, h1, by rw [padB_size, hsz] at h2; exact h2, rfl⟩⟩) (fun w s' hq => ?_) fun _ _ z => z
  obtain ⟨z, H', I', rz, it, rfl, hn, hy, rfl⟩ := hq
  cases rz
  have hit : upd H1 it (ItoT l it) it = some (ItoT l it) := upd_same
  have eo : s'.heap.get? it = some (itT l 0) := (I'.hok it _ hit).1
  have st : s'.heap.IsTupleIter it l 0 := ⟨_, eo, rfl, rfl⟩
  unfold PySem.W.OwitIt
  refine wpAny_specialOf st.typeIs PySem.F.slot_tuple_iterator_next.lookup ?_
  have hd : ItX.dropH (upd H1 it (ItoT l it)) it = H1 := ItX.dropH_upd hn
  have I2 := ItX.inv_drop I' (a := it) (φ := fun h => h.get? it = some (itT l 0)) hit
  have fp := ItX.inv_fp I' hit hy
  rw [hd] at I2 fp
  refine ⟨it, [it], _, _, H1, rfl, I2, turn_tuple l it, st, fun b hb => ?_, q⟩
  have e : b = it := by simpa using hb
  rw [e]
  exact fp
end
end L2

namespace PySem
namespace MyE
open PySem.W
/-- enumerate(v), one argument -/
theorem new1 {v : Value} {o : Obj} {H : Heap → Prop} (B : Begins v o H) :
    Meets (Builtin.«enumerate.__new__» ⟨[.type "enumerate", v], []⟩) (fun _ R s => H s.heap ∧
      R (.ok (.ret (.ref (s.heap.push o).objs.size))) { s with heap := (s.heap.push o).push { cls := .type "enumerate", data := .fields #[.none, .bool false, .ref s.heap.objs.size, rawInt 0, .none, .none] } }) :=
  .of_wp fun P1 w1 A1 R1 s1 z => by
    obtain ⟨hp, gs, dr, tk, oz⟩ := s1
    obtain ⟨z1, z2⟩ := z
    have subE := sub_enumerate
    have its : ∀ {A' : Around} {E : Value → Shared → Prop} {Q : Value → Shared → Prop}, Q (.ref hp.objs.size) ⟨hp.push o, gs, dr, tk, oz⟩ → wpAny (model P1 w1) A' (pyIter v) Q E ⟨hp, gs, dr, tk, oz⟩ :=
      fun q => B.iter P1 w1 _ _ ⟨hp, gs, dr, tk, oz⟩ _ z1 q
    wp_walk using its
    refine wpAny_stack_any fun _ => wpAny_pure ?_
    split
    · rename_i c _ _ _ _ _
      cases (c == Value.type "enumerate") <;> (wp_walk using its; exact ⟨_, rfl, z2⟩)
    · wp_walk using its
      exact ⟨_, rfl, z2⟩
theorem call1 {prog : Program} {w : World} {A : Around} {E : Value → Shared → Prop} {s : Shared} {v : Value} {o : Obj} {H : Heap → Prop} {Q : Value → Shared → Prop} (B : Begins v o H) (h1 : H s.heap)
    (h : ∀ h', IsEnum h' (s.heap.objs.size + 1) s.heap.objs.size 0 .none → h'.get? s.heap.objs.size = some o → (∀ b u, s.heap.get? b = some u → h'.get? b = some u) → Q (.ref (s.heap.objs.size + 1)) { s with heap := h' }) :
    wpAny (model prog w) A (call (.type "enumerate") [v]) Q E s := by
  refine callType_new F.called_enumerate (by decide) (F.typeCall_enumerate_1 _) (F.newCall_enumerate_1 _) (fun obj => F.args_object_init_2 obj _) F.entry_enumerate_new (new1 B) ⟨h1, ?_⟩
  have hz : (s.heap.push o).objs.size = s.heap.objs.size + 1 := Heap.size_push ..
  have he := Heap.get?_push_size (s.heap.push o) (o := { cls := .type "enumerate", data := .fields #[.none, .bool false, .ref s.heap.objs.size, rawInt 0, .none, .none] }) rfl
  show _ ∧ _
  rw [hz] at he ⊢
  exact ⟨⟨_, he, rfl⟩, h _ he (Heap.get?_push_of_some _ (Heap.get?_push_size _ B.free)) fun b u x => Heap.get?_push_of_some _ (Heap.get?_push_of_some _ x)⟩
end MyE
end PySem
namespace L2
open PySem PySem.Spec PyProof.Rows
/-! ### enumerate(tuple) -/
def IteT (K : PySem.W.Frag) (a : Addr) : It :=
  ⟨fun i H => ∃ (xs : List V) (x : V), SqT K H a xs ∧ xs[i]? = some x, fun i H v H' => ∃ T x, v = .ref T ∧ H T = none ∧ H' = upd H T (.tup [.int (i : Nat), x]) ∧ ∀ xs, SqT K H a xs → xs[i]? = some x, fun i H => ∃ xs : List V, SqT K H a xs ∧ xs.length = i⟩
theorem enum_ne {h : Heap} {e it l : Addr} {i : Int} {old : Value} {items : Array Value} (he : IsEnum h e it i old) (hl : h.IsTuple l items) : l ≠ e := fun z => by
  obtain ⟨o, ho, _, n, hd⟩ := hl
  rw [z, he] at ho
  cases ho
  cases hd
theorem iterT_ne {h : Heap} {it l : Addr} {i : Nat} {items : Array Value} (hi : h.IsTupleIter it l i) (hl : h.IsTuple l items) : l ≠ it := fun z => by
  obtain ⟨o, ho, _, n, hd⟩ := hl
  obtain ⟨o2, ho2, _, hd2⟩ := hi
  rw [z, ho2] at ho
  cases ho
  rw [hd2] at hd
  cases hd
theorem turn_enumT {P : Program} {w : World} {K : PySem.W.Frag} {elts : List Expr} {kk : Nat} {tpos : Pos} (a e it : Addr) :
    Turn P w K (.Tuple elts kk tpos) (IteT K a) [e, it] e (fun i h => (∃ old, IsEnum h e it ((i : Nat) : Int) old) ∧ h.IsTupleIter it a i ∧ e ≠ it) where
  mem := List.mem_cons_self
  obj := fun i h st b hb => by
    obtain ⟨⟨old, he⟩, ⟨o, ho, hc, hd⟩, _⟩ := st
    rcases List.mem_cons.mp hb with rfl | hb
    · exact ⟨_, he, fun v q => nomatch q⟩
    · rw [List.mem_singleton.mp hb]
      exact ⟨o, ho, fun v q => by rw [hd] at q; cases q⟩
  keep := fun i h h' st k => ⟨st.1.elim fun old z => ⟨old, k e List.mem_cons_self _ z⟩, st.2.1.at fun o q => k it (List.mem_cons_of_mem _ List.mem_cons_self) o q, st.2.2⟩
  item := by
    intro X hP hw hK hc i pins s σ H E I hf st hg
    subst hP hw hK
    obtain ⟨⟨old, he⟩, hit, hne⟩ := st
    obtain ⟨xs, x, hq, hx⟩ := hg
    obtain ⟨its, rv, p, hz⟩ := I.tuple hq
    obtain ⟨u, hu, ru⟩ := rv.get hx
    have pt : s.heap.IsTuple a its.toArray := p
    have hel : e < s.heap.objs.size := Heap.lt_size he
    have hlen : i < its.toArray.size := by
      rw [List.size_toArray]
      exact (List.getElem?_eq_some_iff.mp hu).1
    refine wpAny_pyNext_enum_itemD (Draws.tuple (A := X.A.in1) (I.ok.hd hc) it a (iterT_ne hit pt) its.toArray) he ⟨hit, pt⟩ hlen hne (by
      intro z
      rcases List.mem_cons.mp z with z | z
      · exact hne z
      · exact enum_ne he pt (List.mem_singleton.mp z).symm) fun y h' tk hy ho hit' hT hsz hk => ?_
    have ey : y = u := by
      rw [List.getElem?_toArray, hu] at hy
      exact (Option.some.inj hy).symm
    subst ey
    refine ⟨_, rfl, wpAny_letOwnedTupleGo_enum (s := { s with heap := h', toks := tk + 1 }) ho fun h'' he' sb => ?_⟩
    have hT2 : h''.get? s.heap.objs.size = some { cls := .type "tuple", data := .seq #[.int i tk, y] } := (sb.2 _ (Nat.ne_of_gt hel)).trans hT
    have new : ObjOk X.prog X.w (upd H s.heap.objs.size (.tup [.int (i : Nat), x])) h'' s.heap.objs.size (.tup [.int (i : Nat), x]) :=
      ⟨Nat.le_of_ble_eq_true rfl, [.int i tk, y], .cons ⟨_, rfl⟩ (.cons ru .nil), ⟨_, hT2, rfl, _, rfl⟩⟩
    have I1 : Inv X pins σ (upd H s.heap.objs.size (.tup [.int (i : Nat), x])) { s with heap := h'', toks := tk + 1 } :=
      I.turnedNew (ch := [e, it]) (fun b ob hb q => (sb.2 b (fun z => hb (by simp [z]))).trans (hk b ob (fun z => hb (by simp [z])) (fun z => hb (by simp [z])) q)) hf (Nat.le_refl _) new
    have hfr : H s.heap.objs.size = none := I.hok.fresh (Nat.le_refl _)
    refine ⟨.ref s.heap.objs.size, _, I1, rfl, ⟨_, x, rfl, hfr, rfl, fun ys hy => by rw [I.tuple_inj hy hq]; exact hx⟩, ⟨⟨y, ?_⟩, hit'.1.at fun o q => (sb.2 it (Ne.symm hne)).trans q, hne⟩, fun b hb => ?_⟩
    · have e1 : ((i + 1 : Nat) : Int) = (i : Int) + 1 := by omega
      rw [e1]
      exact he'
    · have bl : b < s.heap.objs.size := by
        rcases List.mem_cons.mp hb with rfl | hb
        · exact hel
        · rw [List.mem_singleton.mp hb]
          obtain ⟨_, z, _⟩ := hit
          exact Heap.lt_size z
      rw [upd_ne (Nat.ne_of_lt bl)]
      exact (hf b hb).1
  done := by
    intro X hP hw hK hc i pins s σ H E I hf st hg
    subst hP hw hK
    obtain ⟨⟨old, he⟩, hit, hne⟩ := st
    obtain ⟨xs, hq, hx⟩ := hg
    obtain ⟨its, rv, p, hz⟩ := I.tuple hq
    obtain ⟨f0, f1, f2, f3, f4, f5⟩ := hf it (List.mem_cons_of_mem _ List.mem_cons_self)
    have pt : s.heap.IsTuple a its.toArray := p
    have hn : its.toArray.size = i := by
      rw [List.size_toArray, ← rv.length]
      exact hx
    exact wpAny_pyNext_enum_endD (Draws.tuple (A := X.A.in1) (I.ok.hd hc) it a (iterT_ne hit pt) its.toArray) he (by rw [hn]; exact ⟨hit, pt⟩) fun h' eb => ⟨rfl, I.turned (t' := s.toks) (fun b o hb q => eb b o hb q) f0 f1 f3 f4 f5⟩
  self := fun A i s Q E st h => st.1.elim fun _ he => wpAny_pyIter_enum he h
def iEnumT (K : PySem.W.Frag) (ta : TA) : TI := fun σ H R => ta σ H fun vs H1 => ∃ a xs, vs = [.ref a] ∧ SqT K H1 a xs ∧ R (IteT K a) H1
/-- enumerate of a list or of a tuple -/
def iEnumS (K : PySem.W.Frag) (ta : TA) : TI := fun σ H R => ta σ H fun vs H1 => ∃ a xs, vs = [.ref a] ∧ ((SqL K H1 a xs ∧ R (Ite K a) H1) ∨ (SqT K H1 a xs ∧ R (IteT K a) H1))
theorem pi_enumS {X : Cx} {e : Expr} {ta : TA} {p pos tpos : Pos} {elts : List Expr} {kk : Nat} (hg : Gl X "enumerate") (hm : X.mg "enumerate" = none) (ha : PA X [e] ta) (hs : starEach [e] X.env = [(false, eval e X.env)] := by rfl) :
    PI X (.Tuple elts kk tpos) (.Call (.Name "enumerate" p) [e] [] pos) (iEnumS X.K ta) := by
  refine ⟨fun pins s σ H R I h => ?_⟩
  refine Call_ (ld_blt I hg hm boot_enumerate (PyProof.Rows.callWith_type1 (thn (ha.run pos pins s σ H _ I h) fun us s1 ⟨vs, H1, I1, r1, q1⟩ => ?_) hs rfl))
  obtain ⟨a, xs, rfl, q⟩ := q1
  obtain ⟨u, rfl, ru⟩ := r1.one
  cases ru
  have young : ∀ b, b ∈ [s1.heap.objs.size + 1, s1.heap.objs.size] → s1.heap.objs.size ≤ b := fun b hb => by
    rcases List.mem_cons.mp hb with z | z
    · rw [z]; exact Nat.le_add_right _ _
    · rw [List.mem_singleton.mp z]; exact Nat.le_refl _
  rcases q with ⟨hq, q⟩ | ⟨hq, q⟩
  · obtain ⟨its, rv, p', hz⟩ := I1.list hq
    refine MyE.call1 (begins_list a its.toArray) p'.isList fun h' he hit hk => wpAny_pyIter_enum he ?_
    exact ⟨s1.heap.objs.size + 1, [s1.heap.objs.size + 1, s1.heap.objs.size], _, _, H1, rfl, I1.kept (t' := s1.toks) hk, turn_enum a (s1.heap.objs.size + 1) s1.heap.objs.size, ⟨⟨.none, he⟩, ⟨_, hit, rfl, rfl⟩, Nat.succ_ne_self _⟩, fun b hb => I1.fpOk (young b hb) (I1.hok.fresh (young b hb)), q⟩
  · obtain ⟨its, rv, p', hz⟩ := I1.tuple hq
    refine MyE.call1 (begins_tuple a its.toArray) (show s1.heap.IsTuple a its.toArray from p') fun h' he hit hk => wpAny_pyIter_enum he ?_
    exact ⟨s1.heap.objs.size + 1, [s1.heap.objs.size + 1, s1.heap.objs.size], _, _, H1, rfl, I1.kept (t' := s1.toks) hk, turn_enumT a (s1.heap.objs.size + 1) s1.heap.objs.size, ⟨⟨.none, he⟩, ⟨_, hit, rfl, rfl⟩, Nat.succ_ne_self _⟩, fun b hb => I1.fpOk (young b hb) (I1.hok.fresh (young b hb)), q⟩
theorem walk_enumT {K : PySem.W.Frag} {a : Addr} {xs : List V} : Walk (IteT K a) xs.length (fun H => SqT K H a xs) (YPair (fun i => some (.int (i : Nat))) (fun i => xs[i]?)) := by
  refine ⟨fun i _ hi q => ⟨xs, xs[i], q, by simp [hi]⟩, fun _ q => ⟨xs, q, rfl⟩, fun i H v H' _ q y => ?_⟩
  obtain ⟨T, x, h1, h2, h3, h4⟩ := y
  exact ⟨T, .int (i : Nat), x, h1, h2, h3, rfl, h4 xs q⟩
end L2

namespace PySem
namespace MyN
open PySem.W Builtin PySem.SeqAt PySem.MeetsSeq MeetsSeq2
open AutoSeq1 (wpAny_loadPart')
/-- str.__eq__ with an object that holds no text -/
theorem str_no_plain (b : Str) (u : Tok) (l : Addr) (ob : Obj) (hd : ob.data = .plain) :
    Meets (Builtin.«str.__eq__» ⟨[.str b u, .ref l], []⟩) (fun _ R s => s.heap.get? l = some ob ∧ R (.ok (.ret .notImplemented)) s) :=
  .of_wp fun P1 w1 A1 R1 s1 z => by
    obtain ⟨hp, gs, dr, tk, oz⟩ := s1
    obtain ⟨z1, z2⟩ := z
    obtain ⟨oc, od, dt, sl⟩ := ob
    simp only at hd
    subst hd
    wp_walk using wpAny_loadPart' z1, wpAny_load z1
    exact ⟨_, rfl, z2⟩
theorem str_no_dict (b : Str) (u : Tok) (l : Addr) (ob : Obj) (es : Array DictEntry) (ep : Nat) (hd : ob.data = .dict es ep) :
    Meets (Builtin.«str.__eq__» ⟨[.str b u, .ref l], []⟩) (fun _ R s => s.heap.get? l = some ob ∧ R (.ok (.ret .notImplemented)) s) :=
  .of_wp fun P1 w1 A1 R1 s1 z => by
    obtain ⟨hp, gs, dr, tk, oz⟩ := s1
    obtain ⟨z1, z2⟩ := z
    obtain ⟨oc, od, dt, sl⟩ := ob
    simp only at hd
    subst hd
    wp_walk using wpAny_loadPart' z1, wpAny_load z1
    exact ⟨_, rfl, z2⟩
/-- dict.__eq__ with a text -/
theorem dict_no_str (b : Str) (u : Tok) (l : Addr) (ob : Obj) (hc : ob.cls = .type "dict") :
    Meets (Builtin.«dict.__eq__» ⟨[.ref l, .str b u], []⟩) (fun _ R s => s.heap.get? l = some ob ∧ R (.ok (.ret .notImplemented)) s) :=
  .of_wp fun P1 w1 A1 R1 s1 z => by
    obtain ⟨hp, gs, dr, tk, oz⟩ := s1
    obtain ⟨z1, z2⟩ := z
    obtain ⟨oc, od, dt, sl⟩ := ob
    simp only at hc
    subst hc
    have f1 := F.sub_str_dict
    wp_walk using wpAny_loadPart' z1, wpAny_load z1
    exact ⟨_, rfl, z2⟩
theorem eq_str_dict {A : Around} {s : Shared} {l : Addr} {ob : Obj} {es : Array DictEntry} {ep : Nat} (b : Str) (u : Tok) (hl : s.heap.get? l = some ob) (hc : ob.cls = .type "dict") (hd : ob.data = .dict es ep) (hu : A.units < cLine) : EqAt A s (.str b u) (.ref l) false := fun prog w E Q h => by
  unfold eqBool
  refine wpAny_holding ?_
  refine wpAny_ite_split (fun hab => absurd (eq_of_beq hab) nofun) (fun _ => ?_)
  refine wpAny_bind (rc_eq_decline_or (k := false) (typeIs_str s b u) ⟨_, hl, hc⟩ (by decide) F.sub_dict_str F.slot_str_eq F.slot_dict_eq_refl
    (fun _ hq => call_meets F.slot_str_eq (typeIs_str s b u) F.entry_str_eq (F.args_str_eq_2 _ _) (str_no_dict b u l ob es ep hd) ⟨hl, hq⟩)
    (fun _ hq => call_meets F.slot_dict_eq_refl ⟨_, hl, hc⟩ F.entry_dict_eq (F.args_dict_eq_2 _ _) (dict_no_str b u l ob hc) ⟨hl, hq⟩)
    (fun _ hq => wpAny_of_eq (rfl : isSame (.str b u) (.ref l) = pure false) hq) (.inr hu) (wpAny_truthy_bool h))
section
variable {prog : Program} {w : World} {A : Around} {E : Value → Shared → Prop} {s : Shared} {K : Frag} {x C f : Addr} {ox : Obj} {od : Option Obj}
/-- text == x, x an instance with its own __eq__: that one is asked -/
theorem eqb_str_own {b : Str} {u : Tok} {Q : Bool → Shared → Prop} (hu : A.units < cLine) (X : K.In s.heap) (I : InstAt s.heap x ox C od) (hp : ox.data = .plain) (nf : subIn K (.ref C) (.type "str") = some false)
    (hs : findIn K (.ref C) "__eq__" = some (some (.ref f))) (hf : isFn K (.ref f) = true)
    (h : wpAny (model prog w) A (call (.ref f) [.ref x, .str b u]) (fun r s' => ∃ k, r = .bool k ∧ Q k s') E s) : wpAny (model prog w) A (eqBool (.str b u) (.ref x)) Q E s := by
  have hx : s.heap.get? x = some ox := I.1
  have one : wpAny (model prog w) A (tryCompare (.ref x) "__eq__" (.str b u)) (fun r s' => ∃ k, r = some (.bool k) ∧ Q k s') E s := by
    unfold tryCompare
    refine wpAny_bind (ifBound_K X I hs hf (wpAny_mono h (fun v s' hv => ?_) fun _ _ e => e))
    obtain ⟨k, rfl, q⟩ := hv
    exact wpAny_pure ⟨k, rfl, q⟩
  unfold eqBool
  refine wpAny_holding ?_
  refine wpAny_ite_split (fun hab => absurd (eq_of_beq hab) nofun) (fun _ => ?_)
  refine wpAny_bind ?_
  have z := (typeIs_str s b u)
  simp only [richCompare, z.oneThing_none]
  refine wpAny_holding (wpAny_bind (wpAny_cRoomFor_or (.inr hu) ?_))
  refine wpAny_bind (wpAny_typeOf z (wpAny_bind (I.type.here ?_)))
  have ne : (Value.type "str" != Value.ref C) = true := rfl
  simp only [ne, if_true]
  refine wpAny_bind ((looks_subIn X nf).here ?_)
  simp only [Bool.false_eq_true, if_false, Bool.not_false, if_true]
  refine wpAny_bind (m := tryCompare (.str b u) _ (.ref x)) (wpAny_tryCompare_declines z F.slot_str_eq (call_meets F.slot_str_eq z F.entry_str_eq (F.args_str_eq_2 _ _) (str_no_plain b u x ox hp) ⟨hx, rfl, ?_⟩))
  refine wpAny_bind (m := tryCompare (.ref x) _ (.str b u)) (wpAny_mono one (fun r s' hr => ?_) fun _ _ e => e)
  obtain ⟨k, rfl, q⟩ := hr
  exact wpAny_pure (wpAny_truthy_bool q)
/-- x in a tuple, none of the items is equal to x; I stands all along -/
theorem in_none {l : Addr} {items : Array Value} {y : Value} {Q : Value → Shared → Prop} (J : Shared → Prop) (hl : s.heap.IsTuple l items)
    (turn : ∀ v, v ∈ items → ∀ s', J s' → wpAny (model prog w) A.in1 (eqBool v y) (fun r s2 => r = false ∧ J s2) E s') (fin : ∀ s', J s' → Q (.bool false) s') (h : J s) :
    wpAny (model prog w) A (compareOp .In y (.ref l)) Q E s := by
  obtain ⟨⟨cls, dd, data, sl⟩, ho, hc, n, hd⟩ := id hl
  simp only at hc hd
  subst hc hd
  have hT : s.TypeIs (.ref l) "tuple" := ⟨_, ho, rfl⟩
  have body : wpAny (model prog w) A (call (.builtin "tuple.__contains__") [.ref l, y]) (fun v s' => v = .bool false ∧ J s') E s := by
    refine GQ.call_here F.slot_tuple_contains hT F.entry_tuple_contains (F.args_tuple_contains_2 _ _) ?_
    obtain ⟨hp, gs, dr, tk, oz⟩ := s
    have go : ∀ v, v ∈ items.toList → ∀ s', J s' → wpAny (model prog w) A.in1 (eqBool v y) (fun r s2 => r = false ∧ J s2) (fun e s' => wants (fun v s' => v = Value.bool false ∧ J s') E (.error e) s') s' := fun v hv s' hj => turn v (by simpa using hv) s' hj
    wp_walk using wpAny_loadPart' ho, wpAny_forIn_array _ (fun rest b s' => b.1 = none ∧ (∀ v, v ∈ rest → v ∈ items.toList) ∧ J s') _
    case turn =>
      rintro v rest b s' ⟨hb, hmem, hJ⟩
      refine wpAny_bind (wpAny_mono (go v (hmem v (List.mem_cons_self ..)) s' hJ) (fun r s2 q => ?_) fun _ _ e => e)
      obtain ⟨rfl, hJ2⟩ := q
      wp_walk
      exact ⟨rfl, fun z hz => hmem z (List.mem_cons_of_mem _ hz), hJ2⟩
    case fin =>
      rintro ⟨b1, b2⟩ s' ⟨hb, -, hJ⟩
      simp only at hb
      subst hb
      wp_walk
      exact ⟨rfl, hJ⟩
    case h =>
      exact ⟨rfl, fun v hv => by simpa using hv, h⟩
  show wpAny _ A (do return .bool (← contains (.ref l) y)) Q E s
  refine wpAny_bind (wpAny_contains_slot hT F.slot_tuple_contains (wpAny_mono body (fun v s' hv => ?_) fun _ _ e => e))
  obtain ⟨rfl, hJ⟩ := hv
  exact wpAny_truthy_bool (wpAny_pure (fin s' hJ))
end
end MyN
end PySem

namespace L2
open PySem PySem.Spec PyProof.Rows
section
variable {X : Cx} {CI : CXT} {f : Addr} {fd : FuncData} {ps : List Str} {sp : Sp} {EI : XK} {n : Nat} {C : Addr}
/-- a list, a tuple or a dict -/
def NoText (K : PySem.W.Frag) (H : Hp) (x : V) : Prop := (∃ a xs, x = .ref a ∧ (SqL K H a xs ∨ SqT K H a xs)) ∨ ∃ a kvs, x = .ref a ∧ H a = some (.dK kvs)
theorem NoText.eqAt {pins : List (Addr × Obj)} {σ : St} {H : Hp} {s : Shared} {A : Around} {x : V} {u : Value} (I : Inv X pins σ H s) (rx : RelV x u) (h : NoText X.K H x) (hu : A.units < cLine) (b : Str) (t : Tok) : SeqAt.EqAt A s (.str b t) u false := by
  rcases h with ⟨a, xs, rfl, h | h⟩ | ⟨a, kvs, rfl, h⟩
  · cases rx
    obtain ⟨its, r, pl, _⟩ := I.list h
    exact SeqAt.EqAt.str_list b t pl.isList hu
  · cases rx
    obtain ⟨its, r, pl, _⟩ := I.tuple h
    exact SeqAt.EqAt.str_tuple b t (show s.heap.IsTuple a its.toArray from pl) hu
  · cases rx
    obtain ⟨_, _, vs, _, o, es, ep, h1, h2, h3, _⟩ := (show ObjOk X.prog X.w H s.heap a (.dK kvs) from I.hok a _ h)
    exact MyN.eq_str_dict b t h1 h2.1 h3 hu
theorem vals_str : ∀ {zs : List Str} {us : List Value}, Vals (zs.map V.str) us → ∀ u ∈ us, ∃ z t, z ∈ zs ∧ u = .str z t
  | [], _, .nil, u, hu => by cases hu
  | z :: zs, _, .cons r t, u, hu => by
    rcases List.mem_cons.mp hu with rfl | hu
    · obtain ⟨t, e⟩ := r
      exact ⟨z, t, List.mem_cons_self, e⟩
    · obtain ⟨z', t', h1, h2⟩ := vals_str t u hu
      exact ⟨z', t', List.mem_cons_of_mem _ h1, h2⟩
/-- x in a tuple of texts, x a list, a tuple, a dict -/
def rInN (K : PySem.W.Frag) : R2 := fun x y H Q => ∃ (p : Addr) (zs : List Str), y = .ref p ∧ SqT K H p (zs.map V.str) ∧ NoText K H x ∧ Q (.bl false) H
theorem op_inN (hu : X.A.units + 1 < cLine) : OpR X (compareOp .In) (rInN X.K) := by
  intro pins s σ H x y v u Q I rx ry h
  obtain ⟨p, zs, rfl, hq, nt, q⟩ := h
  cases ry
  obtain ⟨its, r, pl, hz⟩ := I.tuple hq
  refine SeqAt.in_tupleAt (fun _ => false) (show s.heap.IsTuple p its.toArray from pl) (fun w hw => ?_) ⟨.bl _, H, I, rfl, ?_⟩
  · obtain ⟨z, t, _, rfl⟩ := vals_str r w (by simpa using hw)
    exact nt.eqAt I rx (show X.A.in1.units < cLine from hu) z t
  · rw [show its.toArray.any (fun _ => false) = false by simp]
    exact q
/-- x in a tuple of texts, x an instance with its own == that gives False for them -/
def rInI (K : PySem.W.Frag) (C : Addr) (sp : Sp) (E : XK) : R2 := fun x y H Q => ∃ (p : Addr) (zs : List Str) (a dx : Addr) (fs : List (Str × V)), y = .ref p ∧ SqT K H p (zs.map V.str) ∧ x = .ref a ∧ H a = some (.ins C dx fs) ∧
  (∀ z H1, z ∈ zs → Ext H H1 → sp [.ref a, .str z] H1 (fun v H2 => v = .bl false ∧ Ext H1 H2) E) ∧ ∀ H', Ext H H' → Q (.bl false) H'
theorem op_inI (hr : Room (n + 1) X.A) (M : OwnM X.K C "__eq__" f) (nf : PySem.W.subIn X.K (.ref C) (.type "str") = some false) (F : FnOk X.prog X.w X.K X.mg X.base CI n f fd ps sp) (hb : Binds X.K fd ps []) (hx : Passes CI X EI) : OpR X (compareOp .In) (rInI X.K C sp EI) := by
  intro pins s σ H x y v u Q I rx ry h
  obtain ⟨p, zs, a, dx, fs, rfl, hq, rfl, ha, hsp, q⟩ := h
  cases ry
  cases rx
  obtain ⟨its, r, pl, hz⟩ := I.tuple hq
  have sb : Sub X n X.A.in1 := Sub.in1 (⟨hr, rfl⟩ : Sub X (n + 1) X.A)
  refine MyN.in_none (fun s' => ∃ H', Inv X pins σ H' s' ∧ Ext H H') (show s.heap.IsTuple p its.toArray from pl) (fun w hw s' hJ => ?_) (fun s' hJ => ?_) ⟨H, I, Ext.rfl'⟩
  · obtain ⟨z, t, hz, rfl⟩ := vals_str r w (by simpa using hw)
    obtain ⟨H', I', x'⟩ := hJ
    have ha' := x' _ _ ha
    obtain ⟨mA, J, _⟩ := ins_get I'.hok ha'
    obtain ⟨od, J, _⟩ := J.look
    refine MyN.eqb_str_own sb.room.units0 I'.kIn J rfl nf M.at_ M.fn ?_
    refine wpAny_mono (run_sub sb F (envSub I' sb) hb hx I' (rv2 a (y := .str z) (u := .str z t) ⟨t, rfl⟩) (hsp z H' hz x')) (fun w2 s2 hq2 => ?_) fun _ _ z => z
    obtain ⟨y2, H2, I2, rz, rfl, x2⟩ := hq2
    cases rz
    exact ⟨false, rfl, rfl, H2, I2, x'.trans x2⟩
  · obtain ⟨H', I', x'⟩ := hJ
    exact ⟨.bl false, H', I', rfl, q H' x'⟩
end
end L2

namespace L2
open PySem PySem.Spec PyProof.Rows
/-- C(..) where __init__ may raise, wished for at the caller's slots -/
def tMakeS (C : Addr) (sp : Sp) (ws : List V) (W : L2.St → XK) (t : TA) : TE := fun σ H Q => t σ H fun vs H1 => ∀ x dx, H1 x = none → H1 dx = none → dx ≠ x →
  sp (.ref x :: (vs ++ ws)) (upd (upd H1 dx (.own x)) x (.ins C dx [])) (fun v H2 => v = .non ∧ Q (.ref x) H2) (W σ)
section
variable {X : Cx} {CI : CXT} {n : Nat} {fI C : Addr} {fd : FuncData} {ps : List Str} {sp : Sp} {ws : List V} {wu : List Value} {W : L2.St → XK} {x : Str} {p pos : Pos} {e : Expr} {es : List Expr} {t : TA}
theorem make_sub {pins : List (Addr × Obj)} {σ : L2.St} {H : Hp} {s : Shared} {Q : VK} {us : List Value} {vs : List V} {EW : XK} (M : Mk X.K C fI) (Fi : FnOk X.prog X.w X.K X.mg X.base CI n fI fd ps sp) (room : Room (n + 1) X.A)
    (bi : Binds X.K fd ps wu) (rw' : Vals ws wu) (let_ : PassesAt CI X σ EW) (I : Inv X pins σ H s) (rv : Vals vs us)
    (go : ∀ y dy, H y = none → H dy = none → dy ≠ y → sp (.ref y :: (vs ++ ws)) (upd (upd H dy (.own y)) y (.ins C dy [])) (fun v H2 => v = .non ∧ Q (.ref y) H2) EW) :
    wpAny (model X.prog X.w) X.A (call (.ref C) us) (EP X pins σ Q) X.xe s := by
  have want := go (s.heap.objs.size + 1) s.heap.objs.size (I.hok.fresh (Nat.le_succ _)) (I.hok.fresh (Nat.le_refl _)) (Nat.ne_of_lt (Nat.lt_succ_self _))
  have J := Inv.made (C := C) I
  have all : Vals (V.ref (s.heap.objs.size + 1) :: (vs ++ ws)) (Value.ref (s.heap.objs.size + 1) :: (us ++ wu)) := .cons rfl (rv.append rw')
  have many : (Value.ref (s.heap.objs.size + 1) :: us ++ wu).length = ps.length := all.length.symm.trans (Fi.len _ _ _ _ want)
  have ran := Fi.run _ X.stack _ _ ⟨Value.ref (s.heap.objs.size + 1) :: us, []⟩ _ _ _ EW (room.make C us []) (J.env0.make C us []) (bi _ _ J.kIn many) all want
  refine wpAny_call (make_map (f := fI) I.kIn M.makes M.init (beq_iff_eq.mp M.fn) (codeAny_mono ran ?_))
  rintro (er | fl) s' back
  · exact let_ pins _ _ er s' J back
  · cases fl with
    | ret u =>
      obtain ⟨v, H', J', ru, ⟨ev, q⟩⟩ := J.after back
      subst ev
      exact ⟨ru, .ref _, H', J', rfl, q⟩
    | next => exact back.elim
    | brk => exact back.elim
    | cont => exact back.elim
theorem pe_makeS (M : Mk X.K C fI) (Fi : FnOk X.prog X.w X.K X.mg X.base CI n fI fd ps sp) (room : Room (n + 1) X.A) (gl : Gl X x) (gm : X.mg x = some (.ref C)) (bi : Binds X.K fd ps wu) (rw' : Vals ws wu) (let_ : ∀ σ, PassesAt CI X σ (W σ))
    (ha : PA X (e :: es) t) (nd : (x == ("__debug__" : Str)) = false := by decide) (h1 : starEach (e :: es) X.env = (false, eval e X.env) :: starEach es X.env := by rfl) (h2 : (backTo pos (starEach es X.env)).any (·.1) = false := by rfl) :
    PE X (.Call (.Name x p) (e :: es) [] pos) (tMakeS C sp ws W t) :=
  ⟨fun pins s σ H Q I h => wpAny_Call_Name_kw (ld_glob I gl gm (PySem.W.callWith_K (h₀ := X.base) I.ok.mod.kin M.kp (thn (ha.run pos pins s σ H _ I h) fun _ _ ⟨_, _, I1, r, q⟩ => ⟨I1.kIn, make_sub M Fi room bi rw' (let_ σ) I1 r q⟩) h1 h2) nd)⟩
end
end L2

namespace L2
open PySem PySem.Spec PyProof.Rows
/-- a dict == a text -/
def rEqDS : R2 := fun x y H Q => ∃ a kvs z, x = .ref a ∧ y = .str z ∧ H a = some (.dK kvs) ∧ Q (.bl false) H
theorem op_eqDS {X : Cx} (hu : X.A.units < cLine) : OpR X (compareOp .Eq) rEqDS := by
  intro pins s σ H x y v u Q I rx ry h
  obtain ⟨a, kvs, z, rfl, rfl, ha, q⟩ := h
  cases rx
  obtain ⟨t, rfl⟩ := ry
  obtain ⟨_, _, vs, _, o, es, ep, h1, h2, h3, _⟩ := (show ObjOk X.prog X.w H s.heap a (.dK kvs) from I.hok a _ ha)
  show wpAny _ _ (richCompare .Eq (.ref a) (.str z t)) _ _ s
  exact SeqAt.rc_eq_decline_or (k := false) ⟨_, h1, h2.1⟩ (PySem.typeIs_str s z t) (by decide) F.sub_str_dict F.slot_dict_eq F.slot_str_eq_refl
    (fun _ hq => call_meets F.slot_dict_eq ⟨_, h1, h2.1⟩ F.entry_dict_eq (F.args_dict_eq_2 _ _) (MyN.dict_no_str z t a o h2.1) ⟨h1, hq⟩)
    (fun _ hq => call_meets F.slot_str_eq_refl (PySem.typeIs_str s z t) F.entry_str_eq (F.args_str_eq_2 _ _) (MyN.str_no_dict z t a o es ep h3) ⟨h1, hq⟩)
    (fun _ hq => wpAny_of_eq (rfl : isSame (.ref a) (.str z t) = pure false) hq) (.inr hu) ⟨.bl false, H, I, rfl, q⟩
end L2

namespace L2
open PySem PySem.Spec PyProof.Rows
theorem wp_notB {M : Model} {A : Around} {E : Value → Shared → Prop} {s : Shared} {m : Sem Bool} {Q Q' : Value → Shared → Prop}
  (h : wpAny M A (m >>= fun z => pure (Value.bool z)) Q E s) (hq : ∀ b s', Q (.bool b) s' → Q' (.bool (!b)) s') : wpAny M A (m >>= fun z => pure (Value.bool (!z))) Q' E s := by
  intro Γ p hi
  have z := h Γ p hi
  have z2 : Sem.wp M Γ (m.bind fun z => Sem.pure (Value.bool z)) (fun a x s' => Q a s') (fun e x s' => E e s') p s := z
  show Sem.wp M Γ (m.bind fun z => Sem.pure (Value.bool (!z))) (fun a x s' => Q' a s') (fun e x s' => E e s') p s
  rw [Sem.wp_bind] at z2 ⊢
  exact Sem.wp_mono _ _ _ (fun a p' s' q => hq a s' q) (fun _ _ _ e => e) _ _ z2
def rNot (r : R2) : R2 := fun x y H Q => r x y H (fun v H' => ∃ b, v = .bl b ∧ Q (.bl (!b)) H')
theorem OpR.notIn {X : Cx} {r : R2} (h : OpR X (compareOp .In) r) : OpR X (compareOp .NotIn) (rNot r) := by
  intro pins s σ H x y v u Q I rx ry h2
  have z := h pins s σ H x y v u _ I rx ry h2
  refine wp_notB z fun b s' q => ?_
  obtain ⟨w, H', I', rw', c, rfl, q⟩ := q
  have e : b = c := by cases rw'; rfl
  subst e
  exact ⟨.bl (!b), H', I', rfl, q⟩
end L2

namespace L2
open PySem
theorem SqT.extX {K : PySem.W.Frag} {H H' : Hp} {a : Addr} {xs : List V} (h : SqT K H a xs) (e : Ext H H') : SqT K H' a xs := SqT.ext h e
theorem TyX.ext {K : PySem.W.Frag} {H H' : Hp} {x : V} {t : Value} (h : TyX K H x t) (e : Ext H H') : TyX K H' x t := by
  cases h with
  | base h =>
    refine .base ?_
    cases h with
    | non => exact .non
    | bl x => exact .bl x
    | int i => exact .int i
    | str x => exact .str x
    | flt x => exact .flt x
    | lst z => exact .lst (e _ _ z)
    | frz z => exact .frz (e _ _ z)
    | tup z => exact .tup (e _ _ z)
    | dK z => exact .dK (e _ _ z)
    | dT z => exact .dT (e _ _ z)
    | ins z a b c d f => exact .ins (e _ _ z) a b c d f
  | byt b => exact .byt b
  | set z => exact .set (e _ _ z)
  | kList z c => exact .kList z c
  | kTuple z c => exact .kTuple z c
  | kDict z c => exact .kDict z c
  | fTuple z => exact .fTuple (e _ _ z)
  | fDict z => exact .fDict (e _ _ z)
/-- a place that was free may be written -/
theorem Ext.over {H H' : Hp} {D : Addr} {o : HO} (x : Ext H H') (h : H D = none) : Ext H (L2.upd H' D o) := fun a u e => by
  rw [upd_ne (ne_of_none e h)]
  exact x a u e
theorem tyx_lst {K : PySem.W.Frag} {H : Hp} {a : Addr} {xs : List V} (h : H a = some (.lst xs)) : TyX K H (.ref a) (.type "list") := .base (.lst h)
theorem tyx_tup {K : PySem.W.Frag} {H : Hp} {a : Addr} {xs : List V} (h : H a = some (.tup xs)) : TyX K H (.ref a) (.type "tuple") := .base (.tup h)
end L2
namespace My
open PySem PySem.Spec PyProof.Rows L2
theorem scIsList : FnScope ["thing"] ["thing"] (defScope sIsList) := ⟨rfl, rfl, rfl, by decide +kernel, rfl, by decide +kernel, by decide +kernel⟩
theorem scIsName : FnScope ["thing", "letter"] ["thing"] (defScope sIsName) := ⟨rfl, rfl, rfl, by decide +kernel, rfl, by decide +kernel, by decide +kernel⟩
theorem lcYes {σ : L2.St} {H : Hp} {A B : Hp → Prop} (h : A H) : tYes σ H (fun b H3 => if b = true then A H3 else B H3) := by
  show (if true = true then A H else B H)
  rw [if_pos rfl]
  exact h
def letters : Str := "abcdefghijklmnopqrstuvwxyz"
def signB (z : Str) : List Bool := z.cps.toList.map fun c => decide (c ∈ letters.cps.toList)
theorem sign_snoc {z : Str} {i c : Nat} (h : z.cps[i]? = some c) : (signB z).take i ++ [decide (c ∈ letters.cps.toList)] = (signB z).take (i + 1) := by
  have e : (signB z)[i]? = some (decide (c ∈ letters.cps.toList)) := by
    unfold signB
    rw [List.getElem?_map, Array.getElem?_toList, h]
    rfl
  rw [List.take_add_one, e]
  rfl
def nameB (z : Str) : Bool := decide ((1 : Int) ≤ z.length) && (decide ((z.length : Int) ≤ 8) && (signB z).all id)
/-- isinstance(x, (list, tuple)) -/
def spIsList (K : PySem.W.Frag) : Sp := fun vs H Q _ => ∃ x t b, vs = [x] ∧ TyX K H x t ∧ PySem.W.kitAny K t [.type "list", .type "tuple"] = some b ∧ ∀ H', Ext H H' → Q (.bl b) H'
/-- whether x is a name -/
def spIsName (K : PySem.W.Frag) : Sp := fun vs H Q _ => ∃ x, vs = [x] ∧ ((∃ z, x = .str z ∧ z.length ≤ sizeLine ∧ ∀ H', Ext H H' → Q (.bl (nameB z)) H') ∨ (∃ t, TyX K H x t ∧ PySem.W.kitOne K t (.type "str") = some false ∧ ∀ H', Ext H H' → Q (.bl false) H'))
section
variable {P : Program} {w : World} {K : PySem.W.Frag} {mg : Str → Option Value} {base : Heap} {f : Addr} {fd : FuncData}
theorem ok_isList (Fn : FnP K "is_list" sIsList f fd) (gI : mg "isinstance" = none) (gL : mg "list" = none) (gT : mg "tuple" = none) : FnOk P w K mg base CX0 1 f fd ["thing"] (spIsList K) := by
  refine Fn.ok scIsList (fun vs H Q E h => ?_) (fun cdv A outer s H vs Q E hr h => ⟨_, PSs.nox
    (pss_one (ps_ret (pe_callB call_isiT (by rfl) gI boot_isinstance (pa_cons (pv 0) (pa_cons (pe_tup (pa_cons (pe_bltn (v := .ty "list") (by rfl) gL boot_list rfl) (pa_cons (pe_bltn (v := .ty "tuple") (by rfl) gT boot_tuple rfl) pa_nil))) pa_nil))))), ?_⟩)
  · obtain ⟨x, t, b, rfl, _⟩ := h
    rfl
  · obtain ⟨x, t, b, rfl, ty, kt, q⟩ := h
    exact ⟨_, rfl, Nat.le_of_ble_eq_true rfl, fun p hp => ⟨x, p, [.ty "list", .ty "tuple"], t, _, b, rfl, upd_same, .cons (.ty _) (.cons (.ty _) .nil), ty.ext (Ext.upd hp), kt, q _ (Ext.upd hp)⟩⟩
theorem ok_isName (Fn : FnP K "is_name" sIsName f fd) (gI : mg "isinstance" = none) (gS : mg "str" = none) (gN : mg "len" = none) (gA : mg "all" = none) {t8 tL : Tok} (g8 : mg "LONGEST" = some (.int 8 t8)) (gL : mg "LETTERS" = some (.str letters tL)) :
    FnOk P w K mg base CX0 1 f fd ["thing"] (spIsName K) := by
  refine Fn.ok scIsName (fun vs H Q E h => ?_) (fun cdv A outer s H vs Q E hr h => ⟨_, PSs.nox
    (pss_cons (ps_if (PW.pt (pw_or (pt_not (pt_val (pe_callB call_isi (by rfl) gI boot_isinstance (pa_cons (pv 0) (pa_cons (pe_bltn (v := .ty "str") (by rfl) gS boot_str rfl) pa_nil)))))
        (pw_or1 (pt_not (pt_chain op_le op_le pe_int (pe_callB call_len (by rfl) gN boot_len (pa_cons (pv 0) pa_nil)) (pe_glob (v := .int 8) (by rfl) g8 ⟨_, rfl⟩)))))) (pss_one (ps_ret pe_bl)) pss_nil)
    (pss_one (ps_ret (pe_callB (cr_all rfl) (by rfl) gA boot_all (pa_cons (pe_lc (own := [("letter", 1)]) (g := gName 1) (tt := tYes) rfl scIsName.nd (pi_str (pv 0)) (blkOk_by (N := ["thing", "letter"]) (sc := defScope sIsName) (by decide +kernel))
      (fun _ _ _ _ _ => pg_name (i := 1) scIsName.nd rfl (Or.inl rfl)) (fun _ _ _ _ _ => pts_nil) (fun _ _ _ _ _ => pe_cmpR op_in_sign (pv 1) (pe_glob (v := .str letters) (by rfl) gL ⟨_, rfl⟩) (by rfl))) pa_nil))))), ?_⟩)
  · obtain ⟨x, rfl, _⟩ := h
    rfl
  · obtain ⟨x, rfl, h⟩ := h
    rcases h with ⟨z, rfl, hz, q⟩ | ⟨t, ty, kt, q⟩
    · refine ⟨_, rfl, .str z, .ty "str", .type "str", .type "str", true, rfl, .ty _, .base (.str _), kit_ty (by decide +kernel), true, rfl, ?_⟩
      refine iteF ?_
      refine ⟨_, rfl, .str z, z.length, rfl, ⟨hz, rfl⟩, _, _, rfl, rfl, _, rfl, ?_⟩
      refine ite2 (fun h1 => ?_) (fun h1 => ?_)
      · refine ⟨_, _, rfl, rfl, _, rfl, ?_⟩
        refine ite2 (fun h2 => ?_) (fun h2 => ?_)
        · have h2' : (!decide ((z.length : Int) ≤ 8)) = true := h2
          have q1 := q H Ext.rfl'
          have e : nameB z = false := by
            unfold nameB
            rw [show decide ((z.length : Int) ≤ 8) = false by simpa using h2', Bool.false_and, Bool.and_false]
          rw [e] at q1
          exact q1
        · have e2 : decide ((z.length : Int) ≤ 8) = true := by simpa using h2
          have e1 : decide ((1 : Int) ≤ z.length) = true := h1
          refine ⟨_, rfl, _, rfl, fun D hD => lc_it (walk_str (z := z)) (fun i H' => Ext H H' ∧ H' D = some (.lst (((signB z).take i).map V.bl))) ⟨Ext.upd hD, upd_same⟩ (fun _ _ _ _ => True.intro) ?_ ?_⟩
          · intro i x H1 H2 hi ⟨x1, l1⟩ hy
            obtain ⟨rfl, c, hc, rfl⟩ := hy
            refine ⟨rfl, ?_⟩
            refine lcYes ?_
            refine ⟨_, rfl, c, letters, rfl, rfl, _, l1, ?_, ?_, ?_⟩
            · rw [List.length_map, List.length_take]
              exact Nat.lt_of_le_of_lt (Nat.min_le_left _ _) (Nat.lt_of_lt_of_le hi hz)
            · exact x1.over hD
            · rw [upd_same, ← sign_snoc hc, List.map_append]
              rfl
          · intro H1 ⟨x1, l1⟩
            refine ⟨D, signB z, rfl, ?_, ?_⟩
            · have e : (signB z).take z.cps.size = signB z := by
                rw [List.take_of_length_le]
                unfold signB
                rw [List.length_map, Array.length_toList]
                exact Nat.le_refl _
              rw [e] at l1
              exact SqL.of l1
            · have e : nameB z = (signB z).all id := by
                unfold nameB
                rw [e1, e2, Bool.true_and, Bool.true_and]
              rw [← e]
              exact q H1 x1
      · have e1 : decide ((1 : Int) ≤ z.length) = false := by simpa using h1
        have e : nameB z = false := by
          unfold nameB
          rw [e1, Bool.false_and]
        have q1 := q H Ext.rfl'
        rw [e] at q1
        exact ⟨_, rfl, q1⟩
    · refine ⟨_, rfl, x, .ty "str", t, .type "str", false, rfl, .ty _, ty, kt, false, rfl, ?_⟩
      exact q _ Ext.rfl'
end
end My

namespace My
open PySem PySem.Spec PyProof.Rows L2
theorem scWrongName : FnScope ["things", "at", "thing"] ["things"] (defScope sWrongName) := ⟨rfl, rfl, rfl, by decide +kernel, rfl, by decide +kernel, by decide +kernel⟩
/-- what may be told to is_name -/
def Thing (K : PySem.W.Frag) (H : Hp) (x : V) : Prop := (∃ z, x = .str z ∧ z.length ≤ sizeLine) ∨ ((∀ z, x ≠ .str z) ∧ ∃ t, TyX K H x t ∧ PySem.W.kitOne K t (.type "str") = some false)
theorem Thing.ext {K : PySem.W.Frag} {H H' : Hp} {x : V} (h : Thing K H x) (e : Ext H H') : Thing K H' x := by
  rcases h with h | ⟨n, t, ty, k⟩
  · exact .inl h
  · exact .inr ⟨n, t, ty.ext e, k⟩
def nameV : V → Bool
  | .str z => nameB z
  | _ => false
theorem nameV_flat {x : V} (h : nameV x = true) : flatV x = true := by
  cases x <;> first | rfl | exact absurd (show false = true from h) Bool.false_ne_true
/-- the i-th is no name or stood before -/
def badAt (xs : List V) (i : Nat) : Bool := match xs[i]? with
  | some y => !nameV y || inV y (xs.take i)
  | none => false
def SeqAt2 (K : PySem.W.Frag) (H : Hp) (a : Addr) (xs : List V) : Prop := SqL K H a xs ∨ SqT K H a xs
theorem SeqAt2.ext {K : PySem.W.Frag} {H H' : Hp} {a : Addr} {xs : List V} (h : SeqAt2 K H a xs) (e : Ext H H') : SeqAt2 K H' a xs := h.elim (fun z => .inl (z.ext e)) fun z => .inr (z.ext e)
/-- the first wrong one's place | None -/
def spWrongName (K : PySem.W.Frag) : Sp := fun vs H Q _ => ∃ a xs, vs = [.ref a] ∧ SeqAt2 K H a xs ∧ (∀ y ∈ xs, Thing K H y) ∧ (∀ H', Ext H H' → (∀ i, i < xs.length → badAt xs i = false) → Q .non H') ∧
  ∀ i H', Ext H H' → i < xs.length → badAt xs i = true → (∀ j, j < i → badAt xs j = false) → Q (.int (i : Nat)) H'
theorem cut_take {xs : List V} {i : Nat} (h : i < xs.length) : cutV xs none (some ((i : Nat) : Int)) = xs.take i := by
  unfold cutV
  rw [HT.sIx_none, HT.sIx_nat, Nat.min_eq_left (Nat.le_of_lt h), Nat.sub_zero, List.drop_zero]
theorem flat_take {xs : List V} {i : Nat} (hb : ∀ j, j < i → badAt xs j = false) : (xs.take i).all flatV = true := by
  rw [List.all_eq_true]
  intro y hy
  obtain ⟨j, hj, e⟩ := List.getElem_of_mem hy
  rw [List.length_take] at hj
  have h2 : xs[j]? = some y := by
    rw [List.getElem_take] at e
    rw [← e]
    exact List.getElem?_eq_getElem _
  have h3 := hb j (Nat.lt_of_lt_of_le hj (Nat.min_le_left _ _))
  unfold badAt at h3
  rw [h2] at h3
  have h4 : nameV y = true := by
    cases h5 : nameV y with
    | true => rfl
    | false =>
      rw [show (match some y with | some y => !nameV y || inV y (xs.take j) | none => false) = (!nameV y || inV y (xs.take j)) from rfl, h5] at h3
      exact absurd h3 (by simp)
  exact nameV_flat h4
section
variable {P : Program} {w : World} {K : PySem.W.Frag} {mg : Str → Option Value} {base : Heap} {f fN : Addr} {fd fdN : FuncData}
theorem ok_wrongName (Fn : FnP K "wrong_name" sWrongName f fd) (FN : FnOk P w K mg base CX0 1 fN fdN ["thing"] (spIsName K)) (gN : mg "is_name" = some (.ref fN)) (kN : PySem.W.keepIn K (.ref fN) = true) (bN : Binds K fdN ["thing"] []) (gE : mg "enumerate" = none) :
    FnOk P w K mg base CX0 2 f fd ["things"] (spWrongName K) := by
  refine Fn.ok scWrongName (fun vs H Q E h => ?_) (fun cdv A outer s H vs Q E hr h => ⟨_, PSs.nox
    (pss_cons (ps_for PassesOwn.never rfl (pi_enumS (by rfl) gE (pa_cons (pv 0) pa_nil)) (pg_tup rfl (pgs_cons (pg_name (i := 1) scWrongName.nd rfl (Or.inl rfl)) (pgs_cons (pg_name (i := 2) scWrongName.nd rfl (Or.inl rfl)) pgs_nil)))
      (pss_one (ps_if (PW.pt (pw_or (pt_not (pt_val (pe_call FN hr (by rfl) gN kN bN .nil pass0 (pa_cons (pv 2) pa_nil))))
        (pw_or1 (pt_cmpR op_in_seq (pv 2) (pe_slice (sl_list.or sl_tupA) (pv 0) po_none (po_some (pv 1))) (by rfl))))) (pss_one (ps_ret (pv 1))) pss_nil)))
    (pss_one (ps_ret pe_non))), ?_⟩)
  · obtain ⟨a, xs, rfl, _⟩ := h
    rfl
  · obtain ⟨a, xs, rfl, sq, th, q0, q1⟩ := h
    refine ⟨_, rfl, a, xs, rfl, ?_⟩
    rcases sq with sq | sq
    · refine .inl ⟨sq, ?_⟩
      refine for_it (walk_enum (xs := xs)) (fun i σ H' => Ext H H' ∧ (∃ u v, σ = [some (.ref a), u, v]) ∧ ∀ j, j < i → badAt xs j = false) ⟨Ext.rfl', ⟨none, none, rfl⟩, fun j hj => absurd hj (Nat.not_lt_zero _)⟩ (fun i σ H' _ p => sq.ext p.1) ?_ ?_
      · intro i x σ H1 H2 hi p y
        obtain ⟨x1, ⟨u, v, rfl⟩, hb⟩ := p
        obtain ⟨T, y1, y2, rfl, hT, rfl, e1, e2⟩ := y
        cases e1
        have e2 : xs[i]? = some y2 := e2
        have x2 : Ext H (upd H1 T (.tup [.int i, y2])) := x1.upd' hT
        refine ⟨T, _, rfl, SqT.of upd_same, rfl, _, _, rfl, _, _, rfl, rfl, ?_⟩
        have hmem : y2 ∈ xs := List.mem_of_getElem? e2
        have notbad : badAt xs i = false → ∀ j, j < i + 1 → badAt xs j = false := fun h j hj => by
          rcases Nat.lt_or_eq_of_le (Nat.le_of_lt_succ hj) with z | z
          · exact hb j z
          · rw [z]; exact h
        have eb : badAt xs i = (!nameV y2 || inV y2 (xs.take i)) := by
          unfold badAt
          rw [e2]
        have bad : badAt xs i = true → ∀ H', Ext H H' → Q (.int (i : Nat)) H' := fun h H' z => q1 i H' z hi h hb
        rcases th y2 hmem with ⟨z, rfl, hz⟩ | ⟨hns, t, ty, kt⟩
        · refine ⟨_, rfl, _, rfl, .inl ⟨z, rfl, hz, fun H3 x3 => ?_⟩⟩
          refine ⟨nameB z, rfl, ?_⟩
          have x13 : Ext H H3 := x2.trans x3
          cases hn : nameB z with
          | false =>
            exact ⟨_, rfl, bad (by rw [eb]; show (!nameB z || _) = true; rw [hn]; rfl) H3 x13⟩
          | true =>
            have fl := flat_take hb
            have cont : ∀ H4, Ext H H4 → (if inV (.str z) (xs.take i) = true then (∃ v, ([some (.ref a), some (.int (i : Nat)), some (.str z)] : L2.St)[1]? = some (some v) ∧ Q v H4) else Ext H H4 ∧ (∃ u v, ([some (.ref a), some (.int (i : Nat)), some (.str z)] : L2.St) = [some (.ref a), u, v]) ∧ ∀ j, j < i + 1 → badAt xs j = false) := fun H4 x4 => by
              cases hi2 : inV (.str z) (xs.take i) with
              | true => exact ⟨_, rfl, bad (by rw [eb, hi2, Bool.or_true]) H4 x4⟩
              | false => exact ⟨x4, ⟨_, _, rfl⟩, notbad (by rw [eb, hi2]; show (!nameB z || false) = false; rw [hn]; rfl)⟩
            refine ⟨_, rfl, _, rfl, _, rfl, _, rfl, .inl ⟨a, xs, rfl, sq.ext x13, fun p hp => ?_⟩⟩
            rw [cut_take hi]
            refine ⟨p, _, rfl, .inl (SqL.of upd_same), rfl, fl, _, rfl, ?_⟩
            exact cont _ (x13.upd' hp)
        · refine ⟨_, rfl, _, rfl, .inr ⟨t, ty.ext x2, kt, fun H3 x3 => ?_⟩⟩
          refine ⟨false, rfl, ?_⟩
          exact ⟨_, rfl, bad (by
            rw [eb]
            have e : nameV y2 = false := by
              cases y2 <;> first | rfl | exact absurd rfl (hns _)
            rw [e]; rfl) H3 (x2.trans x3)⟩
      · intro σ H1 p
        exact q0 H1 p.1 p.2.2
    · refine .inr ⟨sq, ?_⟩
      refine for_it (walk_enumT (xs := xs)) (fun i σ H' => Ext H H' ∧ (∃ u v, σ = [some (.ref a), u, v]) ∧ ∀ j, j < i → badAt xs j = false) ⟨Ext.rfl', ⟨none, none, rfl⟩, fun j hj => absurd hj (Nat.not_lt_zero _)⟩ (fun i σ H' _ p => sq.ext p.1) ?_ ?_
      · intro i x σ H1 H2 hi p y
        obtain ⟨x1, ⟨u, v, rfl⟩, hb⟩ := p
        obtain ⟨T, y1, y2, rfl, hT, rfl, e1, e2⟩ := y
        cases e1
        have e2 : xs[i]? = some y2 := e2
        have x2 : Ext H (upd H1 T (.tup [.int i, y2])) := x1.upd' hT
        refine ⟨T, _, rfl, SqT.of upd_same, rfl, _, _, rfl, _, _, rfl, rfl, ?_⟩
        have hmem : y2 ∈ xs := List.mem_of_getElem? e2
        have notbad : badAt xs i = false → ∀ j, j < i + 1 → badAt xs j = false := fun h j hj => by
          rcases Nat.lt_or_eq_of_le (Nat.le_of_lt_succ hj) with z | z
          · exact hb j z
          · rw [z]; exact h
        have eb : badAt xs i = (!nameV y2 || inV y2 (xs.take i)) := by
          unfold badAt
          rw [e2]
        have bad : badAt xs i = true → ∀ H', Ext H H' → Q (.int (i : Nat)) H' := fun h H' z => q1 i H' z hi h hb
        rcases th y2 hmem with ⟨z, rfl, hz⟩ | ⟨hns, t, ty, kt⟩
        · refine ⟨_, rfl, _, rfl, .inl ⟨z, rfl, hz, fun H3 x3 => ?_⟩⟩
          refine ⟨nameB z, rfl, ?_⟩
          have x13 : Ext H H3 := x2.trans x3
          cases hn : nameB z with
          | false =>
            exact ⟨_, rfl, bad (by rw [eb]; show (!nameB z || _) = true; rw [hn]; rfl) H3 x13⟩
          | true =>
            have fl := flat_take hb
            have cont : ∀ H4, Ext H H4 → (if inV (.str z) (xs.take i) = true then (∃ v, ([some (.ref a), some (.int (i : Nat)), some (.str z)] : L2.St)[1]? = some (some v) ∧ Q v H4) else Ext H H4 ∧ (∃ u v, ([some (.ref a), some (.int (i : Nat)), some (.str z)] : L2.St) = [some (.ref a), u, v]) ∧ ∀ j, j < i + 1 → badAt xs j = false) := fun H4 x4 => by
              cases hi2 : inV (.str z) (xs.take i) with
              | true => exact ⟨_, rfl, bad (by rw [eb, hi2, Bool.or_true]) H4 x4⟩
              | false => exact ⟨x4, ⟨_, _, rfl⟩, notbad (by rw [eb, hi2]; show (!nameB z || false) = false; rw [hn]; rfl)⟩
            refine ⟨_, rfl, _, rfl, _, rfl, _, rfl, .inr ⟨a, xs, rfl, sq.ext x13, fun hw => ?_, fun _ p hp => ?_⟩⟩
            · have h2 := hw.2
              rw [HT.sIx_nat, Nat.min_eq_left (Nat.le_of_lt hi)] at h2
              exact absurd hi (by omega)
            rw [cut_take hi]
            refine ⟨p, _, rfl, .inr (SqT.of upd_same), rfl, fl, _, rfl, ?_⟩
            exact cont _ (x13.upd' hp)
        · refine ⟨_, rfl, _, rfl, .inr ⟨t, ty.ext x2, kt, fun H3 x3 => ?_⟩⟩
          refine ⟨false, rfl, ?_⟩
          exact ⟨_, rfl, bad (by
            rw [eb]
            have e : nameV y2 = false := by
              cases y2 <;> first | rfl | exact absurd rfl (hns _)
            rw [e]; rfl) H3 (x2.trans x3)⟩
      · intro σ H1 p
        exact q0 H1 p.1 p.2.2
end
end My

namespace L2
open PySem
theorem tyx_sqL {K : PySem.W.Frag} {H : Hp} {a : Addr} {xs : List V} (h : SqL K H a xs) : TyX K H (.ref a) (.type "list") := by
  rcases h with (h | ⟨o, h⟩) | ⟨o, its, n, h1, h2, _⟩
  · exact .base (.lst h)
  · exact .base (.frz h)
  · exact .kList h1 h2
theorem tyx_sqT {K : PySem.W.Frag} {H : Hp} {a : Addr} {xs : List V} (h : SqT K H a xs) : TyX K H (.ref a) (.type "tuple") := by
  rcases h with (h | ⟨o, h⟩) | ⟨o, its, n, h1, h2, _⟩
  · exact .base (.tup h)
  · exact .fTuple h
  · exact .kTuple h1 h2
end L2
namespace My
open PySem PySem.Spec PyProof.Rows L2
theorem scWrongPart : FnScope ["folders", "things", "at"] ["folders", "things"] (defScope sWrongPart) := ⟨rfl, rfl, rfl, by decide +kernel, rfl, by decide +kernel, by decide +kernel⟩
def optV : Option Nat → V
  | none => .non
  | some i => .int (i : Nat)
def wrongOf (xs : List V) : Option Nat := (List.range xs.length).find? (badAt xs)
def spWN (K : PySem.W.Frag) : Sp := fun vs H Q _ => ∃ a xs, vs = [.ref a] ∧ SeqAt2 K H a xs ∧ (∀ y ∈ xs, Thing K H y) ∧ ∀ H', Ext H H' → Q (optV (wrongOf xs)) H'
theorem wrong_none {xs : List V} (h : ∀ i, i < xs.length → badAt xs i = false) : wrongOf xs = none := List.find?_range_eq_none.mpr fun i hi => by rw [h i hi]; rfl
theorem wrong_some {xs : List V} {i : Nat} (hi : i < xs.length) (h : badAt xs i = true) (h2 : ∀ j, j < i → badAt xs j = false) : wrongOf xs = some i := List.find?_range_eq_some.mpr ⟨h, List.mem_range.mpr hi, fun j hj => by rw [h2 j hj]; rfl⟩
theorem wn_imp {K : PySem.W.Frag} (vs : List V) (H : Hp) (Q : VK) (E : XK) (h : spWN K vs H Q E) : spWrongName K vs H Q E := by
  obtain ⟨a, xs, rfl, sq, th, q⟩ := h
  refine ⟨a, xs, rfl, sq, th, fun H' x h => ?_, fun i H' x hi h h2 => ?_⟩
  · have z := q H' x
    rw [wrong_none h] at z
    exact z
  · have z := q H' x
    rw [wrong_some hi h h2] at z
    exact z
/-- a list or a tuple of things, or neither -/
def Lk (K : PySem.W.Frag) (H : Hp) (x : V) : Option (List V) → Prop
  | some xs => ∃ a, x = .ref a ∧ SeqAt2 K H a xs ∧ ∀ y ∈ xs, Thing K H y
  | none => ∃ t, TyX K H x t ∧ PySem.W.kitAny K t [.type "list", .type "tuple"] = some false
theorem Lk.ext {K : PySem.W.Frag} {H H' : Hp} {x : V} {o : Option (List V)} (h : Lk K H x o) (e : Ext H H') : Lk K H' x o := by
  cases o with
  | none =>
    obtain ⟨t, ty, k⟩ := h
    exact ⟨t, ty.ext e, k⟩
  | some xs =>
    obtain ⟨a, rfl, sq, th⟩ := h
    exact ⟨a, rfl, sq.ext e, fun y hy => (th y hy).ext e⟩
theorem Lk.kit {K : PySem.W.Frag} {H : Hp} {x : V} {o : Option (List V)} (h : Lk K H x o) : ∃ t, TyX K H x t ∧ PySem.W.kitAny K t [.type "list", .type "tuple"] = some o.isSome := by
  cases o with
  | none => exact h
  | some xs =>
    obtain ⟨a, rfl, sq, _⟩ := h
    rcases sq with sq | sq
    · exact ⟨_, tyx_sqL sq, kitAny_cons (b := true) (kit_ty (by decide +kernel)) (fun z => nomatch z) (fun _ => rfl)⟩
    · exact ⟨_, tyx_sqT sq, kitAny_cons (b := false) (kit_ty (by decide +kernel)) (fun _ => kitAny_cons (b := true) (kit_ty (by decide +kernel)) (fun z => nomatch z) (fun _ => rfl)) (fun z => nomatch z)⟩
theorem kit_no {K : PySem.W.Frag} {a : String} (h1 : kitB a "list" = some false) (h2 : kitB a "tuple" = some false) : PySem.W.kitAny K (.type a) [.type "list", .type "tuple"] = some false :=
  kitAny_cons (b := false) (kit_ty h1) (fun _ => kitAny_cons (b := false) (kit_ty h2) (fun _ => kitAny_nil) (fun z => nomatch z)) (fun z => nomatch z)
/-- BadHouse's index | None -/
def partOf (o o' : Option (List V)) : Option Nat := match o with
  | none => some 0
  | some xs => if xs.length = 0 then some 0 else match o' with
    | some ys => wrongOf (xs ++ ys)
    | none => match wrongOf xs with
      | none => some xs.length
      | some i => some i
def spWrongPart (K : PySem.W.Frag) : Sp := fun vs H Q _ => ∃ x y o o', vs = [x, y] ∧ Lk K H x o ∧ Lk K H y o' ∧ (∀ xs ys, o = some xs → o' = some ys → (xs ++ ys).length ≤ sizeLine) ∧ ∀ H', Ext H H' → Q (optV (partOf o o')) H'
section
variable {P : Program} {w : World} {K : PySem.W.Frag} {mg : Str → Option Value} {base : Heap} {f fL fW : Addr} {fd fdL fdW : FuncData}
theorem ok_wrongPart (Fn : FnP K "wrong_part" sWrongPart f fd) (FL : FnOk P w K mg base CX0 1 fL fdL ["thing"] (spIsList K)) (gL : mg "is_list" = some (.ref fL)) (kL : PySem.W.keepIn K (.ref fL) = true) (bL : Binds K fdL ["thing"] [])
    (FW : FnOk P w K mg base CX0 2 fW fdW ["things"] (spWN K)) (gW : mg "wrong_name" = some (.ref fW)) (kW : PySem.W.keepIn K (.ref fW) = true) (bW : Binds K fdW ["things"] []) (gN : mg "len" = none) :
    FnOk P w K mg base CX0 3 f fd ["folders", "things"] (spWrongPart K) := by
  refine Fn.ok scWrongPart (fun vs H Q E h => ?_) (fun cdv A outer s H vs Q E hr h => ⟨_, PSs.nox
    (pss_cons (ps_if (PW.pt (pw_or (pt_not (pt_val (pe_call FL (hr.mono (by decide)) (by rfl) gL kL bL .nil pass0 (pa_cons (pv 0) pa_nil)))) (pw_or1 (pt_cmpR op_eq (pe_callB call_len (by rfl) gN boot_len (pa_cons (pv 0) pa_nil)) pe_int (nomark _))))) (pss_one (ps_ret pe_int)) pss_nil)
    (pss_cons (ps_if (pt_val (pe_call FL (hr.mono (by decide)) (by rfl) gL kL bL .nil pass0 (pa_cons (pv 1) pa_nil))) (pss_one (ps_ret (pe_call FW hr (by rfl) gW kW bW .nil pass0 (pa_cons (pe_lst (StX.pa_star (pv 0) (StX.pa_star (pv 1) pa_nil))) pa_nil)))) pss_nil)
    (pss_cons (ps_set (i := 2) scWrongPart.nd rfl (.inl rfl) (pe_call FW hr (by rfl) gW kW bW .nil pass0 (pa_cons (pv 0) pa_nil)))
    (pss_one (ps_ret (pe_ifExp (pt_cmpR op_isN (pv 2) pe_non (nomark _)) (pe_callB call_len (by rfl) gN boot_len (pa_cons (pv 0) pa_nil)) (pv 2))))))), ?_⟩)
  · obtain ⟨x, y, o, o', rfl, _⟩ := h
    rfl
  · obtain ⟨x, y, o, o', rfl, hx, hy, hz, q⟩ := h
    obtain ⟨tx, tyx, kx⟩ := hx.kit
    refine ⟨x, rfl, x, tx, _, rfl, tyx, kx, fun H1 x1 => ?_⟩
    refine ⟨_, rfl, ?_⟩
    cases o with
    | none => exact q H1 x1
    | some xs =>
      obtain ⟨a, rfl, sq, th⟩ := hx
      have sq1 := sq.ext x1
      refine iteF ?_
      refine ⟨_, rfl, _, xs.length, rfl, ?_, rfl, _, rfl, ?_⟩
      · exact sq1.elim (fun z => .inl ⟨_, z, rfl⟩) fun z => .inr ⟨_, z, rfl⟩
      refine ite2 (fun h0 => ?_) (fun h0 => ?_)
      · have e : partOf (some xs) o' = some 0 := if_pos (by simpa using h0)
        have z := q H1 x1
        rw [e] at z
        exact z
      · have n0 : ¬ xs.length = 0 := by simpa using h0
        obtain ⟨ty, tyy, ky⟩ := (hy.ext x1).kit
        refine ⟨y, rfl, y, ty, _, rfl, tyy, ky, fun H2 x2 => ?_⟩
        refine ⟨_, rfl, ?_⟩
        have sq2 := sq1.ext x2
        have th2 : ∀ z ∈ xs, Thing K H2 z := fun z hz => ((th z hz).ext x1).ext x2
        cases o' with
        | some ys =>
          obtain ⟨b, rfl, sqy, thy⟩ := hy
          have sy2 := (sqy.ext x1).ext x2
          refine iteT ?_
          refine ⟨_, rfl, a, xs, rfl, sq2.symm, _, rfl, b, ys, rfl, sy2.symm, ?_⟩
          have hlen := hz xs ys rfl rfl
          refine ⟨(show (xs ++ (ys ++ [])).length ≤ sizeLine by rw [List.append_nil]; exact hlen), fun p hp => ⟨p, xs ++ ys, rfl, .inl (SqL.of (by rw [upd_same, List.append_nil])), fun z hz => ?_, fun H3 x3 => ?_⟩⟩
          · refine Thing.ext ?_ (Ext.upd hp)
            rcases List.mem_append.mp hz with hz | hz
            · exact th2 z hz
            · exact ((thy z hz).ext x1).ext x2
          · have e : partOf (some xs) (some ys) = wrongOf (xs ++ ys) := if_neg n0
            rw [← e]
            exact q H3 (((x1.trans x2).upd' hp).trans x3)
        | none =>
          refine iteF ?_
          refine ⟨_, rfl, a, xs, rfl, sq2, th2, fun H3 x3 => ?_⟩
          have z := q H3 ((x1.trans x2).trans x3)
          refine ⟨_, rfl, rfl, _, rfl, ?_⟩
          cases hw : wrongOf xs with
          | none =>
            have e : partOf (some xs) none = some xs.length := by
              show (if xs.length = 0 then some 0 else match wrongOf xs with | none => some xs.length | some i => some i) = _
              rw [if_neg n0, hw]
            rw [e] at z
            refine iteT ?_
            exact ⟨_, rfl, _, xs.length, rfl, (sq2.ext x3).elim (fun z => .inl ⟨_, z, rfl⟩) (fun z => .inr ⟨_, z, rfl⟩), z⟩
          | some i =>
            have e : partOf (some xs) none = some i := by
              show (if xs.length = 0 then some 0 else match wrongOf xs with | none => some xs.length | some i => some i) = _
              rw [if_neg n0, hw]
            rw [e] at z
            refine iteF ?_
            exact ⟨_, rfl, z⟩
end
end My

namespace My
open PySem PySem.Spec PyProof.Rows L2
theorem scHInit : FnScope ["self", "folders", "things", "at"] ["self", "folders", "things"] (defScope sHInit) := ⟨rfl, rfl, rfl, by decide +kernel, rfl, by decide +kernel, by decide +kernel⟩
theorem scHLen : FnScope ["self"] ["self"] (defScope sHLen) := ⟨rfl, rfl, rfl, by decide +kernel, rfl, by decide +kernel, by decide +kernel⟩
theorem scHHas : FnScope ["self", "x"] ["self", "x"] (defScope sHHas) := ⟨rfl, rfl, rfl, by decide +kernel, rfl, by decide +kernel, by decide +kernel⟩
theorem scHIter : FnScope ["self"] ["self"] (defScope sHIter) := ⟨rfl, rfl, rfl, by decide +kernel, rfl, by decide +kernel, by decide +kernel⟩
theorem scHEq : FnScope ["self", "other"] ["self", "other"] (defScope sHEq) := ⟨rfl, rfl, rfl, by decide +kernel, rfl, by decide +kernel, by decide +kernel⟩
/-- a house stands at a: its folders, its things -/
def HouseAt (H : Hp) (K : PySem.W.Frag) (C a : Addr) (fo th : List V) : Prop := ∃ dx fs f t n, H a = some (.ins C dx fs) ∧ fs.lookup ("folders" : Str) = some (V.ref f) ∧ fs.lookup ("things" : Str) = some (V.ref t) ∧ fs.lookup ("nodes" : Str) = some (V.ref n) ∧
  SqT K H f fo ∧ SqT K H t th ∧ SqT K H n (fo ++ th)
theorem HouseAt.ext {H H' : Hp} {K : PySem.W.Frag} {C a : Addr} {fo th : List V} (h : HouseAt H K C a fo th) (e : Ext H H') : HouseAt H' K C a fo th := by
  obtain ⟨dx, fs, f, t, n, h1, h2, h3, h4, h5, h6, h7⟩ := h
  exact ⟨dx, fs, f, t, n, e _ _ h1, h2, h3, h4, h5.ext e, h6.ext e, h7.ext e⟩
/-- what the written part says of the class -/
structure HouC (K : PySem.W.Frag) (C : Addr) : Prop where
  cl : Cls K C
  nf : NoAttr K C "folders"
  nt : NoAttr K C "things"
  nn : NoAttr K C "nodes"
  ha : PySem.W.findIn K (.ref C) "__class__" = some (some (.builtin "object.__class__"))
  hn : PySem.W.specialIn K (.builtin "object.__class__") "__get__" = some (some (.builtin "getset_descriptor.__get__"))
  htk : PySem.W.takesIn K (.builtin "object.__class__") = some true
  hm : PySem.W.mroIn K C (.type "object") = some true
/-- all but what stands at a stays -/
def But (H H' : Hp) (a : Addr) : Prop := ∀ b u, b ≠ a → H b = some u → H' b = some u
theorem ext_but {H H' : Hp} {a : Addr} (e : Ext H H') : But H H' a := fun b u _ k => e b u k
theorem But.trans {H H1 H2 : Hp} {a : Addr} (x : But H H1 a) (y : But H1 H2 a) : But H H2 a := fun b u n k => y b u n (x b u n k)
theorem But.upd {H H1 : Hp} {a : Addr} {o : HO} (x : But H H1 a) : But H (L2.upd H1 a o) a := fun b u n k => by
  rw [upd_ne n]
  exact x b u n k
theorem sqT_but {K : PySem.W.Frag} {H H' : Hp} {a C dx f : Addr} {fs : List (Str × V)} {xs : List V} (h : SqT K H f xs) (b : But H H' a) (ha : H a = some (.ins C dx fs)) : SqT K H' f xs := by
  rcases h with (h | ⟨o, h⟩) | h
  · exact .inl (.inl (b _ _ (ne_of h ha (fun z => nomatch z)) h))
  · exact .inl (.inr ⟨o, b _ _ (ne_of h ha (fun z => nomatch z)) h⟩)
  · exact .inr h
theorem sqL_but {K : PySem.W.Frag} {H H' : Hp} {a C dx f : Addr} {fs : List (Str × V)} {xs : List V} (h : SqL K H f xs) (b : But H H' a) (ha : H a = some (.ins C dx fs)) : SqL K H' f xs := by
  rcases h with (h | ⟨o, h⟩) | h
  · exact .inl (.inl (b _ _ (ne_of h ha (fun z => nomatch z)) h))
  · exact .inl (.inr ⟨o, b _ _ (ne_of h ha (fun z => nomatch z)) h⟩)
  · exact .inr h
/-- tuple(a) -/
theorem tup_of {K : PySem.W.Frag} {H : Hp} {a : Addr} {xs : List V} {Q : VK} (sq : SeqAt2 K H a xs) (q : ∀ t H', Ext H H' → SqT K H' t xs → Q (.ref t) H') :
    ∃ p ys, [V.ref a] = [.ref p] ∧ ((SqL K H p ys ∧ ∀ l, H l = none → Q (.ref l) (L2.upd H l (.tup ys))) ∨ (SqT K H p ys ∧ Q (.ref p) H)) := by
  rcases sq with sq | sq
  · exact ⟨a, xs, rfl, .inl ⟨sq, fun l hl => q l _ (Ext.upd hl) (SqT.of upd_same)⟩⟩
  · exact ⟨a, xs, rfl, .inr ⟨sq, q a H Ext.rfl' sq⟩⟩
/-- a + b, tuples -/
theorem cat_of {K : PySem.W.Frag} {H : Hp} {a b : Addr} {xs ys : List V} {Q : VK} (h1 : SqT K H a xs) (h2 : SqT K H b ys) (hz : (xs ++ ys).length ≤ sizeLine) (q : ∀ t H', Ext H H' → SqT K H' t (xs ++ ys) → Q (.ref t) H') : rCatA K (.ref a) (.ref b) H Q := by
  refine ⟨a, b, xs, ys, rfl, rfl, h1, h2, by rw [← List.length_append]; exact hz, fun e => ?_, fun _ e => ?_, fun _ _ p hp => q p _ (Ext.upd hp) (SqT.of upd_same)⟩
  · subst e
    exact q b H Ext.rfl' h2
  · subst e
    exact q a H Ext.rfl' (by rw [List.append_nil]; exact h1)
def rTup (K : PySem.W.Frag) : List V → Hp → VK → Prop := fun xs H Q => ∃ a zs, xs = [.ref a] ∧ SeqAt2 K H a zs ∧ ∀ t H', Ext H H' → SqT K H' t zs → Q (.ref t) H'
theorem call_tup {X : Cx} : CallR X (.type "tuple") (rTup X.K) := by
  intro pins s σ H xs us Q I rv h
  obtain ⟨a, zs, rfl, sq, q⟩ := h
  exact call_tuple_of pins s σ H _ us Q I rv (tup_of sq q)
def rCat (K : PySem.W.Frag) : R2 := fun x y H Q => ∃ a b xs ys, x = .ref a ∧ y = .ref b ∧ SqT K H a xs ∧ SqT K H b ys ∧ (xs ++ ys).length ≤ sizeLine ∧ ∀ t H', Ext H H' → SqT K H' t (xs ++ ys) → Q (.ref t) H'
theorem op_cat {X : Cx} : OpR X (binaryOp .Add) (rCat X.K) := by
  intro pins s σ H x y v u Q I rx ry h
  obtain ⟨a, b, xs, ys, rfl, rfl, h1, h2, hz, q⟩ := h
  exact op_catA pins s σ H _ _ v u Q I rx ry (cat_of h1 h2 hz q)
/-- House.__init__ -/
def spHInit (K : PySem.W.Frag) (C CB : Addr) : Sp := fun vs H Q E => ∃ a dx x y o o', vs = [.ref a, x, y] ∧ H a = some (.ins C dx []) ∧ Lk K H x o ∧ Lk K H y o' ∧ (∀ xs ys, o = some xs → o' = some ys → (xs ++ ys).length ≤ sizeLine) ∧
  (∀ xs ys H', o = some xs → o' = some ys → partOf o o' = none → But H H' a → HouseAt H' K C a xs ys → Q .non H') ∧
  ∀ i d H', partOf o o' = some i → Ext H H' → H d = none → H' d = some (.xd [(("index" : Str), V.int (i : Nat))]) → E (.ref CB) (some d) H'
theorem part_some {o o' : Option (List V)} (h : partOf o o' = none) : ∃ xs ys, o = some xs ∧ o' = some ys := by
  cases o with
  | none => cases h
  | some xs =>
    cases o' with
    | some ys => exact ⟨xs, ys, rfl, rfl⟩
    | none =>
      unfold partOf at h
      split at h
      · cases h
      · rename_i z
        cases z
        split at h
        · cases h
        · split at h
          · rename_i z
            cases z
          · split at h <;> cases h
section
variable {P : Program} {w : World} {K : PySem.W.Frag} {mg : Str → Option Value} {base : Heap} {f fW C CB : Addr} {fd fdW : FuncData} {dvs : List V}
theorem ok_hInit (Fn : FunD K "__init__" "House.__init__" (defArgs sHInit) (defBody sHInit) (defScope sHInit) dvs [] f fd) (T : HouC K C) (FW : FnOk P w K mg base CX0 3 fW fdW ["folders", "things"] (spWrongPart K)) (gW : mg "wrong_part" = some (.ref fW)) (kW : PySem.W.keepIn K (.ref fW) = true) (bW : Binds K fdW ["folders", "things"] [])
    (EB : Er P w K mg base "BadHouse" "index" CB) (gT : mg "tuple" = none) :
    FnOk P w K mg base (L2.CX P w) 4 f fd ["self", "folders", "things"] (spHInit K C CB) := by
  obtain ⟨fI, fdI, TB, FB, bB, _⟩ := EB
  refine Fn.ok scHInit (fun vs H Q E h => ?_) (fun cdv A outer s H vs Q E hr h => ⟨_,
    (pss_cons (ps_set (i := 3) scHInit.nd rfl (.inl rfl) (pe_call FW hr (by rfl) gW kW bW .nil pass0 (pa_cons (pv 1) (pa_cons (pv 2) pa_nil))))
    (pss_cons (ps_if (pt_cmpR op_notN (pv 3) pe_non (nomark _)) (pss_one (ps_raise rfl (takes_of rfl rfl rfl rfl) (pmk_oex TB.oex TB.iC TB.tI FB (hr.mono (by decide)) bB .nil pass0 (by rfl) TB.gl (pa_cons (pv 3) pa_nil)))) pss_nil)
    (pss_cons (ps_fld (pv 0) (pe_callTy call_tup (by rfl) gT (by decide +kernel) (pa_cons (pv 1) pa_nil)) rfl)
    (pss_cons (ps_fld (pv 0) (pe_callTy call_tup (by rfl) gT (by decide +kernel) (pa_cons (pv 2) pa_nil)) rfl)
    (pss_one (ps_fld (pv 0) (pe_op op_cat (pe_fld (pv 0) rfl) (pe_fld (pv 0) rfl)) rfl)))))), ?_⟩)
  · obtain ⟨a, dx, x, y, o, o', rfl, _⟩ := h
    rfl
  · obtain ⟨a, dx, x, y, o, o', rfl, ha, hx, hy, hz, qn, qe⟩ := h
    refine ⟨_, rfl, _, rfl, x, y, o, o', rfl, hx, hy, hz, fun H1 x1 => ?_⟩
    refine ⟨_, rfl, rfl, _, rfl, ?_⟩
    cases hp : partOf o o' with
    | some i =>
      refine iteT ?_
      refine ⟨_, rfl, Nat.le_of_ble_eq_true rfl, fun e he => ?_⟩
      refine ⟨e, _, rfl, upd_same, fun d hd ne => ⟨rfl, d, [("index", optV (some i))], upd_same, ?_, ?_, ?_⟩⟩
      · rw [upd_ne ne, upd_same]
      · rw [upd_ne ne] at hd
        exact hd
      · rw [upd_ne ne] at hd
        refine qe i d _ hp (fun b u k => ?_) ?_ upd_same
        · have k1 := x1 b u k
          rw [upd_ne (ne_of_none k1 hd), del_ne (ne_of_none k1 he), upd_ne (ne_of_none k1 he), upd_ne (ne_of_none k1 hd), upd_ne (ne_of_none k1 he)]
          exact k1
        · cases hh : H d with
          | none => rfl
          | some u => exact absurd (x1 d u hh) (by rw [hd]; exact fun z => nomatch z)
    | none =>
      refine iteF ?_
      obtain ⟨xs, ys, rfl, rfl⟩ := part_some hp
      obtain ⟨ax, rfl, sqx, _⟩ := hx
      obtain ⟨ay, rfl, sqy, _⟩ := hy
      have hz' := hz xs ys rfl rfl
      refine ⟨_, rfl, ax, xs, rfl, sqx.ext x1, fun t2 H2 x2 s2 => ?_⟩
      have a2 : H2 a = some (.ins C dx []) := x2 _ _ (x1 _ _ ha)
      refine ⟨_, rfl, a, C, dx, _, rfl, a2, T.cl, T.nf, Nat.le_of_ble_eq_true rfl, ?_⟩
      obtain ⟨H3, hH3⟩ : ∃ H3, H3 = L2.upd H2 a (.ins C dx (putF "folders" (.ref t2) [])) := ⟨_, rfl⟩
      rw [← hH3]
      have a3 : H3 a = some (.ins C dx (putF "folders" (.ref t2) [])) := by rw [hH3, upd_same]
      have b3 : But H2 H3 a := by
        rw [hH3]
        exact But.upd (ext_but Ext.rfl')
      have b03 : But H H3 a := (ext_but (x1.trans x2)).trans b3
      have sqy3 : SeqAt2 K H3 ay ys := sqy.elim (fun z => .inl (sqL_but z b03 ha)) fun z => .inr (sqT_but z b03 ha)
      refine ⟨_, rfl, ay, ys, rfl, sqy3, fun t4 H4 x4 s4 => ?_⟩
      refine ⟨_, rfl, a, C, dx, _, rfl, x4 _ _ a3, T.cl, T.nt, Nat.le_of_ble_eq_true rfl, ?_⟩
      obtain ⟨H5, hH5⟩ : ∃ H5, H5 = L2.upd H4 a (.ins C dx (putF "things" (.ref t4) (putF "folders" (.ref t2) []))) := ⟨_, rfl⟩
      rw [← hH5]
      have a5 : H5 a = some (.ins C dx (putF "things" (.ref t4) (putF "folders" (.ref t2) []))) := by rw [hH5, upd_same]
      have b5 : But H4 H5 a := by
        rw [hH5]
        exact But.upd (ext_but Ext.rfl')
      have s2' : SqT K H5 t2 xs := sqT_but (sqT_but s2 (b3.trans (ext_but x4)) a2) b5 (x4 _ _ a3)
      have s4' : SqT K H5 t4 ys := sqT_but s4 b5 (x4 _ _ a3)
      refine ⟨_, rfl, a, C, dx, _, _, rfl, a5, T.cl, T.nf, rfl, _, rfl, a, C, dx, _, _, rfl, a5, T.cl, T.nt, rfl, t2, t4, xs, ys, rfl, rfl, s2', s4', hz', fun t6 H6 x6 s6 => ?_⟩
      refine ⟨_, rfl, a, C, dx, _, rfl, x6 _ _ a5, T.cl, T.nn, Nat.le_of_ble_eq_true rfl, ?_⟩
      obtain ⟨H7, hH7⟩ : ∃ H7, H7 = L2.upd H6 a (.ins C dx (putF "nodes" (.ref t6) (putF "things" (.ref t4) (putF "folders" (.ref t2) [])))) := ⟨_, rfl⟩
      rw [← hH7]
      have b7 : But H6 H7 a := by
        rw [hH7]
        exact But.upd (ext_but Ext.rfl')
      have a6 := x6 _ _ a5
      refine qn xs ys H7 rfl rfl hp (((b03.trans (ext_but x4)).trans b5).trans ((ext_but x6).trans b7)) ?_
      exact ⟨dx, _, t2, t4, t6, by rw [hH7, upd_same], rfl, rfl, rfl, sqT_but (s2'.ext x6) b7 a6, sqT_but (s4'.ext x6) b7 a6, sqT_but s6 b7 a6⟩
end
end My

namespace My
open PySem PySem.Spec PyProof.Rows L2
/-! ### tuples and lists of texts as data -/
theorem dpAll_str {K : PySem.W.Frag} {H : Hp} : ∀ zs : List Str, DpAll K H (zs.map V.str) (zs.map PyData.str)
  | [] => .nil
  | z :: zs => .cons (.str z) (dpAll_str zs)
def OkS (zs : List Str) : Prop := ∀ z, z ∈ zs → PyData.strOk z = true
theorem canLay_str : ∀ zs : List Str, OkS zs → PyData.canLayAll0 (zs.map PyData.str) = true
  | [], _ => rfl
  | z :: zs, h => by
    show (PyData.strOk z && PyData.canLayAll0 (zs.map PyData.str)) = true
    rw [canLay_str zs fun y hy => h y (List.mem_cons_of_mem _ hy), h z List.mem_cons_self]
    rfl
theorem depths_str : ∀ zs : List Str, PyData.depthAll (zs.map PyData.str) ≤ 1
  | [] => Nat.zero_le _
  | z :: zs => Nat.max_le.mpr ⟨Nat.le_of_ble_eq_true rfl, depths_str zs⟩
theorem shaped_strT (zs : List Str) (h0 : OkS zs) : SeqAt.shaped (.tuple (zs.map PyData.str)) = true := by
  refine Bool.and_eq_true_iff.mpr ⟨canLay_str zs h0, decide_eq_true ?_⟩
  have h := depths_str zs
  show PyData.depthAll (zs.map PyData.str) + 1 ≤ 64
  omega
theorem shaped_strL (zs : List Str) (h0 : OkS zs) : SeqAt.shaped (.list (zs.map PyData.str)) = true := by
  refine Bool.and_eq_true_iff.mpr ⟨canLay_str zs h0, decide_eq_true ?_⟩
  have h := depths_str zs
  show PyData.depthAll (zs.map PyData.str) + 1 ≤ 64
  omega
theorem eqvAll_str : ∀ zs ws : List Str, PyData.eqvAll (zs.map PyData.str) (ws.map PyData.str) = decide (zs = ws)
  | [], [] => rfl
  | [], _ :: _ => rfl
  | _ :: _, [] => rfl
  | z :: zs, w :: ws => by
    show (PyData.eqv (.str z) (.str w) && PyData.eqvAll (zs.map PyData.str) (ws.map PyData.str)) = _
    rw [eqvAll_str zs ws]
    show ((z == w) && decide (zs = ws)) = _
    by_cases h : z = w
    · subst h
      simp
    · simp [h]
theorem eqv_strT (zs ws : List Str) : PyData.eqv (.tuple (zs.map PyData.str)) (.tuple (ws.map PyData.str)) = decide (zs = ws) := eqvAll_str zs ws
/-- a house of names -/
def Hou (H : Hp) (K : PySem.W.Frag) (C a : Addr) (fo th : List Str) : Prop := HouseAt H K C a (fo.map V.str) (th.map V.str) ∧ OkS fo ∧ OkS th
theorem Hou.ext {H H' : Hp} {K : PySem.W.Frag} {C a : Addr} {fo th : List Str} (h : Hou H K C a fo th) (e : Ext H H') : Hou H' K C a fo th := ⟨HouseAt.ext h.1 e, h.2⟩
theorem Hou.ins {H : Hp} {K : PySem.W.Frag} {C a : Addr} {fo th : List Str} (h : Hou H K C a fo th) : ∃ dx fs, H a = some (.ins C dx fs) := by
  obtain ⟨⟨dx, fs, _, _, _, h1, _⟩, _⟩ := h
  exact ⟨dx, fs, h1⟩
def spHLen (K : PySem.W.Frag) (C : Addr) : Sp := fun vs H Q _ => ∃ a fo th, vs = [.ref a] ∧ Hou H K C a fo th ∧ Q (.int ((fo ++ th).length : Nat)) H
def spHEq (K : PySem.W.Frag) (C : Addr) : Sp := fun vs H Q _ => ∃ a fo th y, vs = [.ref a, y] ∧ Hou H K C a fo th ∧ ((∃ t, TyX K H y t ∧ PySem.W.kitOne K t (.ref C) = some false ∧ Q (.bl false) H) ∨
  ∃ b fo2 th2, y = .ref b ∧ Hou H K C b fo2 th2 ∧ Q (.bl (decide (fo = fo2) && decide (th = th2))) H)
def spHHas (K : PySem.W.Frag) (C : Addr) : Sp := fun vs H Q _ => ∃ a fo th y, vs = [.ref a, y] ∧ Hou H K C a fo th ∧ ((flatV y = true ∧ Q (.bl (inV y ((fo ++ th).map V.str))) H) ∨ (NoText K H y ∧ Q (.bl false) H) ∨
  ∃ b fo2 th2, y = .ref b ∧ Hou H K C b fo2 th2 ∧ ∀ H', Ext H H' → Q (.bl false) H')
theorem tyH {K : PySem.W.Frag} {H : Hp} {C a : Addr} {fo th : List Str} (T : HouC K C) (h : Hou H K C a fo th) : TyX K H (.ref a) (.ref C) := by
  obtain ⟨dx, fs, e⟩ := h.ins
  exact .base (.ins e T.cl T.ha T.hn T.htk T.hm)
section
variable {P : Program} {w : World} {K : PySem.W.Frag} {mg : Str → Option Value} {base : Heap} {f fE C : Addr} {fd fdE : FuncData}
theorem ok_hLen (Fn : FunD K "__len__" "House.__len__" (defArgs sHLen) (defBody sHLen) (defScope sHLen) [] [] f fd) (T : HouC K C) (gN : mg "len" = none) : FnOk P w K mg base CX0 1 f fd ["self"] (spHLen K C) := by
  refine Fn.ok scHLen (fun vs H Q E h => ?_) (fun cdv A outer s H vs Q E hr h => ⟨_, PSs.nox (pss_one (ps_ret (pe_callB call_len (by rfl) gN boot_len (pa_cons (pe_fld (pv 0) rfl) pa_nil)))), ?_⟩)
  · obtain ⟨a, fo, th, rfl, _⟩ := h
    rfl
  · obtain ⟨a, fo, th, rfl, ⟨⟨dx, fs, f, t, n, h1, h2, h3, h4, h5, h6, h7⟩, ok1, ok2⟩, q⟩ := h
    refine ⟨_, rfl, a, C, dx, fs, _, rfl, h1, T.cl, T.nn, h4, _, _, rfl, .inr ⟨_, h7, rfl⟩, ?_⟩
    rw [← List.map_append, List.length_map]
    exact q
theorem ok_hIter (Fn : FunD K "__iter__" "House.__iter__" (defArgs sHIter) (defBody sHIter) (defScope sHIter) [] [] f fd) (T : HouC K C) (gI : mg "iter" = none) : FnOk P w K mg base CX0 1 f fd ["self"] (spIter K C "nodes" base.objs.size) := by
  refine Fn.ok scHIter (fun vs H Q E h => ?_) (fun cdv A outer s H vs Q E hr h => ⟨_, PSs.nox (pss_one (ps_ret (pe_callB call_iterT (by rfl) gI boot_iter (pa_cons (pe_fld (pv 0) rfl) pa_nil)))), ?_⟩)
  · obtain ⟨a, _, _, _, _, rfl, _⟩ := h
    rfl
  · obtain ⟨a, dx, fs, l, zs, rfl, h1, h2, h3, q⟩ := h
    exact ⟨_, rfl, a, C, dx, fs, _, rfl, h1, T.cl, T.nn, h2, l, zs, rfl, h3, q⟩
theorem ok_hEq (Fn : FunD K "__eq__" "House.__eq__" (defArgs sHEq) (defBody sHEq) (defScope sHEq) [] [] f fd) (T : HouC K C) (gI : mg "isinstance" = none) (gH : mg "House" = some (.ref C)) (kC : PySem.W.kitOne K (.ref C) (.ref C) = some true) :
    FnOk P w K mg base CX0 1 f fd ["self", "other"] (spHEq K C) := by
  refine Fn.ok scHEq (fun vs H Q E h => ?_) (fun cdv A outer s H vs Q E hr h => ⟨_, PSs.nox (pss_one (ps_ret
    (pe_and (pe_callB call_isi (by rfl) gI boot_isinstance (pa_cons (pv 1) (pa_cons (pe_glob (v := .ref C) (by rfl) gH rfl) pa_nil)))
    (pe_and (pe_cmpR (op_eqD hr.units) (pe_fld (pv 0) rfl) (pe_fld (pv 1) rfl) (nomark _))
    (pe_one (pe_cmpR (op_eqD hr.units) (pe_fld (pv 0) rfl) (pe_fld (pv 1) rfl) (nomark _))))))), ?_⟩)
  · obtain ⟨a, _, _, _, rfl, _⟩ := h
    rfl
  · obtain ⟨a, fo, th, y, rfl, ho, h⟩ := h
    rcases h with ⟨t, ty, kt, q⟩ | ⟨b, fo2, th2, rfl, ho2, q⟩
    · refine ⟨_, rfl, y, .ref C, t, .ref C, false, rfl, .own C, ty, kt, false, rfl, ?_⟩
      exact q
    · refine ⟨_, rfl, .ref b, .ref C, .ref C, .ref C, true, rfl, .own C, tyH T ho2, kC, true, rfl, ?_⟩
      refine iteT ?_
      obtain ⟨⟨dx, fs, f, t, n, h1, h2, h3, h4, h5, h6, h7⟩, ok1, ok2⟩ := ho
      obtain ⟨⟨dx', fs', f', t', n', g1, g2, g3, g4, g5, g6, g7⟩, pk1, pk2⟩ := ho2
      refine ⟨_, rfl, a, C, dx, fs, _, rfl, h1, T.cl, T.nf, h2, _, rfl, b, C, dx', fs', _, rfl, g1, T.cl, T.nf, g2, _, _, .tup h5 (dpAll_str fo), .tup g5 (dpAll_str fo2), shaped_strT fo ok1, shaped_strT fo2 pk1, _, rfl, ?_⟩
      rw [eqv_strT]
      refine ite2 (fun e => ?_) (fun e => ?_)
      · refine ⟨_, rfl, a, C, dx, fs, _, rfl, h1, T.cl, T.nt, h3, _, rfl, b, C, dx', fs', _, rfl, g1, T.cl, T.nt, g3, _, _, .tup h6 (dpAll_str th), .tup g6 (dpAll_str th2), shaped_strT th ok2, shaped_strT th2 pk2, ?_⟩
        rw [eqv_strT]
        rw [e, Bool.true_and] at q
        exact q
      · have e' : decide (fo = fo2) = false := by simpa using e
        rw [e', Bool.false_and] at q
        exact q
theorem ok_hHas (Fn : FunD K "__contains__" "House.__contains__" (defArgs sHHas) (defBody sHHas) (defScope sHHas) [] [] f fd) (T : HouC K C) (nf : PySem.W.subIn K (.ref C) (.type "str") = some false) (Me : OwnM K C "__eq__" fE)
    (FE : FnOk P w K mg base CX0 1 fE fdE ["self", "other"] (spHEq K C)) (bE : Binds K fdE ["self", "other"] []) (kS : PySem.W.kitOne K (.type "str") (.ref C) = some false) : FnOk P w K mg base CX0 3 f fd ["self", "x"] (spHHas K C) := by
  refine Fn.ok scHHas (fun vs H Q E h => ?_) (fun cdv A outer s H vs Q E hr h => ⟨_, PSs.nox (pss_one (ps_ret
    (pe_cmpR (OpR.or op_in_seq (OpR.or (op_inN (Nat.lt_of_le_of_lt (Nat.add_le_add_left (by decide : 1 ≤ 64) _) hr.units)) (op_inI (EI := E0) hr Me nf FE bE pass0))) (pv 1) (pe_fld (pv 0) rfl) (by rfl)))), ?_⟩)
  · obtain ⟨a, _, _, _, rfl, _⟩ := h
    rfl
  · obtain ⟨a, fo, th, y, rfl, ho, h⟩ := h
    have ho' := ho
    obtain ⟨⟨dx, fs, f, t, n, h1, h2, h3, h4, h5, h6, h7⟩, ok1, ok2⟩ := ho
    rw [← List.map_append] at h7
    refine ⟨_, rfl, _, rfl, a, C, dx, fs, _, rfl, h1, T.cl, T.nn, h4, ?_⟩
    rcases h with ⟨fy, q⟩ | ⟨ny, q⟩ | ⟨b, fo2, th2, rfl, ho2, q⟩
    · exact .inl ⟨n, _, rfl, .inr h7, fy, by rw [List.all_map]; exact List.all_eq_true.mpr fun _ _ => rfl, q⟩
    · exact .inr (.inl ⟨n, fo ++ th, rfl, h7, ny, q⟩)
    · obtain ⟨dx', fs', g1⟩ := ho2.ins
      refine .inr (.inr ⟨n, fo ++ th, b, dx', fs', rfl, h7, rfl, g1, fun z H1 _ x1 => ?_, q⟩)
      exact ⟨b, fo2, th2, .str z, rfl, ho2.ext x1, .inl ⟨_, .base (.str z), kS, rfl, Ext.rfl'⟩⟩
end
end My

namespace My
open PySem PySem.Spec PyProof.Rows L2
/-! ### names -/
def Nm (z : Str) : Prop := nameB z = true ∧ z.length ≠ 4 ∧ z ≠ "zq" ∧ z.length ≤ 8 ∧ PyData.strOk z = true
instance (z : Str) : Decidable (Nm z) := by unfold Nm; exact inferInstance
def az : Str := "abcdefghijklmnopqrstuvwxy"
def ap : Str := "abcdefghijklmnop"
def spares : List Str := ap.cps.toList.map fun c => ("z" : Str) ++ (⟨#[c]⟩ : Str) ++ ("q" : Str)
theorem spares_nm : ∀ z ∈ spares, Nm z := by decide +kernel
theorem spares_nd : spares.Nodup := by decide +kernel
theorem spares_len : spares.length = 16 := by decide +kernel
theorem nodup_sub : ∀ (as bs : List Str), as.Nodup → (∀ x, x ∈ as → x ∈ bs) → as.length ≤ bs.length
  | [], bs, _, _ => Nat.zero_le _
  | a :: as, bs, nd, h => by
    obtain ⟨na, nd'⟩ := List.nodup_cons.mp nd
    have ha := h a List.mem_cons_self
    have ih := nodup_sub as (bs.erase a) nd' fun x hx => (List.mem_erase_of_ne (fun e => by rw [e] at hx; exact na hx)).mpr (h x (List.mem_cons_of_mem _ hx))
    rw [List.length_erase_of_mem ha] at ih
    have : 0 < bs.length := List.length_pos_of_mem ha
    rw [List.length_cons]
    omega
theorem inV_str (z : Str) (zs : List Str) : inV (.str z) (zs.map V.str) = decide (z ∈ zs) := by
  unfold inV
  rw [List.any_map, Bool.eq_iff_iff, List.any_eq_true, decide_eq_true_iff]
  constructor
  · rintro ⟨x, hx, e⟩
    have e' : x = z := eq_of_beq e
    exact e' ▸ hx
  · intro h
    exact ⟨z, h, beq_self_eq_true z⟩
/-- the first of the spare ones that is not found as yet -/
def freshOf (w : Str) (zs : List Str) : List Str := (w :: spares).filter fun z => !decide (z ∈ zs)
theorem fresh_ne {w : Str} {zs : List Str} (h : zs.length < 16) : ∃ z r, freshOf w zs = z :: r := by
  cases e : freshOf w zs with
  | cons z r => exact ⟨z, r, rfl⟩
  | nil =>
    exfalso
    have hall : ∀ x, x ∈ spares → x ∈ zs := fun x hx => by
      have h1 := List.filter_eq_nil_iff.mp e x (List.mem_cons_of_mem _ hx)
      simpa using h1
    have := nodup_sub spares zs spares_nd hall
    rw [spares_len] at this
    omega
theorem fresh_mem {w z : Str} {zs r : List Str} (h : freshOf w zs = z :: r) (hw : Nm w) : Nm z ∧ z ∉ zs := by
  have hm : z ∈ freshOf w zs := by rw [h]; exact List.mem_cons_self
  obtain ⟨h1, h2⟩ := List.mem_filter.mp hm
  refine ⟨?_, by simpa using h2⟩
  rcases List.mem_cons.mp h1 with rfl | h1
  · exact hw
  · exact spares_nm z h1
/-- a word of signs from a to y -/
theorem joinL_one : ∀ cs : List Nat, TL.joinL [] (cs.map fun c => [c]) = cs
  | [] => rfl
  | [_] => rfl
  | c :: d :: r => by
    show [c] ++ ([] ++ TL.joinL [] ((d :: r).map fun c => [c])) = _
    rw [joinL_one (d :: r)]
    rfl
theorem join_one (cs : List Nat) : (Txt.join "" (cs.map fun c => (⟨#[c]⟩ : Str))).cps.toList = cs := by
  rw [TL.join_eq]
  have h := TL.tl_join "" (cs.map fun c => (⟨#[c]⟩ : Str))
  rw [List.map_map] at h
  exact h.trans (joinL_one cs)
theorem word_nm {z : Str} {cs : List Nat} (e : z.cps.toList = cs) (hc : ∀ c, c ∈ cs → c ∈ az.cps.toList) (hn : cs.length ∈ [1, 1, 2, 3, 8]) : Nm z := by
  have len : z.length = cs.length := by
    show z.cps.size = _
    rw [← Array.length_toList, e]
  have all : ∀ c, c ∈ cs → c ∈ letters.cps.toList ∧ c < 122 := fun c h => by
    have h1 := hc c h
    have key : ∀ c, c ∈ az.cps.toList → c ∈ letters.cps.toList ∧ c < 122 := by decide +kernel
    exact key c h1
  have l18 : 1 ≤ cs.length ∧ cs.length ≤ 8 ∧ cs.length ≠ 4 := by
    simp only [List.mem_cons, List.not_mem_nil, or_false] at hn
    omega
  refine ⟨?_, by rw [len]; exact l18.2.2, fun h => ?_, by rw [len]; exact l18.2.1, ?_⟩
  · unfold nameB
    rw [decide_eq_true (by rw [len]; omega), decide_eq_true (by rw [len]; omega), Bool.true_and, Bool.true_and, List.all_eq_true]
    intro b hb
    unfold signB at hb
    obtain ⟨c, hc', rfl⟩ := List.mem_map.mp hb
    rw [e] at hc'
    exact decide_eq_true (all c hc').1
  · have h122 : (122 : Nat) ∈ cs := by
      rw [← e, h]
      decide +kernel
    exact absurd (all 122 h122).2 (Nat.lt_irrefl _)
  · show z.cps.all _ = true
    rw [← Array.all_toList, e, List.all_eq_true]
    intro c h
    exact decide_eq_true (Nat.lt_trans (all c h).2 (by decide))
theorem sum_one : ∀ cs : List Nat, (((cs.map fun c => (⟨#[c]⟩ : Str))).map (·.length)).sum = cs.length
  | [] => rfl
  | c :: r => by
    show 1 + (((r.map fun c => (⟨#[c]⟩ : Str))).map (·.length)).sum = _
    rw [sum_one r, List.length_cons, Nat.add_comm]
theorem pool_ext {H H' : Hp} {p : Addr} {n : Int} (h : Pool H p n) (e : Ext H H') : Pool H' p n := by
  obtain ⟨g, m, c, h1, h2⟩ := h
  exact ⟨g, m, c, e _ _ h1, h2⟩
theorem pool_at {H H' : Hp} {p : Addr} {n : Int} (h : Pool H p n) (e : H' p = H p) : Pool H' p n := by
  obtain ⟨g, m, c, h1, h2⟩ := h
  exact ⟨g, m, c, by rw [e]; exact h1, h2⟩
theorem pool_ne {H : Hp} {p l : Addr} {n : Int} (h : Pool H p n) (e : H l = none) : l ≠ p := fun z => by
  obtain ⟨g, m, c, h1, _⟩ := h
  rw [z, h1] at e
  cases e
theorem But.ext {H H1 H2 : Hp} {a : Addr} (b : But H H1 a) (e : Ext H1 H2) : But H H2 a := b.trans (ext_but e)
/-- names: unlike, none of four signs, none zq -/
def Nms (zs : List Str) : Prop := zs.Nodup ∧ ∀ z, z ∈ zs → Nm z
structure HouseTxt (P : Program) (w : World) (K : PySem.W.Frag) (mg : Str → Option Value) (C CB : Addr) where
  T : HouC K C
  gH : mg "House" = some (.ref C)
  kCC : PySem.W.kitOne K (.ref C) (.ref C) = some true
  ne : PySem.W.findIn K (.ref C) "__ne__" = some (some (.builtin "object.__ne__"))
  noStr : PySem.W.subIn K (.ref C) (.type "str") = some false
  nb : ∀ T, T ∈ ["NoneType", "list", "tuple", "int", "str"] → PySem.W.notFirst K C (.type T) = true ∧ PySem.W.kitOne K (.type T) (.ref C) = some false
  fI : Addr
  fdI : FuncData
  M : Mk K C fI
  I : ∀ base, FnOk P w K mg base (L2.CX P w) 4 fI fdI ["self", "folders", "things"] (spHInit K C CB)
  bI : Binds K fdI ["self", "folders", "things"] []
  uD : Value
  bD : Binds K fdI ["self", "folders", "things"] [uD]
  aD : Addr
  eD : uD = .ref aD
  tD : ∀ H, SqT K H aD []
  fL : Addr
  fdL : FuncData
  mL : OwnM K C "__len__" fL
  L : ∀ base, FnOk P w K mg base CX0 1 fL fdL ["self"] (spHLen K C)
  bL : Binds K fdL ["self"] []
  fS : Addr
  fdS : FuncData
  mS : OwnM K C "__contains__" fS
  S : ∀ base, FnOk P w K mg base CX0 3 fS fdS ["self", "x"] (spHHas K C)
  bS : Binds K fdS ["self", "x"] []
  fW : Addr
  fdW : FuncData
  mW : OwnM K C "__iter__" fW
  W : ∀ base : Heap, FnOk P w K mg base CX0 1 fW fdW ["self"] (spIter K C "nodes" base.objs.size)
  bW : Binds K fdW ["self"] []
  fE : Addr
  fdE : FuncData
  mE : OwnM K C "__eq__" fE
  E : ∀ base, FnOk P w K mg base CX0 1 fE fdE ["self", "other"] (spHEq K C)
  bE : Binds K fdE ["self", "other"] []
/-! ### lists of truths as data -/
theorem dpAll_bl {K : PySem.W.Frag} {H : Hp} : ∀ bs : List Bool, DpAll K H (bs.map V.bl) (bs.map PyData.bool)
  | [] => .nil
  | b :: bs => .cons (.bl b) (dpAll_bl bs)
theorem canLay_bl : ∀ bs : List Bool, PyData.canLayAll0 (bs.map PyData.bool) = true
  | [] => rfl
  | b :: bs => by
    show (PyData.canLay0 (.bool b) && PyData.canLayAll0 (bs.map PyData.bool)) = true
    rw [canLay_bl bs]
    rfl
theorem depths_bl : ∀ bs : List Bool, PyData.depthAll (bs.map PyData.bool) ≤ 1
  | [] => Nat.zero_le _
  | b :: bs => by
    have h := depths_bl bs
    show max (PyData.depth (.bool b)) (PyData.depthAll (bs.map PyData.bool)) ≤ 1
    exact Nat.max_le.mpr ⟨by decide +revert, h⟩
theorem shaped_bl (bs : List Bool) : SeqAt.shaped (.list (bs.map PyData.bool)) = true := by
  refine Bool.and_eq_true_iff.mpr ⟨canLay_bl bs, decide_eq_true ?_⟩
  have h := depths_bl bs
  show PyData.depthAll (bs.map PyData.bool) + 1 ≤ 64
  omega
theorem inV_no {y : V} (h : ∀ z, eqV (.str z) y = false) (zs : List Str) : inV y (zs.map V.str) = false := by
  unfold inV
  rw [List.any_map, List.any_eq_false]
  intro z _ e
  have e' : eqV (.str z) y = true := e
  rw [h z] at e'
  cases e'
/-! ### lists of lists as data -/
theorem canLay_ds : ∀ ds : List PyData, (∀ d, d ∈ ds → d.canLay0 = true ∧ d.depth ≤ 2) → PyData.canLayAll0 ds = true ∧ PyData.depthAll ds ≤ 2
  | [], _ => ⟨rfl, Nat.zero_le _⟩
  | d :: ds, h => by
    obtain ⟨h1, h2⟩ := canLay_ds ds fun x hx => h x (List.mem_cons_of_mem _ hx)
    obtain ⟨h3, h4⟩ := h d List.mem_cons_self
    refine ⟨?_, Nat.max_le.mpr ⟨h4, h2⟩⟩
    show (d.canLay0 && PyData.canLayAll0 ds) = true
    rw [h1, h3]
    rfl
theorem shaped_ds (ds : List PyData) (h : ∀ d, d ∈ ds → d.canLay0 = true ∧ d.depth ≤ 2) : SeqAt.shaped (.list ds) = true := by
  obtain ⟨h1, h2⟩ := canLay_ds ds h
  refine Bool.and_eq_true_iff.mpr ⟨h1, decide_eq_true ?_⟩
  show PyData.depthAll ds + 1 ≤ 64
  omega
theorem flat_tup (zs : List Str) (h : OkS zs) : (PyData.tuple (zs.map PyData.str)).canLay0 = true ∧ (PyData.tuple (zs.map PyData.str)).depth ≤ 2 := ⟨canLay_str zs h, Nat.succ_le_succ (depths_str zs)⟩
theorem flat_lst (zs : List Str) (h : OkS zs) : (PyData.list (zs.map PyData.str)).canLay0 = true ∧ (PyData.list (zs.map PyData.str)).depth ≤ 2 := ⟨canLay_str zs h, Nat.succ_le_succ (depths_str zs)⟩
theorem dpAll_rep {K : PySem.W.Frag} {H : Hp} {d : PyData} : ∀ ws : List V, (∀ x, x ∈ ws → Dp K H x d) → DpAll K H ws (List.replicate ws.length d)
  | [], _ => .nil
  | x :: ws, h => .cons (h x List.mem_cons_self) (dpAll_rep ws fun y hy => h y (List.mem_cons_of_mem _ hy))
theorem flat_rep {α : Type} (n : Nat) (x : α) : (List.replicate n [x]).flatten = List.replicate n x := by
  induction n with
  | zero => rfl
  | succ n ih => rw [List.replicate_succ, List.flatten_cons, ih]; rfl
def Nok (zs : List Str) : Prop := zs.Nodup ∧ ∀ z, z ∈ zs → nameB z = true ∧ PyData.strOk z = true ∧ z.length ≤ sizeLine
theorem Nms.ok {zs : List Str} (h : Nms zs) : Nok zs := ⟨h.1, fun z hz => ⟨(h.2 z hz).1, (h.2 z hz).2.2.2.2, Nat.le_trans (h.2 z hz).2.2.2.1 (by rw [sizeLine_eq]; decide)⟩⟩
theorem Nok.perm {zs ws : List Str} (h : Nok zs) (p : ws.Perm zs) : Nok ws := ⟨p.nodup_iff.mpr h.1, fun z hz => h.2 z (p.mem_iff.mp hz)⟩
theorem Nok.zq {zs : List Str} (h : Nms zs) : Nok ("zq" :: zs) := by
  refine ⟨List.nodup_cons.mpr ⟨fun z => (h.2 _ z).2.2.1 rfl, h.1⟩, fun z hz => ?_⟩
  rcases List.mem_cons.mp hz with rfl | hz
  · decide +kernel
  · exact h.ok.2 z hz
theorem wrong_ok {zs : List Str} (h : Nok zs) : wrongOf (zs.map V.str) = none := by
  refine wrong_none fun i hi => ?_
  rw [List.length_map] at hi
  unfold badAt
  rw [List.getElem?_map, List.getElem?_eq_getElem hi]
  show (!nameB zs[i] || inV (.str zs[i]) ((zs.map V.str).take i)) = false
  rw [(h.2 _ (List.getElem_mem hi)).1, ← List.map_take, inV_str]
  have nd := h.1
  rw [← List.take_append_drop i zs, List.nodup_append] at nd
  have hd : zs[i] ∈ zs.drop i := by
    rw [List.drop_eq_getElem_cons hi]
    exact List.mem_cons_self
  rw [decide_eq_false fun hm => nd.2.2 _ hm _ hd rfl]
  rfl
theorem part_ok {fo th : List Str} (h : Nok (fo ++ th)) (hf : fo ≠ []) : partOf (some (fo.map V.str)) (some (th.map V.str)) = none := by
  have hl : ¬ (fo.map V.str).length = 0 := by
    rw [List.length_map]
    exact fun e => hf (List.eq_nil_of_length_eq_zero e)
  show (if (fo.map V.str).length = 0 then some 0 else wrongOf (fo.map V.str ++ th.map V.str)) = none
  rw [if_neg hl, ← List.map_append, wrong_ok h]
theorem things_ok {K : PySem.W.Frag} {H : Hp} {zs : List Str} (h : ∀ z, z ∈ zs → z.length ≤ sizeLine) : ∀ y, y ∈ zs.map V.str → Thing K H y := fun y hy => by
  obtain ⟨z, hz, rfl⟩ := List.mem_map.mp hy
  exact .inl ⟨z, rfl, h z hz⟩
/-- House(..) of good names -/
theorem mk_at {K : PySem.W.Frag} {C CB a b x' dx : Addr} {H : Hp} {fo th : List Str} {R : Hp → Prop} {E : XK} (sf : SeqAt2 K H a (fo.map V.str)) (st : SeqAt2 K H b (th.map V.str)) (ok : Nok (fo ++ th)) (hf : fo ≠ []) (hl : (fo ++ th).length ≤ sizeLine)
    (h1 : H x' = none) (h2 : H dx = none) (h3 : dx ≠ x') (q : ∀ H', Ext H H' → Hou H' K C x' fo th → R H') : spHInit K C CB [.ref x', .ref a, .ref b] (L2.upd (L2.upd H dx (.own x')) x' (.ins C dx [])) (fun v H2 => v = .non ∧ R H2) E := by
  have xn : Ext H (L2.upd (L2.upd H dx (.own x')) x' (.ins C dx [])) := fun c u k => by
    rw [upd_ne (ne_of_none k h1), upd_ne (ne_of_none k h2)]
    exact k
  have okf : ∀ z, z ∈ fo → _ := fun z hz => ok.2 z (List.mem_append_left _ hz)
  have okt : ∀ z, z ∈ th → _ := fun z hz => ok.2 z (List.mem_append_right _ hz)
  refine ⟨x', dx, _, _, some (fo.map V.str), some (th.map V.str), rfl, upd_same, ⟨a, rfl, sf.ext xn, things_ok fun z hz => (okf z hz).2.2⟩, ⟨b, rfl, st.ext xn, things_ok fun z hz => (okt z hz).2.2⟩, fun xs ys e1 e2 => ?_, fun xs ys H' e1 e2 _ bt hs => ⟨rfl, ?_⟩, fun i d H' e => ?_⟩
  · cases e1
    cases e2
    rw [← List.map_append, List.length_map]
    exact hl
  · cases e1
    cases e2
    refine q H' (fun c u k => bt c u (ne_of_none k h1) (xn c u k)) ⟨hs, fun z hz => (okf z hz).2.1, fun z hz => (okt z hz).2.1⟩
  · rw [part_ok ok hf] at e
    cases e
theorem HouseTxt.vD {P : Program} {w : World} {K : PySem.W.Frag} {mg : Str → Option Value} {C CB : Addr} (Z : HouseTxt P w K mg C CB) : Vals [V.ref Z.aD] [Z.uD] := .cons Z.eD .nil
theorem sqT_upd {K : PySem.W.Frag} {H : Hp} {l f : Addr} {ys zs xs : List V} (h : SqT K H f xs) (hl : H l = some (.lst ys)) : SqT K (L2.upd H l (.lst zs)) f xs := by
  rcases h with (h | ⟨o, h⟩) | h
  · exact .inl (.inl (by rw [upd_ne (ne_of h hl (fun z => nomatch z))]; exact h))
  · exact .inl (.inr ⟨o, by rw [upd_ne (ne_of h hl (fun z => nomatch z))]; exact h⟩)
  · exact .inr h
theorem hou_upd {H : Hp} {K : PySem.W.Frag} {C b l : Addr} {fo th : List Str} {ys zs : List V} (h : Hou H K C b fo th) (hl : H l = some (.lst ys)) : Hou (L2.upd H l (.lst zs)) K C b fo th := by
  obtain ⟨⟨dx, fs, f, t, n, h1, h2, h3, h4, h5, h6, h7⟩, ok⟩ := h
  exact ⟨⟨dx, fs, f, t, n, by rw [upd_ne (ne_of h1 hl (fun z => nomatch z))]; exact h1, h2, h3, h4, sqT_upd h5 hl, sqT_upd h6 hl, sqT_upd h7 hl⟩, ok⟩
def Has (P : Program) (w : World) (K : PySem.W.Frag) (mg : Str → Option Value) (base : Heap) (k : Nat) (x : Str) (ps : List Str) (sp : Sp) : Prop :=
  ∃ (f : Addr) (fd : FuncData), FnOk P w K mg base CX0 k f fd ps sp ∧ mg x = some (.ref f) ∧ PySem.W.keepIn K (.ref f) = true ∧ Binds K fd ps []
theorem pe_has {X : Cx} {k : Nat} {x : Str} {ps : List Str} {sp : Sp} {e : Expr} {es : List Expr} {t : TA} {p pos : Pos} (h : Has X.prog X.w X.K X.mg X.base k x ps sp) (hr : Room k X.A) (ha : PA X (e :: es) t) (hg : Gl X x := by rfl)
    (hdb : (x == ("__debug__" : Str)) = false := by decide) (h1 : starEach (e :: es) X.env = (false, eval e X.env) :: starEach es X.env := by rfl) (h2 : (backTo pos (starEach es X.env)).any (·.1) = false := by rfl) :
    PE X (.Call (.Name x p) (e :: es) [] pos) (tCall sp [] E0 t) := by
  obtain ⟨f, fd, F, m, kp, b⟩ := h
  exact pe_call F hr hg m kp b .nil pass0 ha hdb h1 h2
/-- list(a) -/
def rLst (K : PySem.W.Frag) : List V → Hp → VK → Prop := fun xs H Q => ∃ a zs, xs = [.ref a] ∧ SqL K H a zs ∧ ∀ l, H l = none → Q (.ref l) (L2.upd H l (.lst zs))
theorem call_lst {X : Cx} : CallR X (.type "list") (rLst X.K) := by
  intro pins s σ H xs us Q I rv h
  obtain ⟨a, zs, rfl, sq, q⟩ := h
  exact call_list_of pins s σ H _ us Q I rv ⟨a, zs, rfl, .inl sq, q⟩
theorem pool_mono {H : Hp} {p : Addr} {n m : Int} (h : Pool H p n) (e : n ≤ m) : Pool H p m := by
  obtain ⟨g, mm, c, h1, h2, h3, h4, h5, h6⟩ := h
  exact ⟨g, mm, c, h1, h2, h3, h4, h5, by omega⟩
theorem pool_upd {H : Hp} {p l : Addr} {o : HO} {n : Int} (h : Pool H p n) (e : l ≠ p) : Pool (L2.upd H l o) p n := pool_at h (upd_ne (Ne.symm e))
theorem cutV_take {xs : List V} {k : Nat} (h : k ≤ xs.length) : cutV xs none (some ((k : Nat) : Int)) = xs.take k := by
  unfold cutV
  rw [HT.sIx_none, HT.sIx_nat, Nat.min_eq_left h, Nat.sub_zero, List.drop_zero]
theorem cutV_drop {xs : List V} {k : Nat} (h : k ≤ xs.length) : cutV xs (some ((k : Nat) : Int)) none = xs.drop k := by
  unfold cutV
  rw [HT.sIx_none, HT.sIx_nat, Nat.min_eq_left h, List.take_of_length_le (by rw [List.length_drop]; exact Nat.le_refl _)]
end My

namespace L2
open PySem PySem.Spec PyProof.Rows
theorem PG.or {X : Cx} {t : Expr} {g g' : TG} (h : PG X t g) (h' : PG X t g') : PG X t (fun v σ H Q => g v σ H Q ∨ g' v σ H Q) :=
  ⟨fun pins s σ H v u Q I rv q => q.elim (h.run pins s σ H v u Q I rv) (h'.run pins s σ H v u Q I rv)⟩
theorem opK {X : Cx} {f : Value → Value → Sem Value} {r : PySem.W.Frag → R2} {K : PySem.W.Frag} (e : X.K = K) (h : OpR X f (r X.K)) : OpR X f (r K) := e ▸ h
theorem ixK {X : Cx} {r : PySem.W.Frag → R2} {K : PySem.W.Frag} (e : X.K = K) (h : IxR X (r X.K)) : IxR X (r K) := e ▸ h
theorem caK {X : Cx} {v : Value} {r : PySem.W.Frag → List V → Hp → VK → Prop} {K : PySem.W.Frag} (e : X.K = K) (h : CallR X v (r X.K)) : CallR X v (r K) := e ▸ h
theorem peK {X : Cx} {x : Expr} {r : PySem.W.Frag → TE} {K : PySem.W.Frag} (e : X.K = K) (h : PE X x (r X.K)) : PE X x (r K) := e ▸ h
end L2
namespace My
open PySem PySem.Spec PyProof.Rows L2
/-- an unpacking of a list or a tuple -/
def gSeq (K : PySem.W.Frag) (n : Nat) (t : TGs) : TG := fun v σ H Q => ∃ a xs, v = .ref a ∧ SeqAt2 K H a xs ∧ xs.length = n ∧ t xs σ H Q
theorem pg_seq {X : Cx} {pos : Pos} {es : List Expr} {k : Nat} {t : TGs} {n : Nat} (hc : X.calm = true) (h : PGs X es t) (h1 : (assignEach es X.env).length = n := by rfl) (h2 : List.findIdx? (fun x => x.fst) (assignEach es X.env) = none := by rfl) : PG X (Expr.Tuple es k pos) (gSeq X.K n t) :=
  ⟨fun pins s σ H v u Q I rv q => (PG.or (pg_tup hc h h1 h2) (pg_unl hc h h1 h2)).run pins s σ H v u Q I rv (by
    obtain ⟨a, xs, e, sq, l, q⟩ := q
    exact sq.elim (fun z => .inr ⟨a, xs, e, z, l, q⟩) fun z => .inl ⟨a, xs, e, z, l, q⟩)⟩
/-! ### facts -/
def wordsS : List Str := ["below", "not", "line"]
/-- what may stand in a fact: flat, or a list, a tuple, a dict -/
def Itm (K : PySem.W.Frag) (H : Hp) (x : V) : Prop := flatV x = true ∨ NoText K H x
theorem NoText.ext {K : PySem.W.Frag} {H H' : Hp} {x : V} (h : NoText K H x) (e : Ext H H') : NoText K H' x := by
  rcases h with ⟨a, xs, rfl, h | h⟩ | ⟨a, kvs, rfl, h⟩
  · exact .inl ⟨a, xs, rfl, .inl (h.ext e)⟩
  · exact .inl ⟨a, xs, rfl, .inr (h.ext e)⟩
  · exact .inr ⟨a, kvs, rfl, e _ _ h⟩
theorem Itm.ext {K : PySem.W.Frag} {H H' : Hp} {x : V} (h : Itm K H x) (e : Ext H H') : Itm K H' x := h.elim .inl fun z => .inr (NoText.ext z e)
theorem noText_inV {K : PySem.W.Frag} {H : Hp} {x : V} (h : NoText K H x) (zs : List Str) : inV x (zs.map V.str) = false := by
  refine inV_no (fun z => ?_) zs
  rcases h with ⟨a, xs, rfl, _⟩ | ⟨a, kvs, rfl, _⟩ <;> rfl
theorem eqV_strE {z : Str} {y : V} (h : eqV (.str z) y = true) : y = .str z := by
  cases y with
  | str w =>
    have e : z = w := eq_of_beq h
    rw [e]
  | _ => exact absurd (show false = true from h) Bool.false_ne_true
theorem inV_mem {y : V} {zs : List Str} (h : inV y (zs.map V.str) = true) : ∃ z, z ∈ zs ∧ y = .str z := by
  unfold inV at h
  rw [List.any_eq_true] at h
  obtain ⟨x, hx, e⟩ := h
  obtain ⟨z, hz, rfl⟩ := List.mem_map.mp hx
  exact ⟨z, hz, eqV_strE e⟩
theorem flat_strs (zs : List Str) : (zs.map V.str).all flatV = true := by
  rw [List.all_map]
  exact List.all_eq_true.mpr fun _ _ => rfl
/-- x in, not in a tuple of texts -/
def rInW (K : PySem.W.Frag) (neg : Bool) : R2 := fun x y H Q => ∃ (p : Addr) (zs : List Str), y = .ref p ∧ SqT K H p (zs.map V.str) ∧ Itm K H x ∧ Q (.bl (neg ^^ inV x (zs.map V.str))) H
theorem op_notInW {X : Cx} (hu : X.A.units + 1 < cLine) : OpR X (compareOp .NotIn) (rInW X.K true) := by
  intro pins s σ H x y v u Q I rx ry h
  obtain ⟨p, zs, rfl, sq, it, q⟩ := h
  rw [show (true ^^ inV x (zs.map V.str)) = !inV x (zs.map V.str) by cases inV x (zs.map V.str) <;> rfl] at q
  refine (OpR.or op_notIn_seq (OpR.notIn (op_inN hu))) pins s σ H x _ v u Q I rx ry ?_
  rcases it with fl | nt
  · exact .inl ⟨p, _, rfl, .inr sq, fl, flat_strs _, q⟩
  · rw [noText_inV nt] at q
    exact .inr ⟨p, zs, rfl, sq, nt, false, rfl, q⟩
theorem op_inW {X : Cx} (hu : X.A.units + 1 < cLine) : OpR X (compareOp .In) (rInW X.K false) := by
  intro pins s σ H x y v u Q I rx ry h
  obtain ⟨p, zs, rfl, sq, it, q⟩ := h
  rw [show (false ^^ inV x (zs.map V.str)) = inV x (zs.map V.str) by cases inV x (zs.map V.str) <;> rfl] at q
  refine (OpR.or op_in_seq (op_inN hu)) pins s σ H x _ v u Q I rx ry ?_
  rcases it with fl | nt
  · exact .inl ⟨p, _, rfl, .inr sq, fl, flat_strs _, q⟩
  · rw [noText_inV nt] at q
    exact .inr ⟨p, zs, rfl, sq, nt, q⟩
/-- x in, not in a house -/
def rInH (K : PySem.W.Frag) (C : Addr) (neg : Bool) : R2 := fun x y H Q => ∃ h fo th, y = .ref h ∧ Hou H K C h fo th ∧ Itm K H x ∧ Q (.bl (neg ^^ inV x ((fo ++ th).map V.str))) H
theorem op_inH {X : Cx} {C CB : Addr} (Z : HouseTxt X.prog X.w X.K X.mg C CB) (hr : Room 3 X.A) : OpR X (compareOp .In) (rInH X.K C false) := by
  intro pins s σ H x y v u Q I rx ry h
  obtain ⟨a, fo, th, rfl, ho, it, q⟩ := h
  rw [show (false ^^ inV x ((fo ++ th).map V.str)) = inV x ((fo ++ th).map V.str) by cases inV x ((fo ++ th).map V.str) <;> rfl] at q
  obtain ⟨dx, fs, hi⟩ := ho.ins
  refine (op_inO (EI := E0) hr Z.mS (Z.S _) Z.bS pass0) pins s σ H x _ v u Q I rx ry ⟨a, dx, fs, rfl, hi, a, fo, th, x, rfl, ho, ?_⟩
  rcases it with fl | nt
  · exact .inl ⟨fl, _, rfl, q⟩
  · rw [noText_inV nt] at q
    exact .inr (.inl ⟨nt, _, rfl, q⟩)
theorem op_notInH {X : Cx} {C CB : Addr} (Z : HouseTxt X.prog X.w X.K X.mg C CB) (hr : Room 3 X.A) : OpR X (compareOp .NotIn) (rInH X.K C true) := by
  intro pins s σ H x y v u Q I rx ry h
  obtain ⟨a, fo, th, rfl, ho, it, q⟩ := h
  refine (OpR.notIn (op_inH Z hr)) pins s σ H x _ v u Q I rx ry ⟨a, fo, th, rfl, ho, it, _, rfl, ?_⟩
  rw [Bool.false_xor]
  rw [Bool.true_xor] at q
  exact q
def factB (fo th : List Str) (w o p : V) : Bool := inV w (wordsS.map V.str) && (inV o ((fo ++ th).map V.str) && (inV p ((fo ++ th).map V.str) && (!decide (o = p) && (decide (w = .str "line") || inV p (fo.map V.str)))))
/-- whether x is a fact -/
def FactOf (K : PySem.W.Frag) (H : Hp) (fo th : List Str) (x : V) (b : Bool) : Prop := (b = false ∧ ∃ t, TyX K H x t ∧ PySem.W.kitAny K t [.type "list", .type "tuple"] = some false) ∨
  (b = false ∧ ∃ a xs, x = .ref a ∧ SeqAt2 K H a xs ∧ xs.length ≠ 3) ∨ ∃ a w o p, x = .ref a ∧ SeqAt2 K H a [w, o, p] ∧ Itm K H w ∧ Itm K H o ∧ Itm K H p ∧ b = factB fo th w o p
theorem FactOf.ext {K : PySem.W.Frag} {H H' : Hp} {fo th : List Str} {x : V} {b : Bool} (h : FactOf K H fo th x b) (e : Ext H H') : FactOf K H' fo th x b := by
  rcases h with ⟨h0, t, h1, h2⟩ | ⟨h0, a, xs, h1, h2, h3⟩ | ⟨a, w, o, p, h1, h2, h3, h4, h5, h6⟩
  · exact .inl ⟨h0, t, h1.ext e, h2⟩
  · exact .inr (.inl ⟨h0, a, xs, h1, h2.ext e, h3⟩)
  · exact .inr (.inr ⟨a, w, o, p, h1, h2.ext e, h3.ext e, h4.ext e, h5.ext e, h6⟩)
theorem seq_kit {K : PySem.W.Frag} {H : Hp} {a : Addr} {xs : List V} (h : SeqAt2 K H a xs) : ∃ t, TyX K H (.ref a) t ∧ PySem.W.kitAny K t [.type "list", .type "tuple"] = some true := by
  rcases h with h | h
  · exact ⟨_, tyx_sqL h, by rfl⟩
  · exact ⟨_, tyx_sqT h, by rfl⟩
def spIsFact (K : PySem.W.Frag) (C : Addr) : Sp := fun vs H Q _ => ∃ h x fo th b, vs = [.ref h, x] ∧ Hou H K C h fo th ∧ FactOf K H fo th x b ∧ ∀ H', Ext H H' → Q (.bl b) H'
abbrev nm_is_fact : List Str := ["house", "thing", "word", "one", "other"]
theorem sc_is_fact : FnScope nm_is_fact ["house", "thing"] (defScope s_is_fact) := ⟨rfl, rfl, rfl, by decide +kernel, rfl, by decide +kernel, by decide +kernel⟩
section
variable {P : Program} {w : World} {K : PySem.W.Frag} {mg : Str → Option Value} {base : Heap} {f C CB : Addr} {fd : FuncData}
theorem ok_isFact (Fn : FnP K "is_fact" s_is_fact f fd) (Z : HouseTxt P w K mg C CB) (his_list : Has P w K mg base 1 "is_list" ["thing"] (spIsList K)) (gB_len : mg "len" = none) {aW : Addr} (gW : mg "WORDS" = some (.ref aW)) (tW : ∀ H, SqT K H aW (wordsS.map V.str)) :
    FnOk P w K mg base CX0 5 f fd ["house", "thing"] (spIsFact K C) := by
  refine Fn.ok sc_is_fact (fun vs H Q E h => ?_) (fun cdv A outer s H vs Q E hr h => ⟨_, PSs.nox
    (pss_cons (ps_if (PW.pt (pw_or (pt_not (pt_val (pe_has his_list (hr.mono (by decide)) (pa_cons (pv 1) pa_nil)))) (pw_or1 (pt_cmpR op_ne (pe_callB call_len (by rfl) gB_len boot_len (pa_cons (pv 1) pa_nil)) pe_int (nomark _))))) (pss_one (ps_ret pe_bl)) pss_nil)
      (pss_cons (ps_asg (pv 1) (pg_seq rfl (pgs_cons (pg_name (i := 2) sc_is_fact.nd rfl (Or.inl rfl)) (pgs_cons (pg_name (i := 3) sc_is_fact.nd rfl (Or.inl rfl)) (pgs_cons (pg_name (i := 4) sc_is_fact.nd rfl (Or.inl rfl)) pgs_nil)))))
      (pss_cons (ps_if (PW.pt (pw_or (pt_cmpR (op_notInW (hu_of hr)) (pv 2) (pe_glob (v := .ref aW) (by rfl) gW rfl) (by rfl)) (pw_or (pt_cmpR (op_notInH Z (hr.mono (by decide))) (pv 3) (pv 0) (by rfl)) (pw_or1 (pt_cmpR (op_notInH Z (hr.mono (by decide))) (pv 4) (pv 0) (by rfl)))))) (pss_one (ps_ret pe_bl)) pss_nil)
      (pss_one (ps_ret (pe_and (pe_cmpR op_ne (pv 3) (pv 4) (nomark _)) (pe_one (pe_or (pe_cmpR op_eq (pv 2) pe_str (nomark _)) (pe_one (pe_cmpR op_in_seq (pv 4) (pe_fld (pv 0) rfl) (by rfl))))))))))), ?_⟩)
  · obtain ⟨h, x, fo, th, b, rfl, _⟩ := h
    rfl
  · obtain ⟨ho, x, fo, th, b, rfl, hou, hx, q⟩ := h
    have hx0 := hx
    rcases hx with ⟨rfl, t, ty, kt⟩ | ⟨rfl, a, xs, rfl, sq, nl⟩ | ⟨a, v1, v2, v3, rfl, sq, i1, i2, i3, rfl⟩
    · refine ⟨_, rfl, x, t, false, rfl, ty, kt, fun H1 x1 => ?_⟩
      exact ⟨false, rfl, q H1 x1⟩
    · obtain ⟨t, ty, kt⟩ := seq_kit sq
      refine ⟨_, rfl, _, t, true, rfl, ty, kt, fun H1 x1 => ?_⟩
      have sq1 := sq.ext x1
      refine ⟨true, rfl, _, rfl, _, xs.length, rfl, ?_, ?_⟩
      · exact sq1.elim (fun z => .inl ⟨_, z, rfl⟩) fun z => .inr ⟨_, z, rfl⟩
      refine ⟨rfl, _, rfl, ?_⟩
      refine ite2 (fun _ => q H1 x1) fun hn => absurd ?_ hn
      have : ¬ (V.int (xs.length : Nat) = V.int 3) := fun e => nl (by injection e with e; omega)
      rw [decide_eq_false this]
      rfl
    · obtain ⟨t, ty, kt⟩ := seq_kit sq
      refine ⟨_, rfl, _, t, true, rfl, ty, kt, fun H1 x1 => ?_⟩
      have sq1 := sq.ext x1
      refine ⟨true, rfl, _, rfl, _, 3, rfl, ?_, ?_⟩
      · exact sq1.elim (fun z => .inl ⟨_, z, rfl⟩) fun z => .inr ⟨_, z, rfl⟩
      refine ⟨rfl, _, rfl, ?_⟩
      refine iteNS rfl ?_
      have j1 := i1.ext x1
      have j2 := i2.ext x1
      have j3 := i3.ext x1
      have hou1 := hou.ext x1
      refine ⟨_, rfl, a, _, rfl, sq1, rfl, ?_⟩
      have qF : ∀ H2, Ext H1 H2 → factB fo th v1 v2 v3 = false → Q (.bl false) H2 := fun H2 x2 e => by
        have z := q H2 (x1.trans x2)
        rw [e] at z
        exact z
      refine ⟨_, _, rfl, _, _, rfl, _, _, rfl, rfl, ?_⟩
      -- the word
      refine ⟨_, rfl, aW, wordsS, rfl, tW H1, j1, _, rfl, ?_⟩
      refine ite2 (fun e => qF H1 Ext.rfl' ?_) fun e => ?_
      · have e' : inV v1 (wordsS.map V.str) = false := by simpa using e
        unfold factB
        rw [e', Bool.false_and]
      have e1 : inV v1 (wordsS.map V.str) = true := by simpa using e
      refine ⟨_, rfl, _, rfl, ho, fo, th, rfl, hou1, j2, _, rfl, ?_⟩
      refine ite2 (fun e => qF H1 Ext.rfl' ?_) fun e => ?_
      · have e' : inV v2 ((fo ++ th).map V.str) = false := by simpa using e
        unfold factB
        rw [e1, e', Bool.false_and]
        rfl
      have e2 : inV v2 ((fo ++ th).map V.str) = true := by simpa using e
      refine ⟨_, rfl, _, rfl, ho, fo, th, rfl, hou1, j3, _, rfl, ?_⟩
      refine ite2 (fun e => qF H1 Ext.rfl' ?_) fun e => ?_
      · have e' : inV v3 ((fo ++ th).map V.str) = false := by simpa using e
        unfold factB
        rw [e1, e2, e', Bool.false_and]
        rfl
      have e3 : inV v3 ((fo ++ th).map V.str) = true := by simpa using e
      obtain ⟨z1, _, rfl⟩ := inV_mem e1
      obtain ⟨z2, _, rfl⟩ := inV_mem e2
      obtain ⟨z3, _, rfl⟩ := inV_mem e3
      have ef : factB fo th (.str z1) (.str z2) (.str z3) = (!decide (V.str z2 = V.str z3) && (decide (V.str z1 = .str "line") || inV (.str z3) (fo.map V.str))) := by
        unfold factB
        rw [e1, e2, e3, Bool.true_and, Bool.true_and, Bool.true_and]
      rw [ef] at q
      refine ⟨_, rfl, _, rfl, rfl, _, rfl, ?_⟩
      refine ite2 (fun e => ?_) fun e => ?_
      · refine ⟨_, rfl, rfl, _, rfl, ?_⟩
        rw [e, Bool.true_and] at q
        refine ite2 (fun e' => ?_) fun e' => ?_
        · rw [e', Bool.true_or] at q
          exact q H1 x1
        · have e'' : decide (V.str z1 = .str "line") = false := by simpa using e'
          rw [e'', Bool.false_or] at q
          obtain ⟨⟨dx, fs, f, t, n, h1, h2, h3, h4, h5, h6, h7⟩, ok1, ok2⟩ := hou1
          exact ⟨_, rfl, _, rfl, ho, C, dx, fs, _, rfl, h1, Z.T.cl, Z.T.nf, h2, f, _, rfl, .inr h5, rfl, flat_strs _, q H1 x1⟩
      · have e'' : (!decide (V.str z2 = V.str z3)) = false := by simpa using e
        rw [e'', Bool.false_and] at q
        exact q H1 x1
end
end My

namespace My
open PySem PySem.Spec PyProof.Rows L2
/-! ### a fact as it is told -/
/-- the nodes of a line in the order of the house -/
def ordS (ns : List Str) (a b : Str) : List Str := ns.filter fun n => decide (n = a) || decide (n = b)
theorem ord_two : ∀ {ns : List Str} {a b : Str}, ns.Nodup → a ∈ ns → b ∈ ns → a ≠ b → ∃ c d, ordS ns a b = [c, d] ∧ ((c = a ∧ d = b) ∨ (c = b ∧ d = a))
  | [], a, b, _, ha, _, _ => by cases ha
  | n :: ns, a, b, nd, ha, hb, ne => by
    obtain ⟨nn, nd'⟩ := List.nodup_cons.mp nd
    have one : ∀ (x : Str), x ∈ ns → ∀ y, y ∉ ns → ordS ns x y = [x] ∧ ordS ns y x = [x] := by
      intro x hx y hy
      clear ha hb ne nn nd
      induction ns with
      | nil => cases hx
      | cons m ms ih =>
        obtain ⟨nm, ndm⟩ := List.nodup_cons.mp nd'
        have hym : m ≠ y := fun e => hy (by rw [e]; exact List.mem_cons_self)
        have hy' : y ∉ ms := fun e => hy (List.mem_cons_of_mem _ e)
        have none_ : ∀ u v : Str, u ∉ ms → v ∉ ms → ordS ms u v = [] := fun u v hu hv => by
          unfold ordS
          rw [List.filter_eq_nil_iff]
          intro k hk
          have h1 : k ≠ u := fun e => hu (e ▸ hk)
          have h2 : k ≠ v := fun e => hv (e ▸ hk)
          simp [h1, h2]
        rcases List.mem_cons.mp hx with rfl | hx'
        · have z1 := none_ x y nm hy'
          have z2 := none_ y x hy' nm
          unfold ordS at z1 z2 ⊢
          rw [List.filter_cons, List.filter_cons, z1, z2]
          simp
        · have hmx : m ≠ x := fun e => nm (e ▸ hx')
          obtain ⟨i1, i2⟩ := ih ndm hx' hy'
          unfold ordS at i1 i2 ⊢
          rw [List.filter_cons, List.filter_cons, i1, i2]
          simp [hmx, hym]
    rcases List.mem_cons.mp ha with rfl | ha'
    · have hb' : b ∈ ns := (List.mem_cons.mp hb).resolve_left fun e => ne e.symm
      have z := (one b hb' a nn).2
      refine ⟨a, b, ?_, .inl ⟨rfl, rfl⟩⟩
      unfold ordS at z ⊢
      rw [List.filter_cons, z]
      simp
    · rcases List.mem_cons.mp hb with rfl | hb'
      · have z := (one a ha' b nn).1
        refine ⟨b, a, ?_, .inr ⟨rfl, rfl⟩⟩
        unfold ordS at z ⊢
        rw [List.filter_cons, z]
        simp
      · have h1 : n ≠ a := fun e => nn (e ▸ ha')
        have h2 : n ≠ b := fun e => nn (e ▸ hb')
        obtain ⟨c, d, e, h⟩ := ord_two nd' ha' hb' ne
        refine ⟨c, d, ?_, h⟩
        unfold ordS at e ⊢
        rw [List.filter_cons, e]
        simp [h1, h2]
/-- a fact of strings -/
def IsF (fo th : List Str) (w a b : Str) : Prop := w ∈ wordsS ∧ a ∈ fo ++ th ∧ b ∈ fo ++ th ∧ a ≠ b ∧ (w = "line" ∨ b ∈ fo)
theorem fact_is {fo th : List Str} {w o p : V} (h : factB fo th w o p = true) : ∃ z a b, w = .str z ∧ o = .str a ∧ p = .str b ∧ IsF fo th z a b := by
  unfold factB at h
  obtain ⟨h1, h⟩ := Bool.and_eq_true_iff.mp h
  obtain ⟨h2, h⟩ := Bool.and_eq_true_iff.mp h
  obtain ⟨h3, h⟩ := Bool.and_eq_true_iff.mp h
  obtain ⟨h4, h5⟩ := Bool.and_eq_true_iff.mp h
  obtain ⟨z, hz, rfl⟩ := inV_mem h1
  obtain ⟨a, ha, rfl⟩ := inV_mem h2
  obtain ⟨b, hb, rfl⟩ := inV_mem h3
  refine ⟨z, a, b, rfl, rfl, rfl, hz, ha, hb, fun e => ?_, ?_⟩
  · subst e
    simp at h4
  · rcases Bool.or_eq_true_iff.mp h5 with h | h
    · have := of_decide_eq_true h
      injection this with e
      exact .inl e
    · obtain ⟨c, hc, e⟩ := inV_mem h
      injection e with e
      exact .inr (e ▸ hc)
theorem is_fact {fo th : List Str} {z a b : Str} (h : IsF fo th z a b) : factB fo th (.str z) (.str a) (.str b) = true := by
  obtain ⟨h1, h2, h3, h4, h5⟩ := h
  unfold factB
  rw [inV_str, inV_str, inV_str, inV_str, decide_eq_true h1, decide_eq_true h2, decide_eq_true h3]
  have : decide (V.str a = V.str b) = false := decide_eq_false fun e => h4 (by injection e)
  rw [this]
  rcases h5 with rfl | h5
  · simp
  · rw [decide_eq_true h5]
    simp
/-- the fact as told -/
def toldS (ns : List Str) (w a b : Str) : List Str := if w = "line" then "line" :: ordS ns a b else [w, a, b]
theorem told_three {fo th : List Str} {w a b : Str} (nd : (fo ++ th).Nodup) (h : IsF fo th w a b) : ∃ c d, toldS (fo ++ th) w a b = [w, c, d] ∧ ((c = a ∧ d = b) ∨ (w = "line" ∧ c = b ∧ d = a)) := by
  unfold toldS
  by_cases e : w = "line"
  · rw [if_pos e]
    obtain ⟨c, d, h1, h2⟩ := ord_two nd h.2.1 h.2.2.1 h.2.2.2.1
    refine ⟨c, d, by rw [h1, e], h2.imp id fun z => ⟨e, z⟩⟩
  · rw [if_neg e]
    exact ⟨a, b, rfl, .inl ⟨rfl, rfl⟩⟩
def spAsTold (K : PySem.W.Frag) (C : Addr) : Sp := fun vs H Q _ => ∃ h x fo th w a b, vs = [.ref h, .ref x] ∧ Hou H K C h fo th ∧ (fo ++ th).Nodup ∧ (fo ++ th).length < sizeLine ∧ IsF fo th w a b ∧ SeqAt2 K H x [.str w, .str a, .str b] ∧
  ∀ t H', Ext H H' → H' t = some (.tup ((toldS (fo ++ th) w a b).map V.str)) → Q (.ref t) H'
abbrev nm_as_told : List Str := ["house", "fact", "word", "one", "other", "first", "second", "node"]
theorem sc_as_told : FnScope nm_as_told ["house", "fact"] (defScope s_as_told) := ⟨rfl, rfl, rfl, by decide +kernel, rfl, by decide +kernel, by decide +kernel⟩
section
variable {P : Program} {w : World} {K : PySem.W.Frag} {mg : Str → Option Value} {base : Heap} {f C CB : Addr} {fd : FuncData}
theorem ok_asTold (Fn : FnP K "as_told" s_as_told f fd) (Z : HouseTxt P w K mg C CB) : FnOk P w K mg base CX0 1 f fd ["house", "fact"] (spAsTold K C) := by
  refine Fn.ok sc_as_told (fun vs H Q E h => ?_) (fun cdv A outer s H vs Q E hr h => ⟨_, PSs.nox
    (pss_cons (ps_asg (pv 1) (pg_seq rfl (pgs_cons (pg_name (i := 2) sc_as_told.nd rfl (Or.inl rfl)) (pgs_cons (pg_name (i := 3) sc_as_told.nd rfl (Or.inr rfl)) (pgs_cons (pg_name (i := 4) sc_as_told.nd rfl (Or.inr rfl)) pgs_nil)))))
      (pss_cons (ps_if (pt_cmpR op_ne (pv 2) pe_str (nomark _)) (pss_one (ps_ret (pe_tup (pa_cons (pv 2) (pa_cons (pv 3) (pa_cons (pv 4) pa_nil)))))) pss_nil)
      (pss_cons (ps_asg (pe_lc (own := [("node", 7)]) (g := (gName 7)) rfl sc_as_told.nd (pi_tup (pe_fld (pv 0) rfl)) (blkOk_by (N := nm_as_told) (sc := defScope s_as_told) (by decide +kernel)) (fun _ _ _ _ _ => (pg_name (i := 7) sc_as_told.nd rfl (Or.inl rfl))) (fun _ _ _ _ _ => pts_one (pt_cmpR (opK (r := fun K => rIn K false) (K := K) rfl op_in_seq) (pv 7) (pe_tup (pa_cons (pv 3) (pa_cons (pv 4) pa_nil))) (by rfl))) (fun _ _ _ _ _ => (pv 7))) (pg_unl rfl (pgs_cons (pg_name (i := 5) sc_as_told.nd rfl (Or.inl rfl)) (pgs_cons (pg_name (i := 6) sc_as_told.nd rfl (Or.inl rfl)) pgs_nil))))
      (pss_one (ps_ret (pe_tup (pa_cons (pv 2) (pa_cons (pv 5) (pa_cons (pv 6) pa_nil))))))))), ?_⟩)
  · obtain ⟨h, x, fo, th, w, a, b, rfl, _⟩ := h
    rfl
  · obtain ⟨ho, x, fo, th, wo, a, b, rfl, hou, nd, hz, hf, sq, q⟩ := h
    refine ⟨_, rfl, x, _, rfl, sq, rfl, ?_⟩
    refine ⟨_, _, rfl, _, _, rfl, _, _, rfl, rfl, ?_⟩
    refine ⟨_, rfl, rfl, _, rfl, ?_⟩
    unfold toldS at q
    refine ite2 (fun e => ?_) fun e => ?_
    · have e' : wo ≠ "line" := fun z => by
        subst z
        exact absurd e (by decide)
      rw [if_neg e'] at q
      refine ⟨_, rfl, _, rfl, _, rfl, Nat.le_of_ble_eq_true rfl, fun t ht => q t _ (Ext.upd ht) upd_same⟩
    · have e' : wo = "line" := by
        have z : V.str wo = V.str "line" := by simpa using e
        injection z
      rw [if_pos e'] at q
      subst e'
      obtain ⟨⟨dx, fs, f, t, n, h1, h2, h3, h4, h5, h6, h7⟩, ok1, ok2⟩ := hou
      refine ⟨_, rfl, ho, C, dx, fs, _, rfl, h1, Z.T.cl, Z.T.nn, h4, n, rfl, ⟨_, h7⟩, fun D hD => ?_⟩
      have enodes : fo.map V.str ++ th.map V.str = (fo ++ th).map V.str := (List.map_append ..).symm
      refine lc_tup (K := K) (a := n) (xs := (fo ++ th).map V.str) (fun i H' => Ext H H' ∧ H' D = some (.lst ((ordS ((fo ++ th).take i) a b).map V.str))) ⟨Ext.upd hD, upd_same⟩ (fun i H' _ p => by rw [← enodes]; exact h7.ext p.1) ?_ ?_
      · intro i v H1 hv ⟨x1, l1⟩
        obtain ⟨z, hz', rfl⟩ : ∃ z, (fo ++ th)[i]? = some z ∧ V.str z = v := by
          rw [List.getElem?_map] at hv
          cases hh : (fo ++ th)[i]? with
          | none => rw [hh] at hv; cases hv
          | some z => rw [hh] at hv; injection hv with hv; exact ⟨z, rfl, hv⟩
        have il : i < (fo ++ th).length := (List.getElem?_eq_some_iff.mp hz').1
        have tk : (fo ++ th).take (i + 1) = (fo ++ th).take i ++ [z] := by
          rw [List.take_add_one, hz']
          rfl
        refine ⟨rfl, _, rfl, _, rfl, _, rfl, Nat.le_of_ble_eq_true rfl, fun T hT => ⟨T, _, rfl, .inr (SqT.of upd_same), rfl, rfl, _, rfl, ?_⟩⟩
        have x2 : Ext H (upd H1 T (.tup [.str a, .str b])) := x1.upd' hT
        have l2 : (upd H1 T (.tup [.str a, .str b])) D = some (.lst ((ordS ((fo ++ th).take i) a b).map V.str)) := Ext.upd hT _ _ l1
        have ein : inV (.str z) [.str a, .str b] = (decide (z = a) || decide (z = b)) := by
          have := inV_str z [a, b]
          rw [show ([.str a, .str b] : List V) = [a, b].map V.str from rfl, this]
          simp
        refine ite2 (fun e => ?_) fun e => ?_
        · have e' : (decide (z = a) || decide (z = b)) = true := by rw [← ein]; exact e
          refine ⟨_, rfl, _, l2, ?_, ?_, ?_⟩
          · rw [List.length_map]
            refine Nat.lt_of_le_of_lt (List.length_filter_le _ _) ?_
            rw [List.length_take]
            omega
          · exact x2.over hD
          · rw [upd_same, tk]
            unfold ordS
            rw [List.filter_append, List.map_append, List.filter_cons, if_pos e']
            rfl
        · have e' : ¬ (decide (z = a) || decide (z = b)) = true := by rw [← ein]; exact e
          refine ⟨x2, ?_⟩
          rw [l2, tk]
          unfold ordS
          rw [List.filter_append, List.filter_cons, if_neg e', List.filter_nil, List.append_nil]
      · intro H1 ⟨x1, l1⟩
        rw [List.length_map, List.take_length] at l1
        obtain ⟨c, d, ecd, _⟩ := ord_two nd hf.2.1 hf.2.2.1 hf.2.2.2.1
        rw [ecd] at l1 q
        refine ⟨D, _, rfl, SqL.of l1, rfl, _, _, rfl, _, _, rfl, rfl, ?_⟩
        exact ⟨_, rfl, _, rfl, _, rfl, Nat.le_of_ble_eq_true rfl, fun t ht => q t _ (x1.upd' ht) upd_same⟩
end
end My

namespace My
open PySem PySem.Spec PyProof.Rows L2
/-! ### what is against a fact -/
/-- rows of texts, each a tuple -/
def Rows (K : PySem.W.Frag) (H : Hp) : List V → List (List Str) → Prop
  | [], [] => True
  | x :: xs, r :: rs => (∃ t, x = .ref t ∧ SqT K H t (r.map V.str)) ∧ Rows K H xs rs
  | _, _ => False
theorem Rows.ext {K : PySem.W.Frag} {H H' : Hp} (e : Ext H H') : ∀ {xs : List V} {rs : List (List Str)}, Rows K H xs rs → Rows K H' xs rs
  | [], [], _ => True.intro
  | _ :: _, _ :: _, ⟨⟨t, e1, h⟩, hr⟩ => ⟨⟨t, e1, h.ext e⟩, Rows.ext e hr⟩
  | [], _ :: _, h => h.elim
  | _ :: _, [], h => h.elim
theorem Rows.len {K : PySem.W.Frag} {H : Hp} : ∀ {xs : List V} {rs : List (List Str)}, Rows K H xs rs → xs.length = rs.length
  | [], [], _ => rfl
  | _ :: _, _ :: _, ⟨_, hr⟩ => congrArg (· + 1) (Rows.len hr)
  | [], _ :: _, h => h.elim
  | _ :: _, [], h => h.elim
theorem Rows.app {K : PySem.W.Frag} {H : Hp} : ∀ {xs ys : List V} {rs ss : List (List Str)}, Rows K H xs rs → Rows K H ys ss → Rows K H (xs ++ ys) (rs ++ ss)
  | [], _, [], _, _, h => h
  | _ :: _, _, _ :: _, _, ⟨h1, h2⟩, h => ⟨h1, Rows.app h2 h⟩
  | [], _, _ :: _, _, h, _ => h.elim
  | _ :: _, _, [], _, h, _ => h.elim
theorem Rows.at_ {K : PySem.W.Frag} {H : Hp} : ∀ {xs : List V} {rs : List (List Str)} {i : Nat} {x : V}, Rows K H xs rs → xs[i]? = some x → ∃ t r, x = .ref t ∧ SqT K H t (r.map V.str) ∧ rs[i]? = some r
  | _ :: _, r :: _, 0, _, ⟨⟨t, e1, h⟩, _⟩, e => by
    injection e with e
    subst e
    exact ⟨t, r, e1, h, rfl⟩
  | _ :: xs, _ :: rs, i + 1, x, ⟨_, h⟩, e => Rows.at_ (xs := xs) (rs := rs) h e
  | [], [], _, _, _, e => by cases e
  | [], _ :: _, _, _, h, _ => h.elim
  | _ :: _, [], _, _, h, _ => h.elim
/-- a list of rows -/
def RowsAt (K : PySem.W.Frag) (H : Hp) (l : Addr) (rs : List (List Str)) : Prop := ∃ xs, H l = some (.lst xs) ∧ Rows K H xs rs
theorem RowsAt.ext {K : PySem.W.Frag} {H H' : Hp} {l : Addr} {rs : List (List Str)} (h : RowsAt K H l rs) (e : Ext H H') : RowsAt K H' l rs := by
  obtain ⟨xs, h1, h2⟩ := h
  exact ⟨xs, e _ _ h1, h2.ext e⟩
theorem Rows.upd {K : PySem.W.Frag} {H : Hp} {l : Addr} {ys zs : List V} (hl : H l = some (.lst ys)) : ∀ {xs : List V} {rs : List (List Str)}, Rows K H xs rs → Rows K (L2.upd H l (.lst zs)) xs rs
  | [], [], _ => True.intro
  | _ :: _, _ :: _, ⟨⟨t, e1, h⟩, hr⟩ => ⟨⟨t, e1, sqT_upd h hl⟩, Rows.upd hl hr⟩
  | [], _ :: _, h => h.elim
  | _ :: _, [], h => h.elim
def agS (fo : List Str) (w c d : Str) : List (List Str) := if w = "below" then [["not", c, d]] else if w = "not" then [["below", c, d]] else (([(c, d), (d, c)] : List (Str × Str)).filter fun p => decide (p.2 ∈ fo)).map fun p => ["not", p.1, p.2]
/-- the same of a fact as it stands -/
def agF (fo th : List Str) (w a b : Str) : List (List Str) := match toldS (fo ++ th) w a b with
  | [w, c, d] => agS fo w c d
  | _ => []
def spAgainst (K : PySem.W.Frag) (C CF : Addr) : Sp := fun vs H Q E => ∃ h x fo th, vs = [.ref h, x] ∧ Hou H K C h fo th ∧ (fo ++ th).Nodup ∧ (fo ++ th).length < sizeLine ∧
  ((FactOf K H fo th x false ∧ ∀ d H', Ext H H' → H d = none → H' d = some (.xd [(("index" : Str), V.int 0)]) → E (.ref CF) (some d) H') ∨
  (∃ r w a b, x = .ref r ∧ SeqAt2 K H r [.str w, .str a, .str b] ∧ IsF fo th w a b ∧ ∀ l H', Ext H H' → H l = none → RowsAt K H' l (agF fo th w a b) → Q (.ref l) H'))
abbrev nm_against : List Str := ["house", "fact", "word", "one", "other", "node", "folder"]
theorem sc_against : FnScope nm_against ["house", "fact"] (defScope s_against) := ⟨rfl, rfl, rfl, by decide +kernel, rfl, by decide +kernel, by decide +kernel⟩
section
variable {P : Program} {w : World} {K : PySem.W.Frag} {mg : Str → Option Value} {base : Heap} {f C CB CF : Addr} {fd : FuncData}
theorem ok_against (Fn : FnP K "against" s_against f fd) (Z : HouseTxt P w K mg C CB) (EB : Er P w K mg base "BadFact" "index" CF) (his_fact : Has P w K mg base 5 "is_fact" ["house", "thing"] (spIsFact K C)) (has_told : Has P w K mg base 1 "as_told" ["house", "fact"] (spAsTold K C)) :
    FnOk P w K mg base (L2.CX P w) 6 f fd ["house", "fact"] (spAgainst K C CF) := by
  obtain ⟨fI, fdI, TB, FB, bB, _⟩ := EB
  refine Fn.ok sc_against (fun vs H Q E h => ?_) (fun cdv A outer s H vs Q E hr h => ⟨_,
    (pss_cons (ps_if (pt_not (pt_val (pe_has his_fact (hr.mono (by decide)) (pa_cons (pv 0) (pa_cons (pv 1) pa_nil))))) (pss_one (ps_raise rfl (takes_of rfl rfl rfl rfl) (pmk_oex TB.oex TB.iC TB.tI FB (hr.mono (by decide)) bB .nil pass0 (by rfl) TB.gl (pa_cons pe_int pa_nil)))) pss_nil)
      (pss_cons (ps_asg (pe_has has_told (hr.mono (by decide)) (pa_cons (pv 0) (pa_cons (pv 1) pa_nil))) (pg_tup rfl (pgs_cons (pg_name (i := 2) sc_against.nd rfl (Or.inl rfl)) (pgs_cons (pg_name (i := 3) sc_against.nd rfl (Or.inl rfl)) (pgs_cons (pg_name (i := 4) sc_against.nd rfl (Or.inl rfl)) pgs_nil)))))
      (pss_cons (ps_if (pt_cmpR op_eq (pv 2) pe_str (nomark _)) (pss_one (ps_ret (pe_lst (pa_cons (pe_tup (pa_cons pe_str (pa_cons (pv 3) (pa_cons (pv 4) pa_nil)))) pa_nil)))) pss_nil)
      (pss_cons (ps_if (pt_cmpR op_eq (pv 2) pe_str (nomark _)) (pss_one (ps_ret (pe_lst (pa_cons (pe_tup (pa_cons pe_str (pa_cons (pv 3) (pa_cons (pv 4) pa_nil)))) pa_nil)))) pss_nil)
      (pss_one (ps_ret (pe_lc (own := [("node", 5), ("folder", 6)]) (g := (gTup K 2 (gCons (gName 5) (gCons (gName 6) gNil)))) rfl sc_against.nd (pi_tup (pe_tup (pa_cons (pe_tup (pa_cons (pv 3) (pa_cons (pv 4) pa_nil))) (pa_cons (pe_tup (pa_cons (pv 4) (pa_cons (pv 3) pa_nil))) pa_nil)))) (blkOk_by (N := nm_against) (sc := defScope s_against) (by decide +kernel)) (fun _ _ _ _ _ => (pg_tup rfl (pgs_cons (pg_name (i := 5) sc_against.nd rfl (Or.inl rfl)) (pgs_cons (pg_name (i := 6) sc_against.nd rfl (Or.inl rfl)) pgs_nil)))) (fun _ _ _ _ _ => pts_one (pt_cmpR (opK (r := fun K => rIn K false) (K := K) rfl op_in_seq) (pv 6) (peK (r := fun K => tFld K (tVar 0) "folders") (K := K) rfl (pe_fld (pv 0) rfl)) (by rfl))) (fun _ _ _ _ _ => (pe_tup (pa_cons pe_str (pa_cons (pv 5) (pa_cons (pv 6) pa_nil)))))))))))), ?_⟩)
  · obtain ⟨h, x, fo, th, rfl, _⟩ := h
    rfl
  · obtain ⟨ho, x, fo, th, rfl, hou, nd, hz, hh⟩ := h
    rcases hh with ⟨hf, qE⟩ | ⟨r, wd, a1, a2, rfl, sq, isf, qN⟩
    · refine ⟨_, rfl, _, rfl, ho, x, fo, th, false, rfl, hou, hf, fun H1 x1 => ?_⟩
      refine ⟨false, rfl, ?_⟩
      refine ⟨Nat.le_of_ble_eq_true rfl, fun e he => ?_⟩
      refine ⟨e, _, rfl, upd_same, fun d hd ne => ⟨rfl, d, [("index", .int 0)], upd_same, ?_, ?_, ?_⟩⟩
      · rw [upd_ne ne, upd_same]
      · rw [upd_ne ne] at hd
        exact hd
      · rw [upd_ne ne] at hd
        refine qE d _ (fun b u k => ?_) ?_ upd_same
        · have k1 := x1 b u k
          rw [upd_ne (ne_of_none k1 hd), del_ne (ne_of_none k1 he), upd_ne (ne_of_none k1 he), upd_ne (ne_of_none k1 hd), upd_ne (ne_of_none k1 he)]
          exact k1
        · cases hh : H d with
          | none => rfl
          | some u => exact absurd (x1 d u hh) (by rw [hd]; exact fun z => nomatch z)
    · refine ⟨_, rfl, _, rfl, ho, _, fo, th, true, rfl, hou, .inr (.inr ⟨r, _, _, _, rfl, sq, .inl rfl, .inl rfl, .inl rfl, (is_fact isf).symm⟩), fun H1 x1 => ?_⟩
      refine ⟨true, rfl, ?_⟩
      have hou1 := hou.ext x1
      refine ⟨_, rfl, _, rfl, ho, r, fo, th, wd, a1, a2, rfl, hou1, nd, hz, isf, sq.ext x1, fun t H2 x2 ht => ?_⟩
      obtain ⟨c, d, et, hcd⟩ := told_three nd isf
      rw [et] at ht
      have x02 : Ext H H2 := x1.trans x2
      refine ⟨t, _, rfl, SqT.of ht, rfl, _, _, rfl, _, _, rfl, _, _, rfl, rfl, ?_⟩
      have q2 : ∀ l H', Ext H H' → H l = none → RowsAt K H' l (agS fo wd c d) → Q (.ref l) H' := fun l H' x n rr => qN l H' x n (by
        unfold agF
        rw [et]
        exact rr)
      have noneH : ∀ p, H2 p = none → H p = none := fun p hp => by
        cases hh : H p with
        | none => rfl
        | some u => exact absurd (x02 p u hh) (by rw [hp]; exact fun z => nomatch z)
      refine ⟨_, rfl, rfl, _, rfl, ?_⟩
      have one : ∀ nw : Str, (∀ l H', Ext H H' → H l = none → RowsAt K H' l [[nw, c, d]] → Q (.ref l) H') → ∀ p, H2 p = none → ∀ l, upd H2 p (.tup [.str nw, .str c, .str d]) l = none → Q (.ref l) (upd (upd H2 p (.tup [.str nw, .str c, .str d])) l (.lst [.ref p])) := fun nw q p hp l hl => by
        have xp := Ext.upd (o := .tup [.str nw, .str c, .str d]) hp
        have xl := Ext.upd (o := .lst [.ref p]) hl
        refine q l _ (x02.trans (xp.trans xl)) ?_ ⟨_, upd_same, ⟨p, rfl, (SqT.of (K := K) (xs := [.str nw, .str c, .str d]) (by rw [upd_same])).ext xl⟩, True.intro⟩
        exact noneH l (by
          have : l ≠ p := fun e => by rw [e, upd_same] at hl; cases hl
          rw [upd_ne this] at hl
          exact hl)
      refine ite2 (fun e => ?_) fun e => ?_
      · have e' : wd = "below" := by
          have z := of_decide_eq_true e
          injection z
        unfold agS at q2
        rw [if_pos e'] at q2
        refine ⟨_, rfl, _, rfl, Nat.le_of_ble_eq_true rfl, fun p hp => ⟨Nat.le_of_ble_eq_true rfl, fun l hl => one "not" q2 p hp l hl⟩⟩
      have e' : wd ≠ "below" := fun z => e (decide_eq_true (by rw [z]))
      refine ⟨_, rfl, rfl, _, rfl, ?_⟩
      refine ite2 (fun e2 => ?_) fun e2 => ?_
      · have e2' : wd = "not" := by
          have z := of_decide_eq_true e2
          injection z
        unfold agS at q2
        rw [if_neg e', if_pos e2'] at q2
        refine ⟨_, rfl, _, rfl, Nat.le_of_ble_eq_true rfl, fun p hp => ⟨Nat.le_of_ble_eq_true rfl, fun l hl => one "below" q2 p hp l hl⟩⟩
      have e2' : wd ≠ "not" := fun z => e2 (decide_eq_true (by rw [z]))
      unfold agS at q2
      rw [if_neg e', if_neg e2'] at q2
      refine ⟨_, rfl, _, rfl, Nat.le_of_ble_eq_true rfl, fun p1 hp1 => ⟨_, rfl, _, rfl, Nat.le_of_ble_eq_true rfl, fun p2 hp2 => ⟨Nat.le_of_ble_eq_true rfl, fun p3 hp3 => ?_⟩⟩⟩
      have y1 := Ext.upd (o := .tup [.str c, .str d]) hp1
      have y2 := Ext.upd (o := .tup [.str d, .str c]) hp2
      have y3 := Ext.upd (o := .tup [.ref p1, .ref p2]) hp3
      obtain ⟨H3, hH3⟩ : ∃ H3, H3 = upd (upd (upd H2 p1 (.tup [.str c, .str d])) p2 (.tup [.str d, .str c])) p3 (.tup [.ref p1, .ref p2]) := ⟨_, rfl⟩
      have x23 : Ext H2 H3 := by
        rw [hH3]
        exact y1.trans (y2.trans y3)
      have s1 : SqT K H3 p1 [.str c, .str d] := by
        rw [hH3]
        exact (SqT.of upd_same).ext (y2.trans y3)
      have s2 : SqT K H3 p2 [.str d, .str c] := by
        rw [hH3]
        exact (SqT.of upd_same).ext y3
      have s3 : SqT K H3 p3 [.ref p1, .ref p2] := by
        rw [hH3]
        exact SqT.of upd_same
      rw [← hH3]
      refine ⟨p3, rfl, ⟨_, s3⟩, fun D hD => ?_⟩
      have hou3 := hou1.ext (x2.trans x23)
      refine lc_tup (K := K) (a := p3) (xs := [.ref p1, .ref p2]) (fun i H' => Ext H3 H' ∧ ∃ acc, H' D = some (.lst acc) ∧ acc.length ≤ i ∧ Rows K H' acc (((([(c, d), (d, c)] : List (Str × Str)).take i).filter fun p => decide (p.2 ∈ fo)).map fun p => ["not", p.1, p.2])) ⟨Ext.upd hD, [], upd_same, Nat.zero_le _, True.intro⟩ (fun i H' _ p => s3.ext p.1) ?_ ?_
      · intro i v H4 hv ⟨x4, acc, l4, len4, r4⟩
        obtain ⟨u1, u2, pp, sp, rfl, tk⟩ : ∃ (u1 u2 : Str) (pp : Addr), SqT K H4 pp [.str u1, .str u2] ∧ v = .ref pp ∧ ([(c, d), (d, c)] : List (Str × Str)).take (i + 1) = ([(c, d), (d, c)] : List (Str × Str)).take i ++ [(u1, u2)] := by
          match i, hv with
          | 0, hv => exact ⟨c, d, p1, s1.ext x4, by injection hv with hv; exact hv.symm, rfl⟩
          | 1, hv => exact ⟨d, c, p2, s2.ext x4, by injection hv with hv; exact hv.symm, rfl⟩
          | i + 2, hv => cases hv
        have i2 : i < 2 := (List.getElem?_eq_some_iff.mp hv).1
        refine ⟨pp, _, rfl, sp, rfl, _, _, rfl, _, _, rfl, rfl, rfl, _, rfl, ?_⟩
        obtain ⟨⟨dx, fs, f, t, n, h1, h2, h3, h4, h5, h6, h7⟩, ok1, ok2⟩ := hou3
        refine ⟨_, rfl, ho, C, dx, fs, _, rfl, x4 _ _ h1, Z.T.cl, Z.T.nf, h2, f, _, rfl, .inr (h5.ext x4), rfl, flat_strs _, _, rfl, ?_⟩
        rw [if_neg Bool.false_ne_true, inV_str]
        rw [tk]
        refine ite2 (fun e => ?_) fun e => ?_
        · refine ⟨_, rfl, _, rfl, Nat.le_of_ble_eq_true rfl, fun T hT => ⟨acc, Ext.upd hT _ _ l4, ?_, ?_⟩⟩
          · rw [sizeLine_eq]; omega
          · refine ⟨(x4.upd' hT).over hD, _, upd_same, by rw [List.length_append]; exact Nat.succ_le_succ len4, ?_⟩
            rw [List.filter_append, List.map_append]
            refine Rows.app (Rows.upd (Ext.upd hT _ _ l4) (r4.ext (Ext.upd hT))) ?_
            rw [List.filter_cons, if_pos (show decide ((u1, u2).2 ∈ fo) = true from e)]
            exact ⟨⟨T, rfl, sqT_upd (SqT.of upd_same) (Ext.upd hT _ _ l4)⟩, True.intro⟩
        · refine ⟨x4, acc, l4, Nat.le_succ_of_le len4, ?_⟩
          rw [List.filter_append, List.filter_cons, if_neg (show ¬ decide ((u1, u2).2 ∈ fo) = true from e), List.filter_nil, List.append_nil]
          exact r4
      · intro H4 ⟨x4, acc, l4, _, r4⟩
        refine q2 D H4 (x02.trans (x23.trans x4)) (noneH D ?_) ⟨acc, l4, r4⟩
        cases hh : H2 D with
        | none => rfl
        | some u => exact absurd (x23 D u hh) (by rw [hD]; exact fun z => nomatch z)
end
end My

namespace My
open PySem PySem.Spec PyProof.Rows L2
/-! ### names of the law -/
def stems : List Str := ["m", "c", "zz", "abcdefgh", "k", "ba", "x", "again", "d", "below", "a", "line", "y"]
theorem stems_ok : ∀ z, z ∈ stems → nameB z = true ∧ PyData.strOk z = true ∧ z.length ≤ 8 := by decide +kernel
theorem stems_nd : stems.Nodup := by decide +kernel
theorem seqIx {r n : Nat} (h : r < n) : PySem.seqIndex? (r : Int) n = some r := by
  unfold PySem.seqIndex?
  simp
  omega
theorem era_map {α β : Type} (f : α → β) : ∀ (xs : List α) (i : Nat), (xs.map f).eraseIdx i = (xs.eraseIdx i).map f
  | [], _ => rfl
  | _ :: _, 0 => rfl
  | x :: xs, i + 1 => congrArg (f x :: ·) (era_map f xs i)
theorem era_perm {α : Type} : ∀ (xs : List α) (i : Nat) (h : i < xs.length), (xs[i] :: xs.eraseIdx i).Perm xs
  | _ :: _, 0, _ => .refl _
  | x :: xs, i + 1, h => (List.Perm.swap x (xs[i]'(Nat.lt_of_succ_lt_succ h)) (xs.eraseIdx i)).trans (.cons x (era_perm xs i (Nat.lt_of_succ_lt_succ h)))
/-- names of the law: unlike ones out of the stems -/
def Nst (zs : List Str) : Prop := zs.Nodup ∧ ∀ z, z ∈ zs → z ∈ stems
theorem Nst.ok {zs : List Str} (h : Nst zs) : Nok zs := ⟨h.1, fun z hz => ⟨(stems_ok z (h.2 z hz)).1, (stems_ok z (h.2 z hz)).2.1, Nat.le_trans (stems_ok z (h.2 z hz)).2.2 (by rw [sizeLine_eq]; decide)⟩⟩
def spNames (K : PySem.W.Frag) : Sp := fun vs H Q _ => ∃ (p : Addr) (m : Nat) (n : Int), vs = [.ref p, .int (m : Int)] ∧ m ≤ 12 ∧ Pool H p n ∧ n < 1000000 ∧
  ∀ l zs H', But H H' p → Pool H' p (n + m) → H l = none → H' l = some (.lst (zs.map V.str)) → zs.length = m → Nst zs → Q (.ref l) H'
abbrev nm__law_names : List Str := ["_law_pool_here", "_law_many", "_law_stems", "_law_found", "_law_k"]
theorem sc__law_names : FnScope nm__law_names ["_law_pool_here", "_law_many"] (defScope s__law_names) := ⟨rfl, rfl, rfl, by decide +kernel, rfl, by decide +kernel, by decide +kernel⟩
section
variable {P : Program} {w : World} {K : PySem.W.Frag} {mg : Str → Option Value} {base : Heap} {f C CB : Addr} {fd : FuncData}
theorem ok_names (Fn : FnP K "_law_names" s__law_names f fd) (h_law_take : Has P w K mg base 1 "_law_take" ["_law_pool_here", "_law_many"] spTake) (gB_range : mg "range" = none) (gB_len : mg "len" = none) :
    FnOk P w K mg base CX0 2 f fd ["_law_pool_here", "_law_many"] (spNames K) := by
  refine Fn.ok sc__law_names (fun vs H Q E h => ?_) (fun cdv A outer s H vs Q E hr h => ⟨_, PSs.nox
    (pss_cons (ps_set (i := 2) sc__law_names.nd rfl (Or.inl rfl) (pe_lst (pa_cons pe_str (pa_cons pe_str (pa_cons pe_str (pa_cons pe_str (pa_cons pe_str (pa_cons pe_str (pa_cons pe_str (pa_cons pe_str (pa_cons pe_str (pa_cons pe_str (pa_cons pe_str (pa_cons pe_str (pa_cons pe_str pa_nil)))))))))))))))
      (pss_cons (ps_set (i := 3) sc__law_names.nd rfl (Or.inl rfl) (pe_lst pa_nil))
      (pss_cons (ps_for PassesOwn.never rfl (pi_range1 (by rfl) gB_range (pa_cons (pv 1) pa_nil)) (pg_name (i := 4) sc__law_names.nd rfl (Or.inl rfl))
      (pss_one (ps_expr (pe_bm PySem.F.plainAttrs_list PySem.F.slot_list_append PySem.F.type_list_append mt_append (pv 3) (pa_cons (pe_bm PySem.F.plainAttrs_list PySem.F.slot_list_pop PySem.F.type_list_pop mt_popAt (pv 2) (pa_cons (pe_has h_law_take (hr.mono (by decide)) (pa_cons (pv 0) (pa_cons (pe_callB call_len (by rfl) gB_len boot_len (pa_cons (pv 2) pa_nil)) pa_nil))) pa_nil)) pa_nil)))))
      (pss_one (ps_ret (pv 3)))))), ?_⟩)
  · obtain ⟨p, m, n, rfl, _⟩ := h
    rfl
  · obtain ⟨p, m, n, rfl, hm, hp, hn, q⟩ := h
    refine ⟨Nat.le_of_ble_eq_true rfl, fun s hs => ⟨Nat.le_of_ble_eq_true rfl, fun l hl => ?_⟩⟩
    obtain ⟨H0, hH0⟩ : ∃ H0, H0 = upd (upd H s (.lst [.str "m", .str "c", .str "zz", .str "abcdefgh", .str "k", .str "ba", .str "x", .str "again", .str "d", .str "below", .str "a", .str "line", .str "y"])) l (.lst []) := ⟨_, rfl⟩
    have x0 : Ext H H0 := by
      rw [hH0]
      exact (Ext.upd hs).trans (Ext.upd hl)
    have nsl : s ≠ l := fun e => by rw [← e, upd_same] at hl; cases hl
    have hl0 : H l = none := by
      rw [upd_ne (Ne.symm nsl)] at hl
      exact hl
    have nsp : s ≠ p := pool_ne hp hs
    have nlp : l ≠ p := pool_ne hp hl0
    rw [← hH0]
    have s0 : H0 s = some (.lst (stems.map V.str)) := by rw [hH0, upd_ne nsl, upd_same]; rfl
    have l0 : H0 l = some (.lst (([] : List Str).map V.str)) := by rw [hH0, upd_same]; rfl
    refine ⟨_, rfl, (m : Int), rfl, Int.le_trans (by decide) (Int.natCast_nonneg m), Int.lt_of_le_of_lt (Int.ofNat_le.mpr hm) (by decide), for_range (lo := 0) (n := m) (fun k σ H' => ∃ (v : Option V) (rem fnd : List Str), σ = [some (.ref p), some (.int (m : Int)), some (.ref s), some (.ref l), v] ∧ But H H' p ∧ Pool H' p (n + k) ∧ H' s = some (.lst (rem.map V.str)) ∧ H' l = some (.lst (fnd.map V.str)) ∧ (fnd ++ rem).Perm stems ∧ fnd.length = k) ?_ ?_ ?_⟩
    · exact ⟨none, stems, [], rfl, ext_but x0, by rw [show n + ((0 : Nat) : Int) = n by omega]; exact pool_ext hp x0, s0, l0, .refl _, rfl⟩
    · rintro k σ H1 hk ⟨v, rem, fnd, rfl, b1, p1, s1, l1, pm, len⟩
      have lenrem : rem.length = 13 - k := by
        have z := pm.length_eq
        rw [List.length_append, len] at z
        have : stems.length = 13 := by decide +kernel
        omega
      refine ⟨_, rfl, .inl ⟨rfl, _, .inl (.inl l1)⟩, ?_⟩
      refine ⟨_, rfl, .inl ⟨rfl, _, .inl (.inl s1)⟩, ?_⟩
      refine ⟨_, rfl, _, rfl, _, _, rfl, .inl ⟨_, SqL.of s1, rfl⟩, ?_⟩
      refine ⟨p, _, _, rfl, ?_, ?_, p1, by omega, fun r o r0 r1 gp => ?_⟩
      · rw [List.length_map]; omega
      · rw [List.length_map]; omega
      obtain ⟨r, rfl⟩ := Int.eq_ofNat_of_zero_le r0
      rw [List.length_map] at r1
      have r1' : r < rem.length := by omega
      obtain ⟨H2, hH2⟩ : ∃ H2, H2 = upd H1 p o := ⟨_, rfl⟩
      rw [← hH2] at gp ⊢
      have s2 : H2 s = some (.lst (rem.map V.str)) := by rw [hH2, upd_ne nsp]; exact s1
      have l2 : H2 l = some (.lst (fnd.map V.str)) := by rw [hH2, upd_ne nlp]; exact l1
      refine ⟨s, _, (r : Int), r, .str rem[r], rfl, rfl, s2, Int.le_trans (by decide) (Int.natCast_nonneg r), by omega, seqIx (by rw [List.length_map]; exact r1'), by rw [List.getElem?_map, List.getElem?_eq_getElem r1']; rfl, ?_⟩
      have l3 : (upd H2 s (.lst ((rem.map V.str).eraseIdx r))) l = some (.lst (fnd.map V.str)) := by rw [upd_ne (Ne.symm nsl)]; exact l2
      refine ⟨l, _, _, rfl, rfl, l3, by rw [List.length_map, len, sizeLine_eq]; omega, ?_⟩
      have keep : ∀ b u, b ≠ p → b ≠ s → b ≠ l → H1 b = some u → (upd (upd H2 s (.lst ((rem.map V.str).eraseIdx r))) l (.lst (fnd.map V.str ++ [.str rem[r]]))) b = some u := fun b u h1 h2 h3 e => by
        rw [upd_ne h3, upd_ne h2, hH2, upd_ne h1]
        exact e
      have h0 : ∀ b u, H b = some u → b ≠ s ∧ b ≠ l := fun b u e => ⟨ne_of_none e hs, ne_of_none e hl0⟩
      refine ⟨_, rem.eraseIdx r, fnd ++ [rem[r]], rfl, ?_, ?_, ?_, ?_, ?_, ?_⟩
      · intro b u hb e
        exact keep b u hb (h0 b u e).1 (h0 b u e).2 (b1 b u hb e)
      · have e : (n + (k : Int) + 1) = n + ((k + 1 : Nat) : Int) := by omega
        rw [← e]
        exact pool_at gp (by rw [upd_ne (Ne.symm nlp), upd_ne (Ne.symm nsp)])
      · rw [upd_ne nsl, upd_same, era_map]
      · rw [upd_same, List.map_append]
        rfl
      · refine List.Perm.trans ?_ pm
        rw [List.append_assoc]
        refine List.Perm.append_left fnd ?_
        exact era_perm rem r r1'
      · rw [List.length_append, len]
        rfl
    · rintro σ H1 ⟨v, rem, fnd, rfl, b1, p1, s1, l1, pm, len⟩
      refine ⟨_, rfl, q l fnd H1 b1 p1 hl0 l1 len ?_⟩
      have nd := pm.nodup_iff.mpr stems_nd
      exact ⟨(List.nodup_append.mp nd).1, fun z hz => pm.mem_iff.mp (List.mem_append_left _ hz)⟩
end
end My

namespace My
open PySem PySem.Spec PyProof.Rows L2
/-- list(a) of a list or a tuple -/
def rLstS (K : PySem.W.Frag) : List V → Hp → VK → Prop := fun xs H Q => ∃ a zs, xs = [.ref a] ∧ SeqAt2 K H a zs ∧ ∀ l, H l = none → Q (.ref l) (L2.upd H l (.lst zs))
theorem call_lstS {X : Cx} : CallR X (.type "list") (rLstS X.K) := by
  intro pins s σ H xs us Q I rv h
  obtain ⟨a, zs, rfl, sq, q⟩ := h
  exact call_list_of pins s σ H _ us Q I rv ⟨a, zs, rfl, sq, q⟩
/-! ### dicts with text keys -/
abbrev Dic : Type := List (Str × V)
def kd (d : Dic) : List (Key × V) := d.map fun p => (Sum.inr p.1, p.2)
def getD (d : Dic) (z : Str) : Option V := (d.find? fun p => decide (p.1 = z)).map (·.2)
theorem val_kd (z : Str) : ∀ d : Dic, valV (kd d) (Sum.inr z) = getD d z
  | [] => rfl
  | (y, v) :: d => by
    have ih := val_kd z d
    unfold valV getD kd at *
    rw [List.map_cons, List.find?_cons, List.find?_cons]
    by_cases e : y = z
    · subst e
      simp
    · have e2 : ¬ ((Sum.inr y : Key) = Sum.inr z) := fun h => e (by injection h)
      simp only [e, e2, decide_false]
      exact ih
def setD (d : Dic) (z : Str) (v : V) : Dic := if (d.any fun p => decide (p.1 = z)) = true then d.map fun p => if p.1 = z then (p.1, v) else p else d ++ [(z, v)]
theorem any_kd (z : Str) (d : Dic) : ((kd d).any fun kv => decide (kv.1 = Sum.inr z)) = d.any fun p => decide (p.1 = z) := by
  unfold kd
  rw [List.any_map]
  congr 1
  funext p
  show decide ((Sum.inr p.1 : Key) = Sum.inr z) = decide (p.1 = z)
  by_cases e : p.1 = z
  · rw [decide_eq_true e, decide_eq_true (by rw [e])]
  · rw [decide_eq_false e, decide_eq_false fun h => e (by injection h)]
theorem put_kd (d : Dic) (z : Str) (v : V) : putK (kd d) (Sum.inr z) v = kd (setD d z v) := by
  unfold putK setD
  rw [any_kd]
  by_cases h : (d.any fun p => decide (p.1 = z)) = true
  · rw [if_pos h, if_pos h]
    unfold kd
    rw [List.map_map, List.map_map]
    refine List.map_congr_left fun p _ => ?_
    show (if (Sum.inr p.1 : Key) = Sum.inr z then ((Sum.inr p.1 : Key), v) else (Sum.inr p.1, p.2)) = _
    by_cases e : p.1 = z
    · rw [if_pos (by rw [e])]
      simp [e]
    · rw [if_neg fun h => e (by injection h)]
      simp [e]
  · rw [if_neg h, if_neg h]
    unfold kd
    rw [List.map_append]
    rfl
theorem setD_len (d : Dic) (z : Str) (v : V) : (setD d z v).length ≤ d.length + 1 := by
  unfold setD
  split
  · rw [List.length_map]
    exact Nat.le_succ _
  · rw [List.length_append]
    exact Nat.le_refl _
theorem setD_mem {d : Dic} {z : Str} {v : V} {p : Str × V} (h : p ∈ setD d z v) : p ∈ d ∨ p.2 = v := by
  unfold setD at h
  split at h
  · obtain ⟨q, hq, e⟩ := List.mem_map.mp h
    by_cases c : q.1 = z
    · rw [if_pos c] at e
      exact .inr (by rw [← e])
    · rw [if_neg c] at e
      exact .inl (e ▸ hq)
  · rcases List.mem_append.mp h with h | h
    · exact .inl h
    · rw [List.mem_singleton.mp h]
      exact .inr rfl
theorem getD_mem {d : Dic} {z : Str} {v : V} (h : getD d z = some v) : ∃ p, p ∈ d ∧ p.2 = v := by
  unfold getD at h
  cases e : d.find? fun p => decide (p.1 = z) with
  | none => rw [e] at h; cases h
  | some p =>
    rw [e] at h
    injection h with h
    exact ⟨p, List.mem_of_find?_eq_some e, h⟩
/-- the worths: None or folders -/
def DicOk (fo : List Str) (d : Dic) : Prop := ∀ p, p ∈ d → p.2 = .non ∨ ∃ z, z ∈ fo ∧ p.2 = .str z
def Opt (fo : List Str) (v : V) : Prop := v = .non ∨ ∃ z, z ∈ fo ∧ v = .str z
theorem getD_opt {fo : List Str} {d : Dic} (h : DicOk fo d) (z : Str) : Opt fo ((getD d z).getD .non) := by
  cases e : getD d z with
  | none => exact .inl rfl
  | some v =>
    obtain ⟨p, hp, e2⟩ := getD_mem e
    rw [← e2]
    exact h p hp
def stepV (d : Dic) : V → V
  | .str z => (getD d z).getD .non
  | v => v
theorem step_opt {fo : List Str} {d : Dic} (h : DicOk fo d) {v : V} (hv : Opt fo v) : Opt fo (stepV d v) := by
  rcases hv with rfl | ⟨z, _, rfl⟩
  · exact .inl rfl
  · exact getD_opt h z
def liesN (d : Dic) (f : Str) : Nat → V → Bool
  | 0, _ => false
  | n + 1, h => decide (h = .str f) || liesN d f n (stepV d h)
def liesB (d : Dic) (a f : Str) : Bool := liesN d f 9 ((getD d a).getD .non)
theorem lies_no {fo : List Str} {d : Dic} {f : Str} (h : DicOk fo d) (hf : f ∉ fo) : ∀ n v, Opt fo v → liesN d f n v = false
  | 0, _, _ => rfl
  | n + 1, v, hv => by
    unfold liesN
    rw [lies_no h hf n _ (step_opt h hv), Bool.or_false]
    refine decide_eq_false fun e => ?_
    rcases hv with rfl | ⟨z, hz, rfl⟩
    · cases e
    · injection e with e
      exact hf (e ▸ hz)
def holdsB (d : Dic) (w a b : Str) : Bool := if w = "below" then liesB d a b else if w = "not" then !liesB d a b else liesB d a b || liesB d b a
def holdsR (d : Dic) : List Str → Bool
  | [w, a, b] => holdsB d w a b
  | _ => true
def spLies (K : PySem.W.Frag) : Sp := fun vs H Q _ => ∃ (p : Addr) (d : Dic) (fo : List Str) (a f : Str), vs = [.ref p, .str a, .str f] ∧ H p = some (.dK (kd d)) ∧ DicOk fo d ∧ Q (.bl (liesB d a f)) H
def spHolds (K : PySem.W.Frag) : Sp := fun vs H Q _ => ∃ (p t : Addr) (d : Dic) (fo : List Str) (wd a f : Str), vs = [.ref p, .ref t] ∧ H p = some (.dK (kd d)) ∧ DicOk fo d ∧ SqT K H t [.str wd, .str a, .str f] ∧ Q (.bl (holdsB d wd a f)) H
abbrev nm__law_lies : List Str := ["_law_over", "_law_node", "_law_folder", "_law_here", "_law_turn"]
theorem sc__law_lies : FnScope nm__law_lies ["_law_over", "_law_node", "_law_folder"] (defScope s__law_lies) := ⟨rfl, rfl, rfl, by decide +kernel, rfl, by decide +kernel, by decide +kernel⟩
abbrev nm__law_holds : List Str := ["_law_over", "_law_fact", "_law_word", "_law_one", "_law_other"]
theorem sc__law_holds : FnScope nm__law_holds ["_law_over", "_law_fact"] (defScope s__law_holds) := ⟨rfl, rfl, rfl, by decide +kernel, rfl, by decide +kernel, by decide +kernel⟩
section
variable {P : Program} {w : World} {K : PySem.W.Frag} {mg : Str → Option Value} {base : Heap} {f C CB : Addr} {fd : FuncData}
theorem ok_lies (Fn : FnP K "_law_lies" s__law_lies f fd) (gB_range : mg "range" = none) : FnOk P w K mg base CX0 1 f fd ["_law_over", "_law_node", "_law_folder"] (spLies K) := by
  refine Fn.ok sc__law_lies (fun vs H Q E h => ?_) (fun cdv A outer s H vs Q E hr h => ⟨_, PSs.nox
    (pss_cons (ps_set (i := 3) sc__law_lies.nd rfl (Or.inl rfl) (pe_dget1 (hu_of hr) (pv 0) (pv 1) ⟨rfl, rfl, rfl, rfl⟩))
      (pss_cons (ps_for PassesOwn.never rfl (pi_range1 (by rfl) gB_range (pa_cons pe_int pa_nil)) (pg_name (i := 4) sc__law_lies.nd rfl (Or.inl rfl))
      (pss_cons (ps_if (pt_cmpR op_eq (pv 3) (pv 2) (nomark _)) (pss_one (ps_ret pe_bl)) pss_nil)
      (pss_one (ps_if (pt_cmpR op_notN (pv 3) pe_non (nomark _)) (pss_one (ps_set (i := 3) sc__law_lies.nd rfl (Or.inl rfl) (pe_dget1 (hu_of hr) (pv 0) (pv 3) ⟨rfl, rfl, rfl, rfl⟩))) pss_nil))))
      (pss_one (ps_ret pe_bl)))), ?_⟩)
  · obtain ⟨p, d, fo, a, f, rfl, _⟩ := h
    rfl
  · obtain ⟨p, d, fo, a, fs, rfl, hp, ok, q⟩ := h
    refine ⟨_, rfl, p, rfl, .inl ⟨_, .inl hp⟩, _, rfl, _, DGet.k (k := Sum.inr a) hp, ?_⟩
    rw [val_kd]
    refine ⟨_, rfl, by decide, by decide, for_range (lo := 0) (n := 9) (fun k σ H' => H' = H ∧ ∃ v h, σ = [some (.ref p), some (.str a), some (.str fs), some h, v] ∧ Opt fo h ∧ liesN d fs (9 - k) h = liesB d a fs) ?_ ?_ ?_⟩
    · exact ⟨rfl, none, _, rfl, getD_opt ok a, rfl⟩
    · rintro k σ H1 hk ⟨rfl, v, h, rfl, oh, e⟩
      have e9 : 9 - k = (9 - (k + 1)) + 1 := by omega
      rw [e9] at e
      unfold liesN at e
      refine ⟨_, rfl, _, rfl, ?_, _, rfl, ?_⟩
      · rcases oh with rfl | ⟨z, _, rfl⟩ <;> rfl
      refine ite2 (fun c => ?_) fun c => ?_
      · rw [c, Bool.true_or] at e
        rw [← e] at q
        exact q
      · have c' : decide (h = .str fs) = false := by simpa using c
        rw [c', Bool.false_or] at e
        refine ⟨_, rfl, rfl, _, rfl, ?_⟩
        rcases oh with rfl | ⟨z, hz, rfl⟩
        · exact ⟨rfl, _, _, rfl, .inl rfl, e⟩
        · refine ⟨_, rfl, p, rfl, .inl ⟨_, .inl hp⟩, _, rfl, _, DGet.k (k := Sum.inr z) hp, ?_⟩
          rw [val_kd]
          exact ⟨rfl, _, _, rfl, getD_opt ok z, e⟩
    · rintro σ H1 ⟨rfl, v, h, rfl, oh, e⟩
      rw [← e] at q
      exact q
theorem ok_holds (Fn : FnP K "_law_holds" s__law_holds f fd) (h_law_lies : Has P w K mg base 1 "_law_lies" ["_law_over", "_law_node", "_law_folder"] (spLies K)) : FnOk P w K mg base CX0 2 f fd ["_law_over", "_law_fact"] (spHolds K) := by
  refine Fn.ok sc__law_holds (fun vs H Q E h => ?_) (fun cdv A outer s H vs Q E hr h => ⟨_, PSs.nox
    (pss_cons (ps_asg (pv 1) (pg_tup rfl (pgs_cons (pg_name (i := 2) sc__law_holds.nd rfl (Or.inl rfl)) (pgs_cons (pg_name (i := 3) sc__law_holds.nd rfl (Or.inl rfl)) (pgs_cons (pg_name (i := 4) sc__law_holds.nd rfl (Or.inl rfl)) pgs_nil)))))
      (pss_cons (ps_if (pt_cmpR op_eq (pv 2) pe_str (nomark _)) (pss_one (ps_ret (pe_has h_law_lies (hr.mono (by decide)) (pa_cons (pv 0) (pa_cons (pv 3) (pa_cons (pv 4) pa_nil)))))) pss_nil)
      (pss_cons (ps_if (pt_cmpR op_eq (pv 2) pe_str (nomark _)) (pss_one (ps_ret (pe_not (pe_has h_law_lies (hr.mono (by decide)) (pa_cons (pv 0) (pa_cons (pv 3) (pa_cons (pv 4) pa_nil))))))) pss_nil)
      (pss_one (ps_ret (pe_or (pe_has h_law_lies (hr.mono (by decide)) (pa_cons (pv 0) (pa_cons (pv 3) (pa_cons (pv 4) pa_nil)))) (pe_one (pe_has h_law_lies (hr.mono (by decide)) (pa_cons (pv 0) (pa_cons (pv 4) (pa_cons (pv 3) pa_nil))))))))))), ?_⟩)
  · obtain ⟨p, t, d, fo, wd, a, f, rfl, _⟩ := h
    rfl
  · obtain ⟨p, t, d, fo, wd, a, fs, rfl, hp, ok, sq, q⟩ := h
    refine ⟨_, rfl, t, _, rfl, sq, rfl, _, _, rfl, _, _, rfl, _, _, rfl, rfl, ?_⟩
    unfold holdsB at q
    refine ⟨_, rfl, rfl, _, rfl, ?_⟩
    refine ite2 (fun e => ?_) fun e => ?_
    · have e' : wd = "below" := by
        have z := of_decide_eq_true e
        injection z
      rw [if_pos e'] at q
      exact ⟨_, rfl, _, rfl, _, rfl, p, d, fo, _, _, rfl, hp, ok, q⟩
    have e' : wd ≠ "below" := fun z => e (decide_eq_true (by rw [z]))
    refine ⟨_, rfl, rfl, _, rfl, ?_⟩
    refine ite2 (fun e2 => ?_) fun e2 => ?_
    · have e2' : wd = "not" := by
        have z := of_decide_eq_true e2
        injection z
      rw [if_neg e', if_pos e2'] at q
      exact ⟨_, rfl, _, rfl, _, rfl, p, d, fo, _, _, rfl, hp, ok, _, rfl, q⟩
    have e2' : wd ≠ "not" := fun z => e2 (decide_eq_true (by rw [z]))
    rw [if_neg e', if_neg e2'] at q
    refine ⟨_, rfl, _, rfl, _, rfl, p, d, fo, _, _, rfl, hp, ok, _, rfl, ?_⟩
    refine ite2 (fun c => ?_) fun c => ?_
    · rw [c, Bool.true_or] at q
      exact q
    · have c' : liesB d a fs = false := by simpa using c
      rw [c', Bool.false_or] at q
      exact ⟨_, rfl, _, rfl, _, rfl, p, d, fo, _, _, rfl, hp, ok, q⟩
end
end My

namespace My
open PySem PySem.Spec PyProof.Rows L2
/-! ### rows as data -/
def rowsD (rs : List (List Str)) : PyData := .list (rs.map fun r => .tuple (r.map PyData.str))
def OkR (rs : List (List Str)) : Prop := ∀ r, r ∈ rs → OkS r
theorem rows_dp {K : PySem.W.Frag} {H : Hp} : ∀ {xs : List V} {rs : List (List Str)}, Rows K H xs rs → DpAll K H xs (rs.map fun r => PyData.tuple (r.map PyData.str))
  | [], [], _ => .nil
  | _ :: _, r :: _, ⟨⟨t, e, h⟩, hr⟩ => by
    subst e
    exact .cons (.tup h (dpAll_str r)) (rows_dp hr)
  | [], _ :: _, h => h.elim
  | _ :: _, [], h => h.elim
theorem rows_shaped {rs : List (List Str)} (h : OkR rs) : SeqAt.shaped (rowsD rs) = true := shaped_ds _ fun d hd => by
  obtain ⟨r, hr, rfl⟩ := List.mem_map.mp hd
  exact flat_tup r (h r hr)
theorem eqvAll_rows : ∀ rs ss : List (List Str), PyData.eqvAll (rs.map fun r => PyData.tuple (r.map PyData.str)) (ss.map fun r => PyData.tuple (r.map PyData.str)) = decide (rs = ss)
  | [], [] => rfl
  | [], _ :: _ => rfl
  | _ :: _, [] => rfl
  | r :: rs, s :: ss => by
    show (PyData.eqv (.tuple (r.map PyData.str)) (.tuple (s.map PyData.str)) && PyData.eqvAll (rs.map fun r => PyData.tuple (r.map PyData.str)) (ss.map fun r => PyData.tuple (r.map PyData.str))) = _
    rw [eqvAll_rows rs ss, eqv_strT]
    by_cases h : r = s
    · subst h
      simp
    · simp [h]
theorem eqv_rows (rs ss : List (List Str)) : PyData.eqv (rowsD rs) (rowsD ss) = decide (rs = ss) := eqvAll_rows rs ss
def Three (rs : List (List Str)) : Prop := ∀ r, r ∈ rs → ∃ w a b, r = [w, a, b]
theorem filter_all {α : Type} (p : α → Bool) : ∀ xs : List α, decide (xs.filter (fun x => !p x) = ([] : List α)) = xs.all p
  | [] => rfl
  | x :: xs => by
    have ih := filter_all p xs
    rw [List.filter_cons, List.all_cons]
    cases h : p x with
    | true => simpa using ih
    | false => simp
def spKeeps (K : PySem.W.Frag) : Sp := fun vs H Q _ => ∃ (p l : Addr) (d : Dic) (fo : List Str) (rows : List (List Str)), vs = [.ref p, .ref l] ∧ H p = some (.dK (kd d)) ∧ DicOk fo d ∧ RowsAt K H l rows ∧ Three rows ∧ OkR rows ∧ rows.length < 1000 ∧
  ∀ H', Ext H H' → Q (.bl (rows.all (holdsR d))) H'
abbrev nm__law_keeps : List Str := ["_law_over", "_law_told", "_law_fact"]
theorem sc__law_keeps : FnScope nm__law_keeps ["_law_over", "_law_told"] (defScope s__law_keeps) := ⟨rfl, rfl, rfl, by decide +kernel, rfl, by decide +kernel, by decide +kernel⟩
abbrev nm__law_plan : List Str := ["_law_pool_here", "_law_folders", "_law_things", "_law_names_here", "_law_many"]
theorem sc__law_plan : FnScope nm__law_plan ["_law_pool_here", "_law_folders", "_law_things"] (defScope s__law_plan) := ⟨rfl, rfl, rfl, by decide +kernel, rfl, by decide +kernel, by decide +kernel⟩
abbrev nm__law_house : List Str := ["_law_parts"]
theorem sc__law_house : FnScope nm__law_house ["_law_parts"] (defScope s__law_house) := ⟨rfl, rfl, rfl, by decide +kernel, rfl, by decide +kernel, by decide +kernel⟩
/-- a pair of lists of names -/
def PartsAt (K : PySem.W.Frag) (H : Hp) (t : Addr) (fo th : List Str) : Prop := ∃ lf lt, SqT K H t [.ref lf, .ref lt] ∧ H lf = some (.lst (fo.map V.str)) ∧ H lt = some (.lst (th.map V.str))
theorem PartsAt.ext {K : PySem.W.Frag} {H H' : Hp} {t : Addr} {fo th : List Str} (h : PartsAt K H t fo th) (e : Ext H H') : PartsAt K H' t fo th := by
  obtain ⟨lf, lt, h1, h2, h3⟩ := h
  exact ⟨lf, lt, h1.ext e, e _ _ h2, e _ _ h3⟩
def spPlan (K : PySem.W.Frag) : Sp := fun vs H Q _ => ∃ (p : Addr) (n : Int), vs = [.ref p, .int 3, .int 2] ∧ Pool H p n ∧ n < 900000 ∧
  ∀ t lf lt fo th H', But H H' p → Pool H' p (n + 20) → SqT K H' t [.ref lf, .ref lt] → H' lf = some (.lst (fo.map V.str)) → H' lt = some (.lst (th.map V.str)) → lf ≠ p → lt ≠ p → Nst (fo ++ th) → 1 ≤ fo.length → fo.length ≤ 3 → th.length ≤ 2 → Q (.ref t) H'
def spLawHouse (K : PySem.W.Frag) (C : Addr) : Sp := fun vs H Q _ => ∃ t fo th, vs = [.ref t] ∧ PartsAt K H t fo th ∧ Nok (fo ++ th) ∧ fo ≠ [] ∧ (fo ++ th).length ≤ 100 ∧ ∀ h H', Ext H H' → Hou H' K C h fo th → Q (.ref h) H'
section
variable {P : Program} {w : World} {K : PySem.W.Frag} {mg : Str → Option Value} {base : Heap} {f C CB : Addr} {fd : FuncData}
theorem ok_keeps (Fn : FnP K "_law_keeps" s__law_keeps f fd) (h_law_holds : Has P w K mg base 2 "_law_holds" ["_law_over", "_law_fact"] (spHolds K)) : FnOk P w K mg base CX0 3 f fd ["_law_over", "_law_told"] (spKeeps K) := by
  refine Fn.ok sc__law_keeps (fun vs H Q E h => ?_) (fun cdv A outer s H vs Q E hr h => ⟨_, PSs.nox
    (pss_one (ps_ret (pe_cmpR (op_eqD hr.units) (pe_lc (own := [("_law_fact", 2)]) (g := (gName 2)) rfl sc__law_keeps.nd (pi_list (pv 1)) (blkOk_by (N := nm__law_keeps) (sc := defScope s__law_keeps) (by decide +kernel)) (fun _ _ _ _ _ => (pg_name (i := 2) sc__law_keeps.nd rfl (Or.inl rfl))) (fun _ _ _ _ _ => pts_one (pt_not (pt_val (pe_has h_law_holds (hr.mono (by decide)) (pa_cons (pv 0) (pa_cons (pv 2) pa_nil)))))) (fun _ _ _ _ _ => (pv 2))) (pe_lst pa_nil) (nomark _)))), ?_⟩)
  · obtain ⟨p, l, d, fo, rows, rfl, _⟩ := h
    rfl
  · obtain ⟨p, l, d, fo, rows, rfl, hp, ok, ⟨xs, hl, hr0⟩, th3, okr, len, q⟩ := h
    have lx : xs.length = rows.length := hr0.len
    refine ⟨_, rfl, l, rfl, ⟨_, SqL.of hl⟩, fun D hD => ?_⟩
    refine lc_list (K := K) (a := l) (xs := xs) (fun i H' => Ext H H' ∧ ∃ acc, H' D = some (.lst acc) ∧ acc.length ≤ i ∧ Rows K H' acc ((rows.take i).filter fun r => !holdsR d r)) ⟨Ext.upd hD, [], upd_same, Nat.zero_le _, True.intro⟩ (fun i H' _ z => SqL.of (z.1 _ _ hl)) ?_ ?_
    · intro i v H1 hv ⟨x1, acc, l1, len1, r1⟩
      obtain ⟨t, r, rfl, sq, hr⟩ := (hr0.ext x1).at_ hv
      obtain ⟨wd, a, b, rfl⟩ := th3 r (List.mem_of_getElem? hr)
      have tk : rows.take (i + 1) = rows.take i ++ [[wd, a, b]] := by
        rw [List.take_add_one, hr]
        rfl
      rw [tk]
      have i1 : i < xs.length := (List.getElem?_eq_some_iff.mp hv).1
      refine ⟨rfl, _, rfl, _, rfl, p, t, d, fo, wd, a, b, rfl, x1 _ _ hp, ok, sq, _, rfl, ?_⟩
      rw [List.filter_append]
      refine ite2 (fun c => ?_) fun c => ?_
      · refine ⟨_, rfl, acc, l1, by rw [sizeLine_eq]; omega, x1.over hD, _, upd_same, by rw [List.length_append]; exact Nat.succ_le_succ len1, ?_⟩
        rw [List.filter_cons, if_pos (show (!holdsR d [wd, a, b]) = true from c)]
        exact Rows.app (Rows.upd l1 r1) ⟨⟨t, rfl, sqT_upd sq l1⟩, True.intro⟩
      · refine ⟨x1, acc, l1, Nat.le_succ_of_le len1, ?_⟩
        rw [List.filter_cons, if_neg (show ¬ (!holdsR d [wd, a, b]) = true from c), List.filter_nil, List.append_nil]
        exact r1
    · intro H1 ⟨x1, acc, l1, len1, r1⟩
      rw [lx, List.take_length] at r1
      refine ⟨Nat.zero_le _, fun z hz => ?_⟩
      have okf : OkR (rows.filter fun r => !holdsR d r) := fun r hr => okr r (List.mem_filter.mp hr).1
      refine ⟨rowsD (rows.filter fun r => !holdsR d r), rowsD [], .lst (SqL.of (Ext.upd hz _ _ l1)) (rows_dp (r1.ext (Ext.upd hz))), .lst (SqL.of upd_same) .nil, rows_shaped okf, rfl, ?_⟩
      rw [eqv_rows, filter_all]
      exact q _ (x1.upd' hz)
theorem ok_lawHouse (Fn : FnP K "_law_house" s__law_house f fd) (Z : HouseTxt P w K mg C CB) (gB_tuple : mg "tuple" = none) (gB_list : mg "list" = none) : FnOk P w K mg base CX0 6 f fd ["_law_parts"] (spLawHouse K C) := by
  refine Fn.ok sc__law_house (fun vs H Q E h => ?_) (fun cdv A outer s H vs Q E hr h => ⟨_, PSs.nox
    (pss_one (ps_ret (pe_make Z.M (Z.I _) (hr.mono (by decide)) (by rfl) Z.gH Z.bI .nil passL (pa_cons (pe_callTy call_tup (by rfl) gB_tuple (by decide +kernel) (pa_cons (pe_ix ix_tup (pv 0) pe_int (fun _ _ => rfl)) pa_nil)) (pa_cons (pe_callTy call_lstS (by rfl) gB_list (by decide +kernel) (pa_cons (pe_ix ix_tup (pv 0) pe_int (fun _ _ => rfl)) pa_nil)) pa_nil))))), ?_⟩)
  · obtain ⟨t, fo, th, rfl, _⟩ := h
    rfl
  · obtain ⟨t, fo, th, rfl, ⟨lf, lt, sq, hf, ht⟩, nok, ne, len, q⟩ := h
    refine ⟨_, rfl, t, _, _, _, rfl, rfl, sq, rfl, lf, _, rfl, .inl (SqL.of hf), fun a H1 x1 sa => ?_⟩
    refine ⟨_, rfl, t, _, _, _, rfl, rfl, sq.ext x1, rfl, lt, _, rfl, .inl (SqL.of (x1 _ _ ht)), fun b hb => ?_⟩
    intro x dx hx hdx nx
    refine mk_at (a := a) (b := b) (fo := fo) (th := th) (.inr (sa.ext (Ext.upd hb))) (.inl (SqL.of upd_same)) nok ne (by rw [sizeLine_eq]; omega) hx hdx nx fun H' x' hou => ?_
    exact q x H' (x1.trans ((Ext.upd hb).trans x')) hou
theorem ok_plan (Fn : FnP K "_law_plan" s__law_plan f fd) (h_law_take : Has P w K mg base 1 "_law_take" ["_law_pool_here", "_law_many"] spTake) (h_law_names : Has P w K mg base 2 "_law_names" ["_law_pool_here", "_law_many"] (spNames K)) (gB_len : mg "len" = none) (gB_min : mg "min" = none) : FnOk P w K mg base CX0 3 f fd ["_law_pool_here", "_law_folders", "_law_things"] (spPlan K) := by
  refine Fn.ok sc__law_plan (fun vs H Q E h => ?_) (fun cdv A outer s H vs Q E hr h => ⟨_, PSs.nox
    (pss_cons (ps_set (i := 3) sc__law_plan.nd rfl (Or.inl rfl) (pe_has h_law_names (hr.mono (by decide)) (pa_cons (pv 0) (pa_cons (pe_op op_add (pe_op op_add pe_int (pe_has h_law_take (hr.mono (by decide)) (pa_cons (pv 0) (pa_cons (pv 1) pa_nil)))) (pe_has h_law_take (hr.mono (by decide)) (pa_cons (pv 0) (pa_cons (pe_op op_add (pv 2) pe_int) pa_nil)))) pa_nil))))
      (pss_cons (ps_set (i := 4) sc__law_plan.nd rfl (Or.inl rfl) (pe_op op_add pe_int (pe_has h_law_take (hr.mono (by decide)) (pa_cons (pv 0) (pa_cons (pe_callB (call_min2 rfl) (by rfl) gB_min boot_min (pa_cons (pv 1) (pa_cons (pe_callB call_len (by rfl) gB_len boot_len (pa_cons (pv 3) pa_nil)) pa_nil))) pa_nil)))))
      (C8.pss_cut (ps_if (pt_cmpR op_gt (pe_op op_sub (pe_callB call_len (by rfl) gB_len boot_len (pa_cons (pv 3) pa_nil)) (pv 4)) (pv 2) (nomark _)) (pss_one (ps_set (i := 4) sc__law_plan.nd rfl (Or.inl rfl) (pe_op op_sub (pe_callB call_len (by rfl) gB_len boot_len (pa_cons (pv 3) pa_nil)) (pv 2)))) pss_nil)
      (pss_one (ps_ret (pe_tup (pa_cons (pe_slice sl_list (pv 3) po_none (po_some (pv 4))) (pa_cons (pe_slice sl_list (pv 3) (po_some (pv 4)) po_none) pa_nil)))))))), ?_⟩)
  · obtain ⟨p, n, rfl, _⟩ := h
    rfl
  · obtain ⟨p, n, rfl, hp, hn, q⟩ := h
    refine ⟨_, rfl, _, rfl, _, rfl, p, 3, n, rfl, by decide, by decide, hp, by omega, fun r o r0 r1 gp => ?_⟩
    obtain ⟨H1, hH1⟩ : ∃ H1, H1 = L2.upd H p o := ⟨_, rfl⟩
    rw [← hH1] at gp
    rw [← hH1]
    have b1 : But H H1 p := by
      rw [hH1]
      exact But.upd (ext_but Ext.rfl')
    obtain ⟨r', rfl⟩ := Int.eq_ofNat_of_zero_le r0
    refine ⟨_, _, rfl, rfl, ?_⟩
    refine ⟨_, rfl, _, rfl, _, _, rfl, rfl, p, 3, _, rfl, by decide, by decide, gp, by omega, fun r2 o2 r20 r21 gp2 => ?_⟩
    obtain ⟨H2, hH2⟩ : ∃ H2, H2 = L2.upd H1 p o2 := ⟨_, rfl⟩
    rw [← hH2] at gp2
    rw [← hH2]
    have b2 : But H H2 p := b1.trans (by
      rw [hH2]
      exact But.upd (ext_but Ext.rfl'))
    obtain ⟨r2', rfl⟩ := Int.eq_ofNat_of_zero_le r20
    refine ⟨_, _, rfl, rfl, p, 1 + r' + r2', n + 1 + 1, rfl, by omega, gp2, by omega, fun l zs H3 b3 p3 ln3 l3 len3 nst3 => ?_⟩
    have lp : l ≠ p := pool_ne gp2 ln3
    have lm : (zs.map V.str).length = zs.length := List.length_map _
    refine ⟨_, rfl, _, rfl, _, rfl, _, _, rfl, .inl ⟨_, SqL.of l3, rfl⟩, _, _, rfl, ?_⟩
    obtain ⟨mi, hmi, hm1, hm3, hml⟩ : ∃ mi : Nat, (if (((zs.map V.str).length : Nat) : Int) < 3 then (((zs.map V.str).length : Nat) : Int) else 3) = (mi : Int) ∧ 1 ≤ mi ∧ mi ≤ 3 ∧ mi ≤ zs.length := by
      rw [lm]
      by_cases c : ((zs.length : Nat) : Int) < 3
      · rw [if_pos c]
        exact ⟨zs.length, rfl, by omega, by omega, Nat.le_refl _⟩
      · rw [if_neg c]
        exact ⟨3, rfl, by decide, by decide, by omega⟩
    rw [hmi]
    refine ⟨p, mi, _, rfl, by omega, by omega, p3, by omega, fun r4 o4 r40 r41 gp4 => ?_⟩
    obtain ⟨r4', rfl⟩ := Int.eq_ofNat_of_zero_le r40
    obtain ⟨H4, hH4⟩ : ∃ H4, H4 = L2.upd H3 p o4 := ⟨_, rfl⟩
    rw [← hH4] at gp4
    rw [← hH4]
    have b4 : But H H4 p := (b2.trans b3).trans (by
      rw [hH4]
      exact But.upd (ext_but Ext.rfl'))
    have l4 : H4 l = some (.lst (zs.map V.str)) := by rw [hH4, upd_ne lp]; exact l3
    refine ⟨_, _, rfl, rfl, ?_⟩
    refine ⟨fun σ' H' => H' = H4 ∧ ∃ mm : Nat, σ' = [some (.ref p), some (.int 3), some (.int 2), some (.ref l), some (.int (mm : Int))] ∧ 1 ≤ mm ∧ mm ≤ 3 ∧ mm ≤ zs.length ∧ zs.length - mm ≤ 2, ?_, ?_⟩
    · refine ⟨_, rfl, _, _, rfl, .inl ⟨_, SqL.of l4, rfl⟩, _, rfl, _, _, rfl, rfl, _, rfl, _, _, rfl, rfl, _, rfl, ?_⟩
      rw [lm]
      refine ite2 (fun c => ?_) fun c => ?_
      · have c' := of_decide_eq_true c
        refine ⟨_, rfl, _, _, rfl, .inl ⟨_, SqL.of l4, rfl⟩, _, rfl, _, _, rfl, rfl, rfl, zs.length - 2, ?_, by omega, by omega, by omega, by omega⟩
        have e : (zs.length : Int) - 2 = ((zs.length - 2 : Nat) : Int) := by omega
        rw [lm, ← e]
        rfl
      · have c' : ¬ _ := fun z => c (decide_eq_true z)
        exact ⟨rfl, 1 + r4', rfl, by omega, by omega, by omega, by omega⟩
    · rintro σ' H' ⟨rfl, mm, rfl, m1, m3, ml, mt⟩
      refine ⟨_, rfl, _, rfl, _, rfl, l, _, rfl, SqL.of l4, fun u1 hu1 => ?_⟩
      have y1 := Ext.upd (o := .lst (cutV (zs.map V.str) none (some (mm : Int)))) hu1
      refine ⟨_, rfl, _, rfl, _, rfl, l, _, rfl, SqL.of (y1 _ _ l4), fun u2 hu2 => ?_⟩
      have y2 := Ext.upd (o := .lst (cutV (zs.map V.str) (some (mm : Int)) none)) hu2
      refine ⟨Nat.le_of_ble_eq_true rfl, fun t ht => ?_⟩
      have y3 := Ext.upd (o := .tup [.ref u1, .ref u2]) ht
      have ee : zs.take mm ++ zs.drop mm = zs := List.take_append_drop _ _
      refine q t u1 u2 (zs.take mm) (zs.drop mm) _ (b4.ext (y1.trans (y2.trans y3))) (pool_mono (pool_ext gp4 (y1.trans (y2.trans y3))) (by omega)) (SqT.of upd_same) ?_ ?_ (pool_ne gp4 hu1) (pool_ne (pool_ext gp4 y1) hu2) (by rw [ee]; exact nst3) ?_ ?_ ?_
      · rw [List.map_take, ← cutV_take (by rw [lm]; exact ml)]
        exact y3 _ _ (y2 _ _ upd_same)
      · rw [List.map_drop, ← cutV_drop (by rw [lm]; exact ml)]
        exact y3 _ _ upd_same
      · rw [List.length_take]; omega
      · rw [List.length_take]; omega
      · rw [List.length_drop]; exact mt
end
end My

namespace My
open PySem PySem.Spec PyProof.Rows L2
/-- all things of a list are trees -/
def TreesX (fo : List Str) (n : Nat) (H : Hp) (xs : List V) : Prop := ∀ x, x ∈ xs → ∃ a d, x = .ref a ∧ H a = some (.dK (kd d)) ∧ DicOk fo d ∧ d.length ≤ n
theorem TreesX.ext {fo : List Str} {n : Nat} {H H' : Hp} {xs : List V} (h : TreesX fo n H xs) (e : Ext H H') : TreesX fo n H' xs := fun x hx => by
  obtain ⟨a, d, h1, h2, h3⟩ := h x hx
  exact ⟨a, d, h1, e _ _ h2, h3⟩
theorem TreesX.updL {fo : List Str} {n : Nat} {H : Hp} {l : Addr} {ys : List V} {o : HO} {xs : List V} (h : TreesX fo n H xs) (hl : H l = some (.lst ys)) : TreesX fo n (L2.upd H l o) xs := fun x hx => by
  obtain ⟨a, d, h1, h2, h3⟩ := h x hx
  exact ⟨a, d, h1, by rw [upd_ne (ne_of h2 hl (fun z => nomatch z))]; exact h2, h3⟩
theorem TreesX.snoc {fo : List Str} {n : Nat} {H : Hp} {xs : List V} {a : Addr} {d : Dic} (h : TreesX fo n H xs) (ha : H a = some (.dK (kd d))) (ok : DicOk fo d) (len : d.length ≤ n) : TreesX fo n H (xs ++ [.ref a]) := fun x hx => by
  rcases List.mem_append.mp hx with hx | hx
  · exact h x hx
  · rw [List.mem_singleton.mp hx]
    exact ⟨a, d, rfl, ha, ok, len⟩
theorem kd_len (d : Dic) : (kd d).length = d.length := List.length_map _
theorem ext_none {H H' : Hp} {p : Addr} (e : Ext H H') (h : H' p = none) : H p = none := by
  cases hh : H p with
  | none => rfl
  | some u => exact absurd (e p u hh) (by rw [h]; exact fun z => nomatch z)
def spTrees (K : PySem.W.Frag) : Sp := fun vs H Q _ => ∃ t fo th, vs = [.ref t] ∧ PartsAt K H t fo th ∧ fo.length ≤ 3 ∧ (fo ++ th).length ≤ 6 ∧ ∀ l xs n H', Ext H H' → H l = none → H' l = some (.lst xs) → TreesX fo n H' xs → Q (.ref l) H'
def FactR (fo th : List Str) (rs : List (List Str)) : Prop := ∀ r, r ∈ rs → ∃ w a b, r = [w, a, b] ∧ IsF fo th w a b
def spFacts (K : PySem.W.Frag) : Sp := fun vs H Q _ => ∃ t fo th, vs = [.ref t] ∧ PartsAt K H t fo th ∧ (fo ++ th).length ≤ 6 ∧ ∀ l rs H', Ext H H' → H l = none → rs.length ≤ 108 → RowsAt K H' l rs → FactR fo th rs → Q (.ref l) H'
theorem strs_at {zs : List Str} {i : Nat} {v : V} (h : (zs.map V.str)[i]? = some v) : ∃ z, zs[i]? = some z ∧ v = .str z := by
  rw [List.getElem?_map] at h
  cases e : zs[i]? with
  | none => rw [e] at h; cases h
  | some z =>
    rw [e] at h
    injection h with h
    exact ⟨z, rfl, h.symm⟩
abbrev nm__law_all_trees : List Str := ["_law_parts", "_law_nodes", "_law_found", "_law_node", "_law_longer", "_law_over", "_law_folder", "_law_more"]
theorem sc__law_all_trees : FnScope nm__law_all_trees ["_law_parts"] (defScope s__law_all_trees) := ⟨rfl, rfl, rfl, by decide +kernel, rfl, by decide +kernel, by decide +kernel⟩
abbrev nm__law_all_facts : List Str := ["_law_parts", "_law_nodes", "_law_found", "_law_one", "_law_other", "_law_word"]
theorem sc__law_all_facts : FnScope nm__law_all_facts ["_law_parts"] (defScope s__law_all_facts) := ⟨rfl, rfl, rfl, by decide +kernel, rfl, by decide +kernel, by decide +kernel⟩
section
variable {P : Program} {w : World} {K : PySem.W.Frag} {mg : Str → Option Value} {base : Heap} {f C CB : Addr} {fd : FuncData}
theorem ok_trees (Fn : FnP K "_law_all_trees" s__law_all_trees f fd) (h_law_lies : Has P w K mg base 1 "_law_lies" ["_law_over", "_law_node", "_law_folder"] (spLies K)) (gB_dict : mg "dict" = none) (gB_list : mg "list" = none) : FnOk P w K mg base CX0 2 f fd ["_law_parts"] (spTrees K) := by
  refine Fn.ok sc__law_all_trees (fun vs H Q E h => ?_) (fun cdv A outer s H vs Q E hr h => ⟨_, PSs.nox
    (pss_cons (ps_set (i := 1) sc__law_all_trees.nd rfl (Or.inl rfl) (pe_op L2.op_cat (pe_ix ix_tup (pv 0) pe_int (fun _ _ => rfl)) (pe_ix ix_tup (pv 0) pe_int (fun _ _ => rfl))))
      (pss_cons (ps_set (i := 2) sc__law_all_trees.nd rfl (Or.inl rfl) (pe_lst (pa_cons pe_dnewK pa_nil)))
      (pss_cons (ps_for PassesOwn.never rfl (pi_list (pv 1)) (pg_name (i := 3) sc__law_all_trees.nd rfl (Or.inl rfl))
      (pss_cons (ps_set (i := 4) sc__law_all_trees.nd rfl (Or.inl rfl) (pe_lst pa_nil))
      (pss_cons (ps_for PassesOwn.never rfl (pi_list (pv 2)) (pg_name (i := 5) sc__law_all_trees.nd rfl (Or.inl rfl))
      (pss_cons (ps_expr (pe_bm PySem.F.plainAttrs_list PySem.F.slot_list_append PySem.F.type_list_append mt_append (pv 4) (pa_cons (pe_callTy call_dictD (by rfl) gB_dict (by decide +kernel) (pa_cons (pv 5) pa_nil)) pa_nil)))
      (pss_one (ps_for PassesOwn.never rfl (pi_list (pe_ix ix_tup (pv 0) pe_int (fun _ _ => rfl))) (pg_name (i := 6) sc__law_all_trees.nd rfl (Or.inl rfl))
      (pss_cons (ps_set (i := 7) sc__law_all_trees.nd rfl (Or.inl rfl) (pe_callTy call_dictD (by rfl) gB_dict (by decide +kernel) (pa_cons (pv 5) pa_nil)))
      (pss_cons (ps_dput (hu_of hr) (pv 7) (pv 3) (pv 6) rfl)
      (pss_one (ps_if (PW.pt (pw_and (pt_cmpR op_ne (pv 6) (pv 3) (nomark _)) (pw_and1 (pt_not (pt_val (pe_has h_law_lies (hr.mono (by decide)) (pa_cons (pv 7) (pa_cons (pv 3) (pa_cons (pv 3) pa_nil))))))))) (pss_one (ps_expr (pe_bm PySem.F.plainAttrs_list PySem.F.slot_list_append PySem.F.type_list_append mt_append (pv 4) (pa_cons (pv 7) pa_nil)))) pss_nil))))))))
      (pss_one (ps_set (i := 2) sc__law_all_trees.nd rfl (Or.inl rfl) (pe_callTy call_lstS (by rfl) gB_list (by decide +kernel) (pa_cons (pv 4) pa_nil)))))))
      (pss_one (ps_ret (pv 2)))))), ?_⟩)
  · obtain ⟨t, fo, th, rfl, _⟩ := h
    rfl
  · obtain ⟨t, fo, th, rfl, ⟨lf, lt, sq, hf, ht⟩, f3, n6, q⟩ := h
    have lm : ∀ zs : List Str, (zs.map V.str).length = zs.length := fun zs => List.length_map _
    refine ⟨_, rfl, t, _, _, _, rfl, rfl, sq, rfl, _, rfl, t, _, _, _, rfl, rfl, sq, rfl, lf, lt, _, _, rfl, rfl, hf, ht, by rw [lm, lm, sizeLine_eq, ← List.length_append]; omega, fun ln hln => ?_⟩
    obtain ⟨H1, hH1⟩ : ∃ H1, H1 = upd H ln (.lst (fo.map V.str ++ th.map V.str)) := ⟨_, rfl⟩
    rw [← hH1]
    have x1 : Ext H H1 := by
      rw [hH1]
      exact Ext.upd hln
    have n1 : H1 ln = some (.lst ((fo ++ th).map V.str)) := by rw [hH1, upd_same, List.map_append]
    refine fun d0 hd0 => ⟨Nat.le_of_ble_eq_true rfl, fun l0 hl0 => ?_⟩
    obtain ⟨H2, hH2⟩ : ∃ H2, H2 = upd (upd H1 d0 (.dK [])) l0 (.lst [.ref d0]) := ⟨_, rfl⟩
    rw [← hH2]
    have x2 : Ext H1 H2 := by
      rw [hH2]
      exact (Ext.upd hd0).trans (Ext.upd hl0)
    have l2 : H2 l0 = some (.lst [.ref d0]) := by rw [hH2, upd_same]
    have t2 : TreesX fo 0 H2 [.ref d0] := fun x hx => by
      rw [List.mem_singleton.mp hx]
      exact ⟨d0, [], rfl, by rw [hH2]; exact Ext.upd hl0 _ _ upd_same, (fun p hp => by cases hp), Nat.le_refl _⟩
    refine ⟨_, rfl, ln, rfl, ⟨_, SqL.of (x2 _ _ n1)⟩, for_list (K := K) (a := ln) (xs := (fo ++ th).map V.str) (fun i σ H' => Ext H2 H' ∧ ∃ l xs v1 v2 v3 v4 v5, H l = none ∧ σ = [some (.ref t), some (.ref ln), some (.ref l), v1, v2, v3, v4, v5] ∧ H' l = some (.lst xs) ∧ xs.length ≤ 4 ^ i ∧ TreesX fo i H' xs) ?_ ?_ ?_ ?_⟩
    · exact ⟨Ext.rfl', l0, _, none, none, none, none, none, ext_none (x1.trans (Ext.upd hd0)) hl0, rfl, l2, Nat.le_refl _, t2⟩
    · rintro i σ H' _ ⟨x', _⟩
      exact SqL.of (x' _ _ (x2 _ _ n1))
    · rintro i v σ H3 hv ⟨x3, l, xs, v1, v2, v3, v4, v5, ln0, rfl, l3, len3, t3⟩
      obtain ⟨nd, hnd, rfl⟩ := strs_at hv
      have i6 : i < 6 := by
        have := (List.getElem?_eq_some_iff.mp hnd).1
        omega
      have p4 : 4 ^ i ≤ 4096 := Nat.le_trans (Nat.pow_le_pow_right (by decide) (by omega : i ≤ 6)) (by decide)
      refine ⟨Nat.zero_le _, fun lg hlg => ?_⟩
      obtain ⟨H4, hH4⟩ : ∃ H4, H4 = upd H3 lg (.lst []) := ⟨_, rfl⟩
      rw [← hH4]
      have x4 : Ext H3 H4 := by
        rw [hH4]
        exact Ext.upd hlg
      have g4 : H4 lg = some (.lst []) := by rw [hH4, upd_same]
      refine ⟨_, rfl, l, rfl, ⟨_, SqL.of (x4 _ _ l3)⟩, for_list (K := K) (a := l) (xs := xs) (fun j σ H' => Ext H3 H' ∧ ∃ acc v3 v4 v5, σ = [some (.ref t), some (.ref ln), some (.ref l), some (.str nd), some (.ref lg), v3, v4, v5] ∧ H' lg = some (.lst acc) ∧ acc.length ≤ 4 * j ∧ TreesX fo (i + 1) H' acc) ?_ ?_ ?_ ?_⟩
      · exact ⟨x4, [], v3, v4, v5, rfl, g4, Nat.zero_le _, fun x hx => by cases hx⟩
      · rintro j σ H' _ ⟨x', _⟩
        exact SqL.of (x' _ _ l3)
      · rintro j v σ H5 hv ⟨x5, acc, v3, v4, v5, rfl, g5, len5, t5⟩
        have jx : j < xs.length := (List.getElem?_eq_some_iff.mp hv).1
        obtain ⟨a, d, rfl, ha3, okd, dlen⟩ := t3 v (List.mem_of_getElem? hv)
        have ha5 := x5 _ _ ha3
        refine ⟨_, rfl, .inl ⟨rfl, _, .inl (.inl g5)⟩, _, rfl, a, kd d, rfl, .inl ha5, fun c hc => ?_⟩
        have xc := Ext.upd (o := .dK (kd d)) hc
        refine ⟨lg, _, _, rfl, rfl, xc _ _ g5, by rw [sizeLine_eq]; omega, ?_⟩
        obtain ⟨H6, hH6⟩ : ∃ H6, H6 = upd (upd H5 c (.dK (kd d))) lg (.lst (acc ++ [.ref c])) := ⟨_, rfl⟩
        rw [← hH6]
        have x6 : Ext H3 H6 := by
          rw [hH6]
          exact (x5.trans xc).over hlg
        have g6 : H6 lg = some (.lst (acc ++ [.ref c])) := by rw [hH6, upd_same]
        have t6 : TreesX fo (i + 1) H6 (acc ++ [.ref c]) := by
          rw [hH6]
          exact ((t5.ext xc).snoc upd_same okd (by omega)).updL (xc _ _ g5)
        refine ⟨_, rfl, t, _, _, _, rfl, rfl, (sq.ext (x1.trans x2)).ext (x3.trans x6), rfl, lf, rfl, ⟨_, SqL.of (x6 _ _ (x3 _ _ (x2 _ _ (x1 _ _ hf))))⟩, for_list (K := K) (a := lf) (xs := fo.map V.str) (fun k σ H' => Ext H3 H' ∧ ∃ acc v4 v5, σ = [some (.ref t), some (.ref ln), some (.ref l), some (.str nd), some (.ref lg), some (.ref a), v4, v5] ∧ H' lg = some (.lst acc) ∧ acc.length ≤ 4 * j + 1 + k ∧ TreesX fo (i + 1) H' acc) ?_ ?_ ?_ ?_⟩
        · exact ⟨x6, _, v4, v5, rfl, g6, by rw [List.length_append]; exact Nat.succ_le_succ len5, t6⟩
        · rintro k σ H' _ ⟨x', _⟩
          exact SqL.of (x' _ _ (x3 _ _ (x2 _ _ (x1 _ _ hf))))
        · rintro k v σ H7 hv ⟨x7, acc, v4, v5, rfl, g7, len7, t7⟩
          obtain ⟨fz, hfz, rfl⟩ := strs_at hv
          have kf : k < fo.length := (List.getElem?_eq_some_iff.mp hfz).1
          refine ⟨_, rfl, a, kd d, rfl, .inl (x7 _ _ ha3), fun m hm => ?_⟩
          have xm := Ext.upd (o := .dK (kd d)) hm
          refine ⟨_, rfl, _, rfl, _, rfl, m, _, rfl, DPut.k (k := Sum.inr nd) upd_same (by rw [kd_len, sizeLine_eq]; omega), ?_⟩
          rw [put_kd]
          obtain ⟨H8, hH8⟩ : ∃ H8, H8 = upd (upd H7 m (.dK (kd d))) m (.dK (kd (setD d nd (.str fz)))) := ⟨_, rfl⟩
          rw [← hH8]
          have x8 : Ext H7 H8 := by
            rw [hH8]
            exact xm.over hm
          have m8 : H8 m = some (.dK (kd (setD d nd (.str fz)))) := by rw [hH8, upd_same]
          have ok8 : DicOk fo (setD d nd (.str fz)) := fun p hp => (setD_mem hp).elim (okd p) fun e => .inr ⟨fz, List.mem_of_getElem? hfz, e⟩
          have len8 : (setD d nd (.str fz)).length ≤ i + 1 := Nat.le_trans (setD_len d nd _) (Nat.succ_le_succ dlen)
          refine ⟨_, rfl, _, rfl, rfl, _, rfl, ?_⟩
          refine ite2 (fun c1 => ?_) fun c1 => ?_
          · refine ⟨_, rfl, _, rfl, _, rfl, m, _, fo, nd, nd, rfl, m8, ok8, _, rfl, ?_⟩
            refine ite2 (fun c2 => ?_) fun c2 => ?_
            · refine ⟨_, rfl, .inl ⟨rfl, _, .inl (.inl (x8 _ _ g7))⟩, _, rfl, lg, _, _, rfl, rfl, x8 _ _ g7, by rw [sizeLine_eq]; omega, ?_⟩
              exact ⟨(x7.trans x8).over hlg, _, _, _, rfl, upd_same, by rw [List.length_append]; exact Nat.succ_le_succ len7, ((t7.ext x8).snoc m8 ok8 len8).updL (x8 _ _ g7)⟩
            · exact ⟨x7.trans x8, _, _, _, rfl, x8 _ _ g7, by omega, t7.ext x8⟩
          · exact ⟨x7.trans x8, _, _, _, rfl, x8 _ _ g7, by omega, t7.ext x8⟩
        · rintro σ H7 ⟨x7, acc, v4, v5, rfl, g7, len7, t7⟩
          rw [lm] at len7
          exact ⟨x7, acc, _, v4, v5, rfl, g7, by omega, t7⟩
      · rintro σ H5 ⟨x5, acc, v3, v4, v5, rfl, g5, len5, t5⟩
        refine ⟨_, rfl, lg, _, rfl, .inl (SqL.of g5), fun l9 hl9 => ?_⟩
        refine ⟨(x3.trans x5).trans (Ext.upd hl9), l9, acc, _, _, v3, v4, v5, ext_none (x1.trans (x2.trans (x3.trans x5))) hl9, rfl, upd_same, ?_, t5.ext (Ext.upd hl9)⟩
        rw [Nat.pow_succ]
        omega
    · rintro σ H3 ⟨x3, l, xs, v1, v2, v3, v4, v5, ln0, rfl, l3, len3, t3⟩
      exact ⟨_, rfl, q l xs _ H3 (x1.trans (x2.trans x3)) ln0 l3 t3⟩
theorem ok_facts (Fn : FnP K "_law_all_facts" s__law_all_facts f fd) : FnOk P w K mg base CX0 1 f fd ["_law_parts"] (spFacts K) := by
  refine Fn.ok sc__law_all_facts (fun vs H Q E h => ?_) (fun cdv A outer s H vs Q E hr h => ⟨_, PSs.nox
    (pss_cons (ps_set (i := 1) sc__law_all_facts.nd rfl (Or.inl rfl) (pe_op L2.op_cat (pe_ix ix_tup (pv 0) pe_int (fun _ _ => rfl)) (pe_ix ix_tup (pv 0) pe_int (fun _ _ => rfl))))
      (pss_cons (ps_set (i := 2) sc__law_all_facts.nd rfl (Or.inl rfl) (pe_lst pa_nil))
      (pss_cons (ps_for PassesOwn.never rfl (pi_list (pv 1)) (pg_name (i := 3) sc__law_all_facts.nd rfl (Or.inr rfl))
      (pss_one (ps_for PassesOwn.never rfl (pi_list (pv 1)) (pg_name (i := 4) sc__law_all_facts.nd rfl (Or.inr rfl))
      (pss_one (ps_if (pt_cmpR op_ne (pv 3) (pv 4) (nomark _)) (pss_cons (ps_expr (pe_bm PySem.F.plainAttrs_list PySem.F.slot_list_append PySem.F.type_list_append mt_append (pv 2) (pa_cons (pe_tup (pa_cons pe_str (pa_cons (pv 3) (pa_cons (pv 4) pa_nil)))) pa_nil)))
      (pss_one (ps_expr (pe_bm PySem.F.plainAttrs_list PySem.F.slot_list_extend PySem.F.type_list_extend mt_extend (pv 2) (pa_cons (pe_lc (own := [("_law_word", 5)]) (g := (gName 5)) rfl sc__law_all_facts.nd (pi_tup (pe_tup (pa_cons pe_str (pa_cons pe_str pa_nil)))) (blkOk_by (N := nm__law_all_facts) (sc := defScope s__law_all_facts) (by decide +kernel)) (fun _ _ _ _ _ => (pg_name (i := 5) sc__law_all_facts.nd rfl (Or.inl rfl))) (fun _ _ _ _ _ => pts_one (pt_cmpR (opK (r := fun K => rIn K false) (K := K) rfl op_in_seq) (pv 4) (pe_ix (ixK (r := rIxT) (K := K) rfl ix_tup) (pv 0) pe_int (fun _ _ => rfl)) (by rfl))) (fun _ _ _ _ _ => (pe_tup (pa_cons (pv 5) (pa_cons (pv 3) (pa_cons (pv 4) pa_nil)))))) pa_nil))))) pss_nil)))))
      (pss_one (ps_ret (pv 2)))))), ?_⟩)
  · obtain ⟨t, fo, th, rfl, _⟩ := h
    rfl
  · obtain ⟨t, fo, th, rfl, ⟨lf, lt, sq, hf, ht⟩, n6, q⟩ := h
    have lm : ∀ zs : List Str, (zs.map V.str).length = zs.length := fun zs => List.length_map _
    refine ⟨_, rfl, t, _, _, _, rfl, rfl, sq, rfl, _, rfl, t, _, _, _, rfl, rfl, sq, rfl, lf, lt, _, _, rfl, rfl, hf, ht, by rw [lm, lm, sizeLine_eq, ← List.length_append]; omega, fun ln hln => ?_⟩
    obtain ⟨H1, hH1⟩ : ∃ H1, H1 = upd H ln (.lst (fo.map V.str ++ th.map V.str)) := ⟨_, rfl⟩
    rw [← hH1]
    have x1 : Ext H H1 := by
      rw [hH1]
      exact Ext.upd hln
    have n1 : H1 ln = some (.lst ((fo ++ th).map V.str)) := by rw [hH1, upd_same, List.map_append]
    refine ⟨Nat.zero_le _, fun l hl => ?_⟩
    obtain ⟨H2, hH2⟩ : ∃ H2, H2 = upd H1 l (.lst []) := ⟨_, rfl⟩
    rw [← hH2]
    have x2 : Ext H1 H2 := by
      rw [hH2]
      exact Ext.upd hl
    have l2 : H2 l = some (.lst []) := by rw [hH2, upd_same]
    refine ⟨_, rfl, ln, rfl, ⟨_, SqL.of (x2 _ _ n1)⟩, for_list (K := K) (a := ln) (xs := (fo ++ th).map V.str) (fun i σ H' => Ext H1 H' ∧ ∃ acc rs v1 v2 v3, σ = [some (.ref t), some (.ref ln), some (.ref l), v1, v2, v3] ∧ H' l = some (.lst acc) ∧ acc.length ≤ 18 * i ∧ Rows K H' acc rs ∧ FactR fo th rs) ?_ ?_ ?_ ?_⟩
    · exact ⟨x2, [], [], none, none, none, rfl, l2, Nat.zero_le _, True.intro, fun r hr => by cases hr⟩
    · rintro i σ H' _ ⟨x', _⟩
      exact SqL.of (x' _ _ n1)
    · rintro i v σ H3 hv ⟨x3, acc, rs, v1, v2, v3, rfl, l3, len3, r3, f3⟩
      obtain ⟨za, hza, rfl⟩ := strs_at hv
      have i6 : i < 6 := by
        have := (List.getElem?_eq_some_iff.mp hza).1
        omega
      refine ⟨_, rfl, ln, rfl, ⟨_, SqL.of (x3 _ _ n1)⟩, for_list (K := K) (a := ln) (xs := (fo ++ th).map V.str) (fun j σ H' => Ext H1 H' ∧ ∃ acc rs v2 v3, σ = [some (.ref t), some (.ref ln), some (.ref l), some (.str za), v2, v3] ∧ H' l = some (.lst acc) ∧ acc.length ≤ 18 * i + 3 * j ∧ Rows K H' acc rs ∧ FactR fo th rs) ?_ ?_ ?_ ?_⟩
      · exact ⟨x3, acc, rs, v2, v3, rfl, l3, len3, r3, f3⟩
      · rintro j σ H' _ ⟨x', _⟩
        exact SqL.of (x' _ _ n1)
      · rintro j v σ H4 hv ⟨x4, acc, rs, v2, v3, rfl, l4, len4, r4, f4⟩
        obtain ⟨zb, hzb, rfl⟩ := strs_at hv
        have j6 : j < 6 := by
          have := (List.getElem?_eq_some_iff.mp hzb).1
          omega
        refine ⟨_, rfl, _, rfl, rfl, _, rfl, ?_⟩
        refine ite2 (fun c => ?_) fun c => ?_
        · have nab : za ≠ zb := fun e => by
            subst e
            simp at c
          have ma := List.mem_of_getElem? hza
          have mb := List.mem_of_getElem? hzb
          refine ⟨_, rfl, .inl ⟨rfl, _, .inl (.inl l4)⟩, _, rfl, _, rfl, Nat.le_of_ble_eq_true rfl, fun t1 ht1 => ?_⟩
          have y1 := Ext.upd (o := .tup [.str "line", .str za, .str zb]) ht1
          refine ⟨l, _, _, rfl, rfl, y1 _ _ l4, by rw [sizeLine_eq]; omega, ?_⟩
          obtain ⟨H5, hH5⟩ : ∃ H5, H5 = upd (upd H4 t1 (.tup [.str "line", .str za, .str zb])) l (.lst (acc ++ [.ref t1])) := ⟨_, rfl⟩
          rw [← hH5]
          have x5 : Ext H1 H5 := by
            rw [hH5]
            exact (x4.trans y1).over hl
          have l5 : H5 l = some (.lst (acc ++ [.ref t1])) := by rw [hH5, upd_same]
          have r5 : Rows K H5 (acc ++ [.ref t1]) (rs ++ [[("line" : Str), za, zb]]) := by
            rw [hH5]
            exact Rows.upd (y1 _ _ l4) (Rows.app (r4.ext y1) ⟨⟨t1, rfl, SqT.of upd_same⟩, True.intro⟩)
          have f5 : FactR fo th (rs ++ [[("line" : Str), za, zb]]) := fun r hr => by
            rcases List.mem_append.mp hr with hr | hr
            · exact f4 r hr
            · rw [List.mem_singleton.mp hr]
              exact ⟨_, _, _, rfl, by decide, ma, mb, nab, .inl rfl⟩
          refine ⟨_, rfl, .inl ⟨rfl, _, .inl (.inl l5)⟩, Nat.le_of_ble_eq_true rfl, fun t2 ht2 => ?_⟩
          have y2 := Ext.upd (o := .tup [.str "below", .str "not"]) ht2
          refine ⟨t2, rfl, ⟨_, SqT.of upd_same⟩, fun D hD => ?_⟩
          obtain ⟨H6, hH6⟩ : ∃ H6, H6 = upd H5 t2 (.tup [.str "below", .str "not"]) := ⟨_, rfl⟩
          rw [← hH6] at hD ⊢
          have x6 : Ext H5 H6 := by
            rw [hH6]
            exact y2
          have s6 : SqT K H6 t2 [.str "below", .str "not"] := by
            rw [hH6]
            exact SqT.of upd_same
          refine lc_tup (K := K) (a := t2) (xs := [.str "below", .str "not"]) (fun k H' => Ext H6 H' ∧ ∃ acc rs, H' D = some (.lst acc) ∧ acc.length ≤ k ∧ Rows K H' acc rs ∧ FactR fo th rs) ⟨Ext.upd hD, [], [], upd_same, Nat.zero_le _, True.intro, fun r hr => by cases hr⟩ (fun k H' _ z => s6.ext z.1) ?_ ?_
          · intro k v H7 hv ⟨x7, acc7, rs7, d7, len7, r7, f7⟩
            have k2 : k < 2 := (List.getElem?_eq_some_iff.mp hv).1
            obtain ⟨wz, hw, rfl⟩ : ∃ wz : Str, (wz = "below" ∨ wz = "not") ∧ v = .str wz := by
              match k, hv with
              | 0, hv => exact ⟨"below", .inl rfl, by injection hv with hv; exact hv.symm⟩
              | 1, hv => exact ⟨"not", .inr rfl, by injection hv with hv; exact hv.symm⟩
              | k + 2, hv => cases hv
            have f7' : H7 lf = some (.lst (fo.map V.str)) := x7 _ _ (x6 _ _ (x5 _ _ (x1 _ _ hf)))
            refine ⟨rfl, _, rfl, _, rfl, t, _, _, _, rfl, rfl, ((sq.ext x1).ext x5).ext (x6.trans x7), rfl, lf, _, rfl, .inl (SqL.of f7'), rfl, flat_strs _, _, rfl, ?_⟩
            rw [if_neg Bool.false_ne_true, inV_str]
            refine ite2 (fun e => ?_) fun e => ?_
            · have e' : zb ∈ fo := of_decide_eq_true e
              refine ⟨_, rfl, _, rfl, _, rfl, Nat.le_of_ble_eq_true rfl, fun T hT => ⟨acc7, Ext.upd hT _ _ d7, by rw [sizeLine_eq]; omega, (x7.upd' hT).over hD, _, rs7 ++ [[wz, za, zb]], upd_same, by rw [List.length_append]; exact Nat.succ_le_succ len7, Rows.app (Rows.upd (Ext.upd hT _ _ d7) (r7.ext (Ext.upd hT))) ⟨⟨T, rfl, sqT_upd (SqT.of upd_same) (Ext.upd hT _ _ d7)⟩, True.intro⟩, fun r hr => ?_⟩⟩
              rcases List.mem_append.mp hr with hr | hr
              · exact f7 r hr
              · rw [List.mem_singleton.mp hr]
                refine ⟨_, _, _, rfl, ?_, ma, mb, nab, .inr e'⟩
                rcases hw with rfl | rfl <;> decide
            · exact ⟨x7, acc7, rs7, d7, by omega, r7, f7⟩
          · intro H7 ⟨x7, acc7, rs7, d7, len7, r7, f7⟩
            have len7' : acc7.length ≤ 2 := len7
            have l7 : H7 l = some (.lst (acc ++ [.ref t1])) := x7 _ _ (x6 _ _ l5)
            refine ⟨l, D, _, _, rfl, rfl, l7, d7, by rw [List.length_append, sizeLine_eq]; show acc.length + 1 + acc7.length ≤ _; omega, ?_⟩
            refine ⟨(x5.trans (x6.trans x7)).over hl, _, _, _, _, rfl, upd_same, ?_, Rows.upd l7 (Rows.app (r5.ext (x6.trans x7)) r7), fun r hr => ?_⟩
            · rw [List.length_append, List.length_append]
              show acc.length + 1 + acc7.length ≤ _
              omega
            · exact (List.mem_append.mp hr).elim (f5 r) (f7 r)
        · exact ⟨x4, acc, rs, _, v3, rfl, l4, by omega, r4, f4⟩
      · rintro σ H4 ⟨x4, acc, rs, v2, v3, rfl, l4, len4, r4, f4⟩
        rw [lm] at len4
        exact ⟨x4, acc, rs, _, v2, v3, rfl, l4, by omega, r4, f4⟩
    · rintro σ H3 ⟨x3, acc, rs, v1, v2, v3, rfl, l3, len3, r3, f3⟩
      rw [lm] at len3
      exact ⟨_, rfl, q l rs H3 (x1.trans x3) (ext_none x1 hl) (by rw [← r3.len]; omega) ⟨acc, l3, r3⟩ f3⟩
end
end My

namespace My
open PySem PySem.Spec PyProof.Rows L2
/-! ### lines in the order of the house -/
theorem ord_app (a b : Str) (xs ys : List Str) : ordS (xs ++ ys) a b = ordS xs a b ++ ordS ys a b := List.filter_append ..
theorem ord_none {ns : List Str} {a b : Str} (ha : a ∉ ns) (hb : b ∉ ns) : ordS ns a b = [] := by
  unfold ordS
  rw [List.filter_eq_nil_iff]
  intro k hk
  have h1 : k ≠ a := fun e => ha (e ▸ hk)
  have h2 : k ≠ b := fun e => hb (e ▸ hk)
  simp [h1, h2]
theorem ord_comm (ns : List Str) (a b : Str) : ordS ns a b = ordS ns b a := by
  unfold ordS
  congr 1
  funext n
  rw [Bool.or_comm]
theorem ord_lt : ∀ {ns : List Str} {a b : Str} {i j : Nat}, ns.Nodup → ns[i]? = some a → ns[j]? = some b → i < j → ordS ns a b = [a, b]
  | n :: ns, a, b, 0, j + 1, nd, ha, hb, _ => by
    obtain ⟨nn, nd'⟩ := List.nodup_cons.mp nd
    injection ha with ha
    subst ha
    have hb' : b ∈ ns := List.mem_of_getElem? hb
    have nb : n ≠ b := fun e => nn (e ▸ hb')
    obtain ⟨c, d, e, h⟩ := ord_two nd List.mem_cons_self (List.mem_cons_of_mem _ hb') nb
    have e0 := e
    unfold ordS at e
    rw [List.filter_cons, if_pos (by simp)] at e
    injection e with e1 e2
    rw [e0]
    rcases h with ⟨h1, h2⟩ | ⟨h1, h2⟩
    · rw [h1, h2]
    · exact absurd (e1.trans h1) nb
  | n :: ns, a, b, i + 1, j + 1, nd, ha, hb, h => by
    obtain ⟨nn, nd'⟩ := List.nodup_cons.mp nd
    have ha' : a ∈ ns := List.mem_of_getElem? (i := i) ha
    have hb' : b ∈ ns := List.mem_of_getElem? (i := j) hb
    have h1 : n ≠ a := fun e => nn (e ▸ ha')
    have h2 : n ≠ b := fun e => nn (e ▸ hb')
    have ih := ord_lt (ns := ns) (i := i) (j := j) nd' ha hb (Nat.lt_of_succ_lt_succ h)
    unfold ordS at ih ⊢
    rw [List.filter_cons, ih]
    simp [h1, h2]
theorem agF_line {fo th : List Str} {a b c d : Str} (h : ordS (fo ++ th) a b = [c, d]) : agF fo th "line" a b = (([(c, d), (d, c)] : List (Str × Str)).filter fun p => decide (p.2 ∈ fo)).map fun p => [("not" : Str), p.1, p.2] := by
  unfold agF toldS
  rw [if_pos rfl, h]
  show agS fo "line" c d = _
  unfold agS
  rw [if_neg (by decide), if_neg (by decide)]
theorem agF_other {fo th : List Str} {w a b : Str} (h : w ≠ "line") : agF fo th w a b = agS fo w a b := by
  unfold agF toldS
  rw [if_neg h]
theorem strs_idx {ns : List Str} {j : Nat} {z : Str} (nd : ns.Nodup) (h : ns[j]? = some z) : ∀ (m : Nat) (z' : V), m < j → (ns.map V.str)[m]? = some z' → eqV z' (.str z) = false := fun m z' hm e => by
  obtain ⟨y, hy, rfl⟩ := strs_at e
  cases hh : eqV (.str y) (.str z) with
  | false => rfl
  | true =>
    have e2 : (V.str z) = .str y := eqV_strE hh
    injection e2 with e2
    subst e2
    obtain ⟨h1, e1⟩ := List.getElem?_eq_some_iff.mp h
    obtain ⟨h2, e3⟩ := List.getElem?_eq_some_iff.mp hy
    have := (List.getElem_inj nd).mp (e1.trans e3.symm)
    omega
def spDue (K : PySem.W.Frag) : Sp := fun vs H Q _ => ∃ t x fo th w a b, vs = [.ref t, .ref x] ∧ PartsAt K H t fo th ∧ (fo ++ th).Nodup ∧ (fo ++ th).length ≤ 6 ∧ IsF fo th w a b ∧ SqT K H x [.str w, .str a, .str b] ∧ ∀ l H', Ext H H' → RowsAt K H' l (agF fo th w a b) → Q (.ref l) H'
abbrev nm__law_due : List Str := ["_law_parts", "_law_fact", "_law_word", "_law_one", "_law_other", "_law_nodes", "_law_node", "_law_folder"]
theorem sc__law_due : FnScope nm__law_due ["_law_parts", "_law_fact"] (defScope s__law_due) := ⟨rfl, rfl, rfl, by decide +kernel, rfl, by decide +kernel, by decide +kernel⟩
abbrev nm__law_refused : List Str := ["_law_house_here", "_law_odd", "e"]
theorem sc__law_refused : FnScope nm__law_refused ["_law_house_here", "_law_odd"] (defScope s__law_refused) := ⟨rfl, rfl, rfl, by decide +kernel, rfl, by decide +kernel, by decide +kernel⟩
def spRefused (K : PySem.W.Frag) (C : Addr) : Sp := fun vs H Q _ => ∃ h x fo th, vs = [.ref h, x] ∧ Hou H K C h fo th ∧ (fo ++ th).Nodup ∧ (fo ++ th).length < sizeLine ∧ FactOf K H fo th x false ∧ ∀ H', Ext H H' → Q (.bl true) H'
section
variable {P : Program} {w : World} {K : PySem.W.Frag} {mg : Str → Option Value} {base : Heap} {f fA C CB CF : Addr} {fd fdA : FuncData}
theorem ok_due (Fn : FnP K "_law_due" s__law_due f fd) : FnOk P w K mg base CX0 1 f fd ["_law_parts", "_law_fact"] (spDue K) := by
  refine Fn.ok sc__law_due (fun vs H Q E h => ?_) (fun cdv A outer s H vs Q E hr h => ⟨_, PSs.nox
    (pss_cons (ps_asg (pv 1) (pg_tup rfl (pgs_cons (pg_name (i := 2) sc__law_due.nd rfl (Or.inl rfl)) (pgs_cons (pg_name (i := 3) sc__law_due.nd rfl (Or.inl rfl)) (pgs_cons (pg_name (i := 4) sc__law_due.nd rfl (Or.inl rfl)) pgs_nil)))))
      (pss_cons (ps_if (pt_cmpR op_eq (pv 2) pe_str (nomark _)) (pss_one (ps_ret (pe_lst (pa_cons (pe_tup (pa_cons pe_str (pa_cons (pv 3) (pa_cons (pv 4) pa_nil)))) pa_nil)))) pss_nil)
      (pss_cons (ps_if (pt_cmpR op_eq (pv 2) pe_str (nomark _)) (pss_one (ps_ret (pe_lst (pa_cons (pe_tup (pa_cons pe_str (pa_cons (pv 3) (pa_cons (pv 4) pa_nil)))) pa_nil)))) pss_nil)
      (pss_cons (ps_set (i := 5) sc__law_due.nd rfl (Or.inl rfl) (pe_op L2.op_cat (pe_ix ix_tup (pv 0) pe_int (fun _ _ => rfl)) (pe_ix ix_tup (pv 0) pe_int (fun _ _ => rfl))))
      (C8.pss_cut (ps_if (pt_cmpR op_gt (pe_bm PySem.F.plainAttrs_list PySem.F.slot_list_index PySem.F.type_list_index mt_index (pv 5) (pa_cons (pv 3) pa_nil)) (pe_bm PySem.F.plainAttrs_list PySem.F.slot_list_index PySem.F.type_list_index mt_index (pv 5) (pa_cons (pv 4) pa_nil)) (nomark _)) (pss_one (ps_par (i := 3) (j := 4) rfl sc__law_due.nd rfl rfl (by decide) rfl rfl (pa_cons (pv 4) (pa_cons (pv 3) pa_nil)) (by rfl))) pss_nil)
      (pss_one (ps_ret (pe_lc (own := [("_law_node", 6), ("_law_folder", 7)]) (g := (gTup K 2 (gCons (gName 6) (gCons (gName 7) gNil)))) rfl sc__law_due.nd (pi_list (pe_lst (pa_cons (pe_tup (pa_cons (pv 3) (pa_cons (pv 4) pa_nil))) (pa_cons (pe_tup (pa_cons (pv 4) (pa_cons (pv 3) pa_nil))) pa_nil)))) (blkOk_by (N := nm__law_due) (sc := defScope s__law_due) (by decide +kernel)) (fun _ _ _ _ _ => (pg_tup rfl (pgs_cons (pg_name (i := 6) sc__law_due.nd rfl (Or.inl rfl)) (pgs_cons (pg_name (i := 7) sc__law_due.nd rfl (Or.inl rfl)) pgs_nil)))) (fun _ _ _ _ _ => pts_one (pt_cmpR (opK (r := fun K => rIn K false) (K := K) rfl op_in_seq) (pv 7) (pe_ix (ixK (r := rIxT) (K := K) rfl ix_tup) (pv 0) pe_int (fun _ _ => rfl)) (by rfl))) (fun _ _ _ _ _ => (pe_tup (pa_cons pe_str (pa_cons (pv 6) (pa_cons (pv 7) pa_nil))))))))))))), ?_⟩)
  · obtain ⟨t, x, fo, th, w, a, b, rfl, _⟩ := h
    rfl
  · obtain ⟨t, x, fo, th, wd, a, b, rfl, ⟨lf, lt, sq, hf, ht⟩, nd, n6, isf, sx, q⟩ := h
    have lm : ∀ zs : List Str, (zs.map V.str).length = zs.length := fun zs => List.length_map _
    refine ⟨_, rfl, x, _, rfl, sx, rfl, _, _, rfl, _, _, rfl, _, _, rfl, rfl, ?_⟩
    have one : ∀ nw : Str, (∀ l H', Ext H H' → RowsAt K H' l [[nw, a, b]] → Q (.ref l) H') → ∀ p, H p = none → ∀ l, upd H p (.tup [.str nw, .str a, .str b]) l = none → Q (.ref l) (upd (upd H p (.tup [.str nw, .str a, .str b])) l (.lst [.ref p])) := fun nw q p hp l hl => by
      have xp := Ext.upd (o := .tup [.str nw, .str a, .str b]) hp
      have xl := Ext.upd (o := .lst [.ref p]) hl
      exact q l _ (xp.trans xl) ⟨_, upd_same, ⟨p, rfl, (SqT.of (K := K) (xs := [.str nw, .str a, .str b]) (by rw [upd_same])).ext xl⟩, True.intro⟩
    refine ⟨_, rfl, rfl, _, rfl, ?_⟩
    refine ite2 (fun e => ?_) fun e => ?_
    · have e' : wd = "below" := by
        have z := of_decide_eq_true e
        injection z
      subst e'
      rw [agF_other (by decide)] at q
      refine ⟨_, rfl, _, rfl, Nat.le_of_ble_eq_true rfl, fun p hp => ⟨Nat.le_of_ble_eq_true rfl, fun l hl => one "not" q p hp l hl⟩⟩
    have e' : wd ≠ "below" := fun z => e (decide_eq_true (by rw [z]))
    refine ⟨_, rfl, rfl, _, rfl, ?_⟩
    refine ite2 (fun e2 => ?_) fun e2 => ?_
    · have e2' : wd = "not" := by
        have z := of_decide_eq_true e2
        injection z
      subst e2'
      rw [agF_other (by decide)] at q
      refine ⟨_, rfl, _, rfl, Nat.le_of_ble_eq_true rfl, fun p hp => ⟨Nat.le_of_ble_eq_true rfl, fun l hl => one "below" q p hp l hl⟩⟩
    have e2' : wd ≠ "not" := fun z => e2 (decide_eq_true (by rw [z]))
    obtain rfl : wd = "line" := by
      have z := isf.1
      unfold wordsS at z
      simp at z
      rcases z with z | z | z
      · exact absurd z e'
      · exact absurd z e2'
      · exact z
    obtain ⟨i, hi⟩ := List.mem_iff_getElem?.mp isf.2.1
    obtain ⟨j, hj⟩ := List.mem_iff_getElem?.mp isf.2.2.1
    have ij : i ≠ j := fun e => isf.2.2.2.1 (by
      subst e
      rw [hi] at hj
      injection hj)
    refine ⟨_, rfl, t, _, _, _, rfl, rfl, sq, rfl, _, rfl, t, _, _, _, rfl, rfl, sq, rfl, lf, lt, _, _, rfl, rfl, hf, ht, by rw [lm, lm, sizeLine_eq, ← List.length_append]; omega, fun ln hln => ?_⟩
    obtain ⟨H1, hH1⟩ : ∃ H1, H1 = upd H ln (.lst (fo.map V.str ++ th.map V.str)) := ⟨_, rfl⟩
    rw [← hH1]
    have x1 : Ext H H1 := by
      rw [hH1]
      exact Ext.upd hln
    have n1 : H1 ln = some (.lst ((fo ++ th).map V.str)) := by rw [hH1, upd_same, List.map_append]
    refine ⟨fun σ' H' => H' = H1 ∧ ∃ c d, ordS (fo ++ th) a b = [c, d] ∧ σ' = [some (.ref t), some (.ref x), some (.str "line"), some (.str c), some (.str d), some (.ref ln), none, none], ?_, ?_⟩
    · refine ⟨_, rfl, .inl ⟨rfl, _, .inl (.inl n1)⟩, _, rfl, ln, _, _, i, .str a, rfl, rfl, SqL.of n1, rfl, flat_strs _, by rw [List.getElem?_map, hi]; rfl, beq_self_eq_true a, strs_idx nd hi, ?_⟩
      refine ⟨_, rfl, .inl ⟨rfl, _, .inl (.inl n1)⟩, _, rfl, ln, _, _, j, .str b, rfl, rfl, SqL.of n1, rfl, flat_strs _, by rw [List.getElem?_map, hj]; rfl, beq_self_eq_true b, strs_idx nd hj, ?_⟩
      refine ⟨_, _, rfl, rfl, _, rfl, ?_⟩
      refine ite2 (fun c => ?_) fun c => ?_
      · have c' : j < i := by
          have := of_decide_eq_true c
          omega
        refine ⟨_, rfl, _, rfl, _, _, rfl, rfl, b, a, ?_, rfl⟩
        rw [ord_comm]
        exact ord_lt nd hj hi c'
      · have c' : i < j := by
          have : ¬ ((i : Int) > j) := fun z => c (decide_eq_true z)
          omega
        exact ⟨rfl, a, b, ord_lt nd hi hj c', rfl⟩
    · rintro σ' H' ⟨rfl, c, d, ecd, rfl⟩
      rw [agF_line ecd] at q
      refine ⟨_, rfl, _, rfl, Nat.le_of_ble_eq_true rfl, fun p1 hp1 => ⟨_, rfl, _, rfl, Nat.le_of_ble_eq_true rfl, fun p2 hp2 => ⟨Nat.le_of_ble_eq_true rfl, fun p3 hp3 => ?_⟩⟩⟩
      have y1 := Ext.upd (o := .tup [.str c, .str d]) hp1
      have y2 := Ext.upd (o := .tup [.str d, .str c]) hp2
      have y3 := Ext.upd (o := .lst [.ref p1, .ref p2]) hp3
      obtain ⟨H3, hH3⟩ : ∃ H3, H3 = upd (upd (upd H' p1 (.tup [.str c, .str d])) p2 (.tup [.str d, .str c])) p3 (.lst [.ref p1, .ref p2]) := ⟨_, rfl⟩
      have x23 : Ext H' H3 := by
        rw [hH3]
        exact y1.trans (y2.trans y3)
      have s1 : SqT K H3 p1 [.str c, .str d] := by
        rw [hH3]
        exact (SqT.of upd_same).ext (y2.trans y3)
      have s2 : SqT K H3 p2 [.str d, .str c] := by
        rw [hH3]
        exact (SqT.of upd_same).ext y3
      have s3 : H3 p3 = some (.lst [.ref p1, .ref p2]) := by
        rw [hH3]
        exact upd_same
      rw [← hH3]
      refine ⟨p3, rfl, ⟨_, SqL.of s3⟩, fun D hD => ?_⟩
      refine lc_list (K := K) (a := p3) (xs := [.ref p1, .ref p2]) (fun i H' => Ext H3 H' ∧ ∃ acc, H' D = some (.lst acc) ∧ acc.length ≤ i ∧ Rows K H' acc (((([(c, d), (d, c)] : List (Str × Str)).take i).filter fun p => decide (p.2 ∈ fo)).map fun p => ["not", p.1, p.2])) ⟨Ext.upd hD, [], upd_same, Nat.zero_le _, True.intro⟩ (fun i H' _ p => SqL.of (p.1 _ _ s3)) ?_ ?_
      · intro i v H4 hv ⟨x4, acc, l4, len4, r4⟩
        obtain ⟨u1, u2, pp, sp, rfl, tk⟩ : ∃ (u1 u2 : Str) (pp : Addr), SqT K H4 pp [.str u1, .str u2] ∧ v = .ref pp ∧ ([(c, d), (d, c)] : List (Str × Str)).take (i + 1) = ([(c, d), (d, c)] : List (Str × Str)).take i ++ [(u1, u2)] := by
          match i, hv with
          | 0, hv => exact ⟨c, d, p1, s1.ext x4, by injection hv with hv; exact hv.symm, rfl⟩
          | 1, hv => exact ⟨d, c, p2, s2.ext x4, by injection hv with hv; exact hv.symm, rfl⟩
          | i + 2, hv => cases hv
        have i2 : i < 2 := (List.getElem?_eq_some_iff.mp hv).1
        refine ⟨pp, _, rfl, sp, rfl, _, _, rfl, _, _, rfl, rfl, rfl, _, rfl, ?_⟩
        refine ⟨_, rfl, t, _, _, _, rfl, rfl, (sq.ext x1).ext (x23.trans x4), rfl, lf, _, rfl, .inl (SqL.of (x4 _ _ (x23 _ _ (x1 _ _ hf)))), rfl, flat_strs _, _, rfl, ?_⟩
        rw [if_neg Bool.false_ne_true, inV_str]
        rw [tk]
        refine ite2 (fun e => ?_) fun e => ?_
        · refine ⟨_, rfl, _, rfl, Nat.le_of_ble_eq_true rfl, fun T hT => ⟨acc, Ext.upd hT _ _ l4, ?_, ?_⟩⟩
          · rw [sizeLine_eq]; omega
          · refine ⟨(x4.upd' hT).over hD, _, upd_same, by rw [List.length_append]; exact Nat.succ_le_succ len4, ?_⟩
            rw [List.filter_append, List.map_append]
            refine Rows.app (Rows.upd (Ext.upd hT _ _ l4) (r4.ext (Ext.upd hT))) ?_
            rw [List.filter_cons, if_pos (show decide ((u1, u2).2 ∈ fo) = true from e)]
            exact ⟨⟨T, rfl, sqT_upd (SqT.of upd_same) (Ext.upd hT _ _ l4)⟩, True.intro⟩
        · refine ⟨x4, acc, l4, Nat.le_succ_of_le len4, ?_⟩
          rw [List.filter_append, List.filter_cons, if_neg (show ¬ decide ((u1, u2).2 ∈ fo) = true from e), List.filter_nil, List.append_nil]
          exact r4
      · intro H4 ⟨x4, acc, l4, _, r4⟩
        exact q D H4 (x1.trans (x23.trans x4)) ⟨acc, l4, r4⟩
theorem ok_refused (Fn : FnP K "_law_refused" s__law_refused f fd) (FA : FnOk P w K mg base (L2.CX P w) 6 fA fdA ["house", "fact"] (spAgainst K C CF)) (gA : mg "against" = some (.ref fA)) (kA : PySem.W.keepIn K (.ref fA) = true) (bA : Binds K fdA ["house", "fact"] [])
    (gF : mg "BadFact" = some (.ref CF)) (xF : XfC K CF) (nF : PySem.W.findIn K (.ref CF) "index" = some none) (eF : PySem.W.exmOne K (.ref CF) (.ref CF) = some true) (gB_isinstance : mg "isinstance" = none) (gB_bool : mg "bool" = none) :
    FnOk P w K mg base CX0 7 f fd ["_law_house_here", "_law_odd"] (spRefused K C) := by
  refine Fn.ok sc__law_refused (fun vs H Q E h => ?_) (fun cdv A outer s H vs Q E hr h => ⟨_, PSs.nox
    (pss_cons (ps_try_as (i := 2) (tb := fun W => tDrop (tCallS (spAgainst K C CF) (WE W) (tCons (tVar 0) (tCons (tVar 1) tNil)))) (ts := fun a cls d => tRet (tAndV (tOp rEq (tXf a cls d CF "index" (tVar 2)) (tC (.int 0))) (tNotV (tCB (rIsi K) (tCons (tXf a cls d CF "index" (tVar 2)) (tCons (tC (.ty "bool")) tNil)))))) (Wout := fun _ _ _ _ => False) rfl rfl sc__law_refused.nd rfl rfl ⟨rfl, by decide, .inl gF⟩ takes0
      (fun W pn xe tk _ => pss_one (ps_expr (by exact (pe_callS FA hr (by rfl) gA kA bA (fun σ => passAt tk σ) (by exact (pa_cons (pv 0) (pa_cons (pv 1) pa_nil)))))))
      (fun a oe cls d pn hz hf => pss_one (ps_ret (by exact (pe_and (pe_cmpR op_eq (pe_xf xF nF hz hf (pv 2)) pe_int (nomark _)) (pe_one (pe_not (pe_callB (caK (r := rIsi) (K := K) rfl call_isi) (by rfl) gB_isinstance boot_isinstance (pa_cons (pe_xf xF nF hz hf (pv 2)) (pa_cons (pe_bltn (v := .ty "bool") (by rfl) gB_bool boot_bool rfl) pa_nil))))))))))
    (pss_one (ps_ret pe_bl))), ?_⟩)
  · obtain ⟨h, x, fo, th, rfl, _⟩ := h
    rfl
  · obtain ⟨h, x, fo, th, rfl, hou, nd, hz, hx, q⟩ := h
    refine ⟨_, rfl, _, rfl, h, x, fo, th, rfl, hou, nd, hz, .inl ⟨hx, fun d H' x' _ hd => ?_⟩⟩
    · refine ⟨true, eF, fun _ a0 _ => ⟨_, rfl, rfl, rfl, d, _, _, rfl, hd, rfl, rfl, _, rfl, ?_⟩, fun q => nomatch q⟩
      refine ite2 (fun _ => ?_) fun c => absurd (by decide) c
      refine ⟨_, rfl, rfl, rfl, d, _, _, rfl, hd, rfl, .int 0, .ty "bool", .type "int", .type "bool", false, rfl, .ty _, .base (.int 0), kit_ty (by decide +kernel), _, rfl, ?_⟩
      exact q H' x'
end
end My

namespace My
open PySem PySem.Spec PyProof.Rows L2
/-! ### a fact holds just if what is against it does not -/
theorem holds_not (d : Dic) (a b : Str) : holdsB d "not" a b = !liesB d a b := by
  unfold holdsB
  rw [if_neg (by decide), if_pos rfl]
theorem ag_all {fo th : List Str} {d : Dic} {w a b : Str} (ok : DicOk fo d) (nd : (fo ++ th).Nodup) (h : IsF fo th w a b) : (agF fo th w a b).all (holdsR d) = !holdsB d w a b := by
  by_cases e1 : w = "below"
  · subst e1
    rw [agF_other (by decide)]
    show (holdsB d "not" a b && true) = !holdsB d "below" a b
    rw [holds_not, Bool.and_true]
    rfl
  by_cases e2 : w = "not"
  · subst e2
    rw [agF_other (by decide), holds_not, Bool.not_not]
    show (holdsB d "below" a b && true) = liesB d a b
    rw [Bool.and_true]
    rfl
  obtain rfl : w = "line" := by
    have z := h.1
    unfold wordsS at z
    simp at z
    rcases z with z | z | z
    · exact absurd z e1
    · exact absurd z e2
    · exact z
  obtain ⟨c, e, ho, hh⟩ := ord_two nd h.2.1 h.2.2.1 h.2.2.2.1
  rw [agF_line ho]
  have one : ∀ x y : Str, ((([(x, y)] : List (Str × Str)).filter fun p => decide (p.2 ∈ fo)).map fun p => [("not" : Str), p.1, p.2]).all (holdsR d) = !liesB d x y := fun x y => by
    by_cases m : y ∈ fo
    · rw [List.filter_cons, if_pos (decide_eq_true m)]
      show (holdsB d "not" x y && true) = _
      rw [holds_not, Bool.and_true]
    · rw [List.filter_cons, if_neg (show ¬ decide ((x, y).2 ∈ fo) = true from fun z => m (of_decide_eq_true z))]
      have : liesB d x y = false := lies_no ok m 9 _ (getD_opt ok x)
      rw [this]
      rfl
  have two : ((([(c, e), (e, c)] : List (Str × Str)).filter fun p => decide (p.2 ∈ fo)).map fun p => [("not" : Str), p.1, p.2]).all (holdsR d) = (!liesB d c e && !liesB d e c) := by
    rw [← one c e, ← one e c, ← List.all_append, ← List.map_append, ← List.filter_append]
    rfl
  rw [two]
  have hb : holdsB d "line" a b = (liesB d a b || liesB d b a) := by
    unfold holdsB
    rw [if_neg (by decide), if_neg (by decide)]
  rw [hb]
  rcases hh with ⟨rfl, rfl⟩ | ⟨rfl, rfl⟩
  · cases liesB d c e <;> cases liesB d e c <;> rfl
  · cases liesB d c e <;> cases liesB d e c <;> rfl
theorem ag_three {fo th : List Str} {w a b : Str} (nd : (fo ++ th).Nodup) (h : IsF fo th w a b) : ∀ r, r ∈ agF fo th w a b → ∃ w2 a2 b2, r = [w2, a2, b2] ∧ w2 ∈ wordsS ∧ a2 ∈ fo ++ th ∧ b2 ∈ fo ++ th := fun r hr => by
  obtain ⟨c, d, et, hcd⟩ := told_three nd h
  have hc : c ∈ fo ++ th := by
    rcases hcd with ⟨rfl, rfl⟩ | ⟨_, rfl, rfl⟩
    · exact h.2.1
    · exact h.2.2.1
  have hd : d ∈ fo ++ th := by
    rcases hcd with ⟨rfl, rfl⟩ | ⟨_, rfl, rfl⟩
    · exact h.2.2.1
    · exact h.2.1
  unfold agF at hr
  rw [et] at hr
  have hr : r ∈ agS fo w c d := hr
  unfold agS at hr
  split at hr
  · rw [List.mem_singleton.mp hr]
    exact ⟨_, _, _, rfl, by decide, hc, hd⟩
  · split at hr
    · rw [List.mem_singleton.mp hr]
      exact ⟨_, _, _, rfl, by decide, hc, hd⟩
    · obtain ⟨p, hp, rfl⟩ := List.mem_map.mp hr
      have hp := (List.mem_filter.mp hp).1
      rcases List.mem_cons.mp hp with rfl | hp
      · exact ⟨_, _, _, rfl, by decide, hc, hd⟩
      · rw [List.mem_singleton.mp hp]
        exact ⟨_, _, _, rfl, by decide, hd, hc⟩
theorem ag_len {fo th : List Str} {w a b : Str} (nd : (fo ++ th).Nodup) (h : IsF fo th w a b) : (agF fo th w a b).length ≤ 2 := by
  obtain ⟨c, d, et, _⟩ := told_three nd h
  unfold agF
  rw [et]
  show (agS fo w c d).length ≤ 2
  unfold agS
  split
  · exact Nat.le_of_ble_eq_true rfl
  · split
    · exact Nat.le_of_ble_eq_true rfl
    · rw [List.length_map]
      exact Nat.le_trans (List.length_filter_le _ _) (Nat.le_of_ble_eq_true rfl)
theorem sqT_butL {K : PySem.W.Frag} {H H' : Hp} {p t : Addr} {ys xs : List V} (hp : H p = some (.lst ys)) (b : But H H' p) (h : SqT K H t xs) : SqT K H' t xs := by
  rcases h with (h | ⟨o, h⟩) | h
  · exact .inl (.inl (b _ _ (ne_of h hp (fun z => nomatch z)) h))
  · exact .inl (.inr ⟨o, b _ _ (ne_of h hp (fun z => nomatch z)) h⟩)
  · exact .inr h
theorem Rows.butL {K : PySem.W.Frag} {H H' : Hp} {p : Addr} {ys : List V} (hp : H p = some (.lst ys)) (b : But H H' p) : ∀ {xs : List V} {rs : List (List Str)}, Rows K H xs rs → Rows K H' xs rs
  | [], [], _ => True.intro
  | _ :: _, _ :: _, ⟨⟨t, e1, h⟩, hr⟩ => ⟨⟨t, e1, sqT_butL hp b h⟩, Rows.butL hp b hr⟩
  | [], _ :: _, h => h.elim
  | _ :: _, [], h => h.elim
theorem TreesX.butL {fo : List Str} {n : Nat} {H H' : Hp} {p : Addr} {ys xs : List V} (hp : H p = some (.lst ys)) (b : But H H' p) (h : TreesX fo n H xs) : TreesX fo n H' xs := fun x hx => by
  obtain ⟨a, d, h1, h2, h3⟩ := h x hx
  exact ⟨a, d, h1, b _ _ (ne_of h2 hp (fun z => nomatch z)) h2, h3⟩
theorem hou_butL {H H' : Hp} {K : PySem.W.Frag} {C h p : Addr} {fo th : List Str} {ys : List V} (hp : H p = some (.lst ys)) (b : But H H' p) (hh : Hou H K C h fo th) : Hou H' K C h fo th := by
  obtain ⟨⟨dx, fs, f, t, n, h1, h2, h3, h4, h5, h6, h7⟩, k⟩ := hh
  exact ⟨⟨dx, fs, f, t, n, b _ _ (ne_of h1 hp (fun z => nomatch z)) h1, h2, h3, h4, sqT_butL hp b h5, sqT_butL hp b h6, sqT_butL hp b h7⟩, k⟩
theorem Pool.lst {H : Hp} {p : Addr} {n : Int} (h : Pool H p n) : ∃ ys, H p = some (.lst ys) := by
  obtain ⟨g, m, c, h, _⟩ := h
  exact ⟨_, h⟩
theorem ext_but' {H H1 H2 : Hp} {p : Addr} (x : Ext H H1) (h : H p = none) (b : But H1 H2 p) : Ext H H2 := fun a u e => b a u (ne_of_none e h) (x a u e)
theorem cutV_takeA {xs : List V} {k : Nat} : cutV xs none (some ((k : Nat) : Int)) = xs.take k := by
  unfold cutV
  rw [HT.sIx_none, HT.sIx_nat, Nat.sub_zero, List.drop_zero]
  rcases Nat.le_total k xs.length with h | h
  · rw [Nat.min_eq_left h]
  · rw [Nat.min_eq_right h, List.take_of_length_le (Nat.le_refl _), List.take_of_length_le h]
/-! ### what is no fact -/
theorem no_kit {K : PySem.W.Frag} {H : Hp} {fo th : List Str} {x : V} {a : String} (h : TyX K H x (.type a)) (h1 : kitB a "list" = some false) (h2 : kitB a "tuple" = some false) : FactOf K H fo th x false := .inl ⟨rfl, _, h, kit_no h1 h2⟩
theorem no_len {K : PySem.W.Frag} {H : Hp} {fo th : List Str} {a : Addr} {xs : List V} (h : SeqAt2 K H a xs) (n : xs.length ≠ 3) : FactOf K H fo th (.ref a) false := .inr (.inl ⟨rfl, a, xs, rfl, h, n⟩)
theorem no_fact {K : PySem.W.Frag} {H : Hp} {fo th : List Str} {a : Addr} {w o p : V} (h : SeqAt2 K H a [w, o, p]) (h1 : Itm K H w) (h2 : Itm K H o) (h3 : Itm K H p) (e : factB fo th w o p = false) : FactOf K H fo th (.ref a) false := .inr (.inr ⟨a, w, o, p, rfl, h, h1, h2, h3, e.symm⟩)
theorem fb_w {fo th : List Str} {w o p : V} (h : inV w (wordsS.map V.str) = false) : factB fo th w o p = false := by
  unfold factB
  rw [h, Bool.false_and]
theorem fb_o {fo th : List Str} {w o p : V} (h : inV o ((fo ++ th).map V.str) = false) : factB fo th w o p = false := by
  unfold factB
  rw [h, Bool.false_and, Bool.and_false]
theorem fb_p {fo th : List Str} {w o p : V} (h : inV p ((fo ++ th).map V.str) = false) : factB fo th w o p = false := by
  unfold factB
  rw [h, Bool.false_and, Bool.and_false, Bool.and_false]
theorem fb_eq {fo th : List Str} {w o : V} : factB fo th w o o = false := by
  unfold factB
  rw [decide_eq_true (rfl : o = o)]
  simp
theorem fb_fo {fo th : List Str} {w o p : V} (hw : w ≠ .str "line") (h : inV p (fo.map V.str) = false) : factB fo th w o p = false := by
  unfold factB
  rw [h, decide_eq_false hw]
  simp
theorem inV_not {z : Str} {zs : List Str} (h : z ∉ zs) : inV (.str z) (zs.map V.str) = false := by
  rw [inV_str]
  exact decide_eq_false h
theorem inV_non (zs : List Str) : inV .non (zs.map V.str) = false := inV_no (fun _ => rfl) zs
def spLaw (K : PySem.W.Frag) : Sp := fun vs H Q _ => ∃ (a : Addr) (ns : List Int), vs = [.ref a] ∧ SqL K H a (ns.map V.int) ∧ ∀ H', Q (.bl true) H'
abbrev nm_law : List Str := ["_law_script", "_law_turn", "_law_pool_here", "_law_parts", "_law_house_here", "_law_trees", "_law_fact", "_law_found", "_law_over", "_law_a", "_law_odds", "_law_odd", "_law_thing"]
theorem sc_law : FnScope nm_law ["_law_script"] (defScope s_law) := ⟨rfl, rfl, rfl, by decide +kernel, rfl, by decide +kernel, by decide +kernel⟩
section
variable {P : Program} {w : World} {K : PySem.W.Frag} {mg : Str → Option Value} {base : Heap} {f fA C CB CF : Addr} {fd fdA : FuncData}
theorem ok_law (Fn : FnP K "law" s_law f fd) (Z : HouseTxt P w K mg C CB) (FA : FnOk P w K mg base (L2.CX P w) 6 fA fdA ["house", "fact"] (spAgainst K C CF)) (gA : mg "against" = some (.ref fA)) (kA : PySem.W.keepIn K (.ref fA) = true) (bA : Binds K fdA ["house", "fact"] [])
    (h_law_cell : Has P w K mg base 1 "_law_cell" ["_law_script", "_law_k"] (spCell1 K)) (h_law_pool : Has P w K mg base 1 "_law_pool" ["_law_cell_here"] spPool) (h_law_take : Has P w K mg base 1 "_law_take" ["_law_pool_here", "_law_many"] spTake)
    (h_law_plan : Has P w K mg base 3 "_law_plan" ["_law_pool_here", "_law_folders", "_law_things"] (spPlan K)) (h_law_house : Has P w K mg base 6 "_law_house" ["_law_parts"] (spLawHouse K C)) (h_law_all_trees : Has P w K mg base 2 "_law_all_trees" ["_law_parts"] (spTrees K))
    (h_law_all_facts : Has P w K mg base 1 "_law_all_facts" ["_law_parts"] (spFacts K)) (h_law_due : Has P w K mg base 1 "_law_due" ["_law_parts", "_law_fact"] (spDue K)) (h_law_keeps : Has P w K mg base 3 "_law_keeps" ["_law_over", "_law_told"] (spKeeps K))
    (h_law_holds : Has P w K mg base 2 "_law_holds" ["_law_over", "_law_fact"] (spHolds K)) (h_law_refused : Has P w K mg base 7 "_law_refused" ["_law_house_here", "_law_odd"] (spRefused K C))
    (gB_range : mg "range" = none) (gB_len : mg "len" = none) (gB_list : mg "list" = none) (gB_isinstance : mg "isinstance" = none) : FnOk P w K mg base CX0 8 f fd ["_law_script"] (spLaw K) := by
  refine Fn.ok sc_law (fun vs H Q E h => ?_) (fun cdv A outer s H vs Q E hr h => ⟨_, PSs.nox
    (pss_cons (ps_for PassesOwn.never rfl (pi_range1 (by rfl) gB_range (pa_cons pe_int pa_nil)) (pg_name (i := 1) sc_law.nd rfl (Or.inl rfl))
      (pss_cons (ps_set (i := 2) sc_law.nd rfl (Or.inl rfl) (pe_has h_law_pool (hr.mono (by decide)) (pa_cons (pe_op op_add (pe_has h_law_cell (hr.mono (by decide)) (pa_cons (pv 0) (pa_cons (pv 1) pa_nil))) (pv 1)) pa_nil)))
      (pss_cons (ps_set (i := 3) sc_law.nd rfl (Or.inl rfl) (pe_has h_law_plan (hr.mono (by decide)) (pa_cons (pv 2) (pa_cons pe_int (pa_cons pe_int pa_nil)))))
      (pss_cons (ps_set (i := 3) sc_law.nd rfl (Or.inl rfl) (pe_tup (pa_cons (pe_ix ix_tup (pv 3) pe_int (fun _ _ => rfl)) (pa_cons (pe_slice sl_list (pe_ix ix_tup (pv 3) pe_int (fun _ _ => rfl)) po_none (po_some (pe_op op_sub pe_int (pe_callB call_len (by rfl) gB_len boot_len (pa_cons (pe_ix ix_tup (pv 3) pe_int (fun _ _ => rfl)) pa_nil))))) pa_nil))))
      (pss_cons (ps_par (i := 4) (j := 5) rfl sc_law.nd rfl rfl (by decide) rfl rfl (pa_cons (pe_has h_law_house (hr.mono (by decide)) (pa_cons (pv 3) pa_nil)) (pa_cons (pe_has h_law_all_trees (hr.mono (by decide)) (pa_cons (pv 3) pa_nil)) pa_nil)) (by rfl))
      (pss_cons (ps_for PassesOwn.never rfl (pi_list (pe_has h_law_all_facts (hr.mono (by decide)) (pa_cons (pv 3) pa_nil))) (pg_name (i := 6) sc_law.nd rfl (Or.inl rfl))
      (pss_cons (ps_set (i := 7) sc_law.nd rfl (Or.inl rfl) (pe_call FA (hr.mono (by decide)) (by rfl) gA kA bA .nil passL (pa_cons (pv 4) (pa_cons (pe_ix ix_list (pe_lst (pa_cons (pv 6) (pa_cons (pe_callTy call_lstS (by rfl) gB_list (by decide +kernel) (pa_cons (pv 6) pa_nil)) pa_nil))) (pe_has h_law_take (hr.mono (by decide)) (pa_cons (pv 2) (pa_cons pe_int pa_nil))) (fun _ _ => rfl)) pa_nil))))
      (pss_cons (ps_if (PW.pt (pw_or (pt_cmpR (op_neD hr.units) (pv 7) (pe_has h_law_due (hr.mono (by decide)) (pa_cons (pv 3) (pa_cons (pv 6) pa_nil))) (nomark _)) (pw_or1 (pt_not (pt_val (pe_callB call_isi (by rfl) gB_isinstance boot_isinstance (pa_cons (pv 7) (pa_cons (pe_bltn (v := .ty "list") (by rfl) gB_list boot_list rfl) pa_nil)))))))) (pss_one (ps_ret pe_bl)) pss_nil)
      (pss_one (ps_for PassesOwn.never rfl (pi_list (pv 5)) (pg_name (i := 8) sc_law.nd rfl (Or.inl rfl))
      (pss_one (ps_if (pt_cmpR op_eq (pe_has h_law_keeps (hr.mono (by decide)) (pa_cons (pv 8) (pa_cons (pv 7) pa_nil))) (pe_has h_law_holds (hr.mono (by decide)) (pa_cons (pv 8) (pa_cons (pv 6) pa_nil))) (nomark _)) (pss_one (ps_ret pe_bl)) pss_nil)))))))
      (pss_cons (ps_set (i := 9) sc_law.nd rfl (Or.inr rfl) (pe_ix ix_list (pe_ix ix_tup (pv 3) pe_int (fun _ _ => rfl)) pe_int (fun _ _ => rfl)))
      (pss_cons (ps_set (i := 10) sc_law.nd rfl (Or.inl rfl) (pe_lst (pa_cons pe_non (pa_cons pe_int (pa_cons pe_str (pa_cons (pe_tup pa_nil) (pa_cons (pe_tup (pa_cons pe_str (pa_cons (pv 9) (pa_cons (pv 9) pa_nil)))) (pa_cons (pe_tup (pa_cons pe_str (pa_cons (pv 9) pa_nil))) (pa_cons (pe_tup (pa_cons pe_str (pa_cons (pv 9) (pa_cons (pv 9) pa_nil)))) (pa_cons (pe_tup (pa_cons pe_str (pa_cons (pv 9) (pa_cons pe_str pa_nil)))) (pa_cons pe_dnewK pa_nil)))))))))))
      (pss_cons (ps_set (i := 10) sc_law.nd rfl (Or.inl rfl) (pe_op L2.op_cat (pv 10) (pe_lst (pa_cons (pe_tup (pa_cons pe_str (pa_cons pe_str (pa_cons (pv 9) pa_nil)))) (pa_cons (pe_tup (pa_cons pe_str (pa_cons (pe_lst pa_nil) (pa_cons (pv 9) pa_nil)))) (pa_cons (pe_tup (pa_cons pe_str (pa_cons (pv 9) (pa_cons pe_non pa_nil)))) (pa_cons (pe_lst (pa_cons (pe_lst (pa_cons pe_str pa_nil)) (pa_cons (pv 9) (pa_cons (pv 9) pa_nil)))) (pa_cons pe_bl pa_nil))))))))
      (pss_cons (ps_set (i := 10) sc_law.nd rfl (Or.inl rfl) (pe_op L2.op_cat (pe_op L2.op_cat (pv 10) (pe_lc (own := [("_law_thing", 12)]) (g := (gName 12)) (tt := tYes) rfl sc_law.nd (pi_list (pe_ix ix_tup (pv 3) pe_int (fun _ _ => rfl))) (blkOk_by (N := nm_law) (sc := defScope s_law) (by decide +kernel)) (fun _ _ _ _ _ => (pg_name (i := 12) sc_law.nd rfl (Or.inl rfl))) (fun _ _ _ _ _ => pts_nil) (fun _ _ _ _ _ => (pe_tup (pa_cons pe_str (pa_cons (pv 9) (pa_cons (pv 12) pa_nil))))))) (pe_lc (own := [("_law_thing", 12)]) (g := (gName 12)) (tt := tYes) rfl sc_law.nd (pi_list (pe_ix ix_tup (pv 3) pe_int (fun _ _ => rfl))) (blkOk_by (N := nm_law) (sc := defScope s_law) (by decide +kernel)) (fun _ _ _ _ _ => (pg_name (i := 12) sc_law.nd rfl (Or.inl rfl))) (fun _ _ _ _ _ => pts_nil) (fun _ _ _ _ _ => (pe_tup (pa_cons pe_str (pa_cons (pv 9) (pa_cons (pv 12) pa_nil))))))))
      (pss_one (ps_for PassesOwn.never rfl (pi_list (pv 10)) (pg_name (i := 11) sc_law.nd rfl (Or.inl rfl))
      (pss_one (ps_if (pt_not (pt_val (pe_has h_law_refused (hr.mono (by decide)) (pa_cons (pv 4) (pa_cons (pv 11) pa_nil))))) (pss_one (ps_ret pe_bl)) pss_nil))))))))))))))
      (pss_one (ps_ret pe_bl))), ?_⟩)
  · obtain ⟨a, ns, rfl, _⟩ := h
    rfl
  · obtain ⟨as, ns, rfl, hsc, q⟩ := h
    have lm : ∀ zs : List Str, (zs.map V.str).length = zs.length := fun zs => List.length_map _
    refine ⟨2, rfl, by decide, by decide, for_range (lo := 0) (n := 2) (fun _ σ H' => ∃ v1 v2 v3 v4 v5 v6 v7 v8 v9 v10 v11 v12 : Option V, σ = [some (.ref as), v1, v2, v3, v4, v5, v6, v7, v8, v9, v10, v11, v12] ∧ Ext H H') ⟨none, none, none, none, none, none, none, none, none, none, none, none, rfl, Ext.rfl'⟩ ?_ fun σ H' _ => q H'⟩
    rintro k σ H0 hk ⟨v1, v2, v3, v4, v5, v6, v7, v8, v9, v10, v11, v12, rfl, x0⟩
    refine ⟨_, rfl, _, rfl, as, ns, k, by rw [Int.zero_add]; rfl, hsc.ext x0, fun i0 => ⟨_, rfl, _, _, rfl, rfl, _, rfl, fun p H1 hp hH1 => ?_⟩⟩
    obtain ⟨pa, pb, pa0, pb0, pb1, rfl⟩ := hH1
    obtain ⟨H1, hH1⟩ : ∃ H1, H1 = L2.upd H0 p (.lst [.int pa, .int pb, .int 0]) := ⟨_, rfl⟩
    rw [← hH1]
    have pool1 : Pool H1 p 0 := ⟨pa, pb, 0, by rw [hH1, upd_same], pa0, pb0, pb1, Int.le_refl _, Int.le_refl _⟩
    have x1 : Ext H0 H1 := by
      rw [hH1]
      exact Ext.upd hp
    have Hp0 : H p = none := ext_none x0 hp
    refine ⟨_, rfl, p, 0, rfl, pool1, by decide, fun t lf lt fo th H2 b2 p2 st hf ht nlf nlt nst f1 f3 t2 => ?_⟩
    have x2 : Ext H H2 := ext_but' (x0.trans x1) Hp0 b2
    refine ⟨_, rfl, t, _, _, _, rfl, rfl, st, rfl, _, rfl, t, _, _, _, rfl, rfl, st, rfl, _, rfl, t, _, _, _, rfl, rfl, st, rfl, _, _, rfl, .inl ⟨_, SqL.of hf, rfl⟩, _, _, rfl, rfl, _, rfl, lt, _, rfl, SqL.of ht, fun u hu => ⟨Nat.le_of_ble_eq_true rfl, fun t' ht' => ?_⟩⟩
    have e4 : (4 : Int) - (((fo.map V.str).length : Nat) : Int) = ((4 - fo.length : Nat) : Int) := by rw [lm]; omega
    have e4' : cutV (th.map V.str) none (some ((4 : Int) - (((fo.map V.str).length : Nat) : Int))) = (th.take (4 - fo.length)).map V.str := by rw [e4, cutV_takeA, List.map_take]
    obtain ⟨th', hth'⟩ : ∃ th', th' = th.take (4 - fo.length) := ⟨_, rfl⟩
    rw [← hth'] at e4'
    rw [e4'] at ht' ⊢
    have nst' : Nst (fo ++ th') := by
      have sb : (fo ++ th').Sublist (fo ++ th) := List.Sublist.append_left (by rw [hth']; exact List.take_sublist _ _) fo
      exact ⟨nst.1.sublist sb, fun z hz => nst.2 z (sb.subset hz)⟩
    have n4 : (fo ++ th').length ≤ 4 := by
      rw [List.length_append, hth', List.length_take]
      omega
    have nd := nst'.1
    obtain ⟨H3, hH3⟩ : ∃ H3, H3 = upd (upd H2 u (.lst (th'.map V.str))) t' (.tup [.ref lf, .ref u]) := ⟨_, rfl⟩
    rw [← hH3]
    have y3 : Ext H2 H3 := by
      rw [hH3]
      exact (Ext.upd hu).trans (Ext.upd ht')
    have st3 : SqT K H3 t' [.ref lf, .ref u] := by
      rw [hH3]
      exact SqT.of upd_same
    have hu3 : H3 u = some (.lst (th'.map V.str)) := by
      rw [hH3]
      exact Ext.upd ht' _ _ upd_same
    have nup : u ≠ p := pool_ne p2 hu
    have p3 := pool_ext p2 y3
    have hf3 := y3 _ _ hf
    refine ⟨_, rfl, t', fo, th', rfl, ⟨lf, u, st3, hf3, hu3⟩, nst'.ok, (fun e => by subst e; exact absurd f1 (by decide)), by omega, fun h H4 x4 hou4 => ⟨_, rfl, t', fo, th', rfl, PartsAt.ext ⟨lf, u, st3, hf3, hu3⟩ x4, f3, by omega, fun tl txs tn H5 x5 tl0 l5 tr5 => ⟨_, _, rfl, ?_⟩⟩⟩
    have y5 : Ext H3 H5 := x4.trans x5
    have p5 := pool_ext p3 y5
    have ntl : tl ≠ p := pool_ne (pool_ext p3 x4) tl0
    refine ⟨_, rfl, t', fo, th', rfl, PartsAt.ext ⟨lf, u, st3, hf3, hu3⟩ y5, by omega, fun fl rs H6 x6 fl0 rlen rows6 fr6 => ?_⟩
    have nfl : fl ≠ p := pool_ne p5 fl0
    obtain ⟨fxs, hfl6, rw6⟩ := rows6
    have p6 := pool_ext p5 x6
    have st6 : SqT K H6 t' [.ref lf, .ref u] := (st3.ext y5).ext x6
    have hf6 := x6 _ _ (y5 _ _ hf3)
    have hu6 := x6 _ _ (y5 _ _ hu3)
    have hou6 := (hou4.ext x5).ext x6
    have l6 := x6 _ _ l5
    have tr6 := tr5.ext x6
    have x06 : Ext H H6 := x2.trans (y3.trans (y5.trans x6))
    have zok : ∀ z, z ∈ fo ++ th' → PyData.strOk z = true := fun z hz => (nst'.ok.2 z hz).2.1
    refine ⟨fl, rfl, ⟨_, SqL.of hfl6⟩, for_list (K := K) (a := fl) (xs := fxs) (fun i σ H' => But H6 H' p ∧ Pool H' p (1000 + i) ∧ ∃ v6 v7 v8 : Option V, σ = [some (.ref as), some (.int (0 + (k : Int))), some (.ref p), some (.ref t'), some (.ref h), some (.ref tl), v6, v7, v8, v9, v10, v11, v12]) ?_ ?_ ?_ ?_⟩
    · exact ⟨ext_but Ext.rfl', pool_mono p6 (by decide), v6, v7, v8, rfl⟩
    · rintro i σ H' _ ⟨b', _⟩
      exact SqL.of (b' _ _ nfl hfl6)
    · rintro i v σ H7 hv ⟨b7, p7, v6, v7, v8, rfl⟩
      have ilen : i < rs.length := by
        rw [← rw6.len]
        exact (List.getElem?_eq_some_iff.mp hv).1
      obtain ⟨y6, hp6⟩ := p6.lst
      obtain ⟨y7, hp7⟩ := p7.lst
      obtain ⟨ft, r, rfl, sqf, hr⟩ := (rw6.butL hp6 b7).at_ hv
      obtain ⟨wd, a, b, rfl, isf⟩ := fr6 r (List.mem_of_getElem? hr)
      refine ⟨_, rfl, _, rfl, _, rfl, ft, _, rfl, .inr sqf, fun c hc => ⟨Nat.le_of_ble_eq_true rfl, fun dl hdl => ?_⟩⟩
      obtain ⟨H8, hH8⟩ : ∃ H8, H8 = upd (upd H7 c (.lst ([wd, a, b].map V.str))) dl (.lst [.ref ft, .ref c]) := ⟨_, rfl⟩
      rw [← hH8]
      have x8 : Ext H7 H8 := by
        rw [hH8]
        exact (Ext.upd hc).trans (Ext.upd hdl)
      have ncp : c ≠ p := pool_ne p7 hc
      have p8 := pool_ext p7 x8
      have ndp : dl ≠ p := pool_ne (pool_ext p7 (Ext.upd hc)) hdl
      have dl8 : H8 dl = some (.lst [.ref ft, .ref c]) := by rw [hH8, upd_same]
      have c8 : H8 c = some (.lst [.str wd, .str a, .str b]) := by
        rw [hH8]
        exact Ext.upd hdl _ _ upd_same
      refine ⟨_, rfl, p, 2, _, rfl, by decide, by decide, p8, by omega, fun r0 o r00 r01 gp => ?_⟩
      obtain ⟨H9, hH9⟩ : ∃ H9, H9 = upd H8 p o := ⟨_, rfl⟩
      rw [← hH9] at gp ⊢
      obtain ⟨y8, hp8⟩ := p8.lst
      have b89 : But H8 H9 p := by
        rw [hH9]
        exact But.upd (ext_but Ext.rfl')
      have b69 : But H6 H9 p := (b7.trans (ext_but x8)).trans b89
      have sqf9 := sqT_butL hp8 b89 (sqf.ext x8)
      have c9 := b89 _ _ ncp c8
      obtain ⟨x, hx, rr, rfl, sq9⟩ : ∃ x, atI [V.ref ft, V.ref c] r0 = some x ∧ ∃ rr, x = .ref rr ∧ SeqAt2 K H9 rr [.str wd, .str a, .str b] := by
        have h01 : r0 = 0 ∨ r0 = 1 := by omega
        rcases h01 with rfl | rfl
        · exact ⟨_, rfl, ft, rfl, .inr sqf9⟩
        · exact ⟨_, rfl, c, rfl, .inl (SqL.of c9)⟩
      have hou9 := hou_butL hp6 b69 hou6
      refine ⟨dl, _, _, _, rfl, rfl, SqL.of (b89 _ _ ndp dl8), hx, h, .ref rr, fo, th', rfl, hou9, nd, by rw [sizeLine_eq]; omega, .inr ⟨rr, wd, a, b, rfl, sq9, isf, fun gl H10 x10 gl0 rows10 => ?_⟩⟩
      obtain ⟨gxs, hgl, rw10⟩ := rows10
      have sqf10 := sqf9.ext x10
      have st10 := (sqT_butL hp6 b69 st6).ext x10
      have pt10 : PartsAt K H10 t' fo th' := ⟨lf, u, st10, x10 _ _ (b69 _ _ nlf hf6), x10 _ _ (b69 _ _ nup hu6)⟩
      refine ⟨_, rfl, _, rfl, _, rfl, t', ft, fo, th', wd, a, b, rfl, pt10, nd, by omega, isf, sqf10, fun ul H11 x11 rows11 => ?_⟩
      obtain ⟨uxs, hul, rw11⟩ := rows11
      have okr : OkR (agF fo th' wd a b) := fun r hr z hz => by
        obtain ⟨w2, a2, b2, rfl, hw, ha, hb⟩ := ag_three nd isf r hr
        simp at hz
        rcases hz with rfl | rfl | rfl
        · have hw' : ∀ z ∈ wordsS, PyData.strOk z = true := by decide +kernel
          exact hw' _ hw
        · exact zok _ ha
        · exact zok _ hb
      have g11 := x11 _ _ hgl
      have rw11' := rw10.ext x11
      refine ⟨rowsD (agF fo th' wd a b), rowsD (agF fo th' wd a b), .lst (SqL.of g11) (rows_dp rw11'), .lst (SqL.of hul) (rows_dp rw11), rows_shaped okr, rows_shaped okr, _, rfl, ?_⟩
      rw [eqv_rows, decide_eq_true rfl]
      refine ⟨_, rfl, .ref gl, .ty "list", .type "list", .type "list", true, rfl, .ty _, tyx_lst g11, kit_ty (by decide +kernel), true, rfl, ?_⟩
      have x911 : Ext H9 H11 := x10.trans x11
      have b611 : But H6 H11 p := b69.trans (ext_but x911)
      refine ⟨_, rfl, tl, rfl, ⟨_, SqL.of (b611 _ _ ntl l6)⟩, for_list (K := K) (a := tl) (xs := txs) (fun j σ H' => Ext H11 H' ∧ ∃ v8 : Option V, σ = [some (.ref as), some (.int (0 + (k : Int))), some (.ref p), some (.ref t'), some (.ref h), some (.ref tl), some (.ref ft), some (.ref gl), v8, v9, v10, v11, v12]) ?_ ?_ ?_ ?_⟩
      · exact ⟨Ext.rfl', v8, rfl⟩
      · rintro j σ H' _ ⟨x', _⟩
        exact SqL.of (x' _ _ (b611 _ _ ntl l6))
      · rintro j v σ H12 hv ⟨x12, v8, rfl⟩
        obtain ⟨da, d, rfl, hda, okd, _⟩ := ((tr6.butL hp6 b611).ext x12) v (List.mem_of_getElem? hv)
        refine ⟨_, rfl, _, rfl, da, gl, d, fo, _, rfl, hda, okd, ⟨gxs, x12 _ _ g11, rw11'.ext x12⟩, (fun r hr => by
          obtain ⟨w2, a2, b2, e, _⟩ := ag_three nd isf r hr
          exact ⟨w2, a2, b2, e⟩), okr, Nat.lt_of_le_of_lt (ag_len nd isf) (by decide), fun H13 x13 => ?_⟩
        refine ⟨_, rfl, _, rfl, da, ft, d, fo, wd, a, b, rfl, x13 _ _ hda, okd, ((sqf10.ext x11).ext x12).ext x13, rfl, _, rfl, ?_⟩
        rw [ag_all okd nd isf]
        refine ite2 (fun c => ?_) fun _ => ⟨x12.trans x13, _, rfl⟩
        exfalso
        have c' := of_decide_eq_true c
        injection c' with c'
        cases hh : holdsB d wd a b <;> rw [hh] at c' <;> cases c'
      · rintro σ H12 ⟨x12, v8, rfl⟩
        refine ⟨b611.trans (ext_but x12), ?_, _, _, _, rfl⟩
        have e : (1000 + (i : Int) + 1) = 1000 + ((i + 1 : Nat) : Int) := by omega
        rw [← e]
        exact pool_ext gp (x911.trans x12)
    · rintro σ H7 ⟨b7, p7, v6, v7, v8, rfl⟩
      obtain ⟨y6, hp6⟩ := p6.lst
      have st7 := sqT_butL hp6 b7 st6
      have hf7 := b7 _ _ nlf hf6
      have hu7 := b7 _ _ nup hu6
      have hou7 := hou_butL hp6 b7 hou6
      have x07 : Ext H H7 := ext_but' x06 Hp0 b7
      clear tr6 tr5 rw6 fr6 hfl6 l6 l5
      obtain ⟨a0, fo', rfl⟩ : ∃ a0 fo', fo = a0 :: fo' := by
        cases fo with
        | nil => exact absurd f1 (by decide)
        | cons a0 fo' => exact ⟨a0, fo', rfl⟩
      refine ⟨_, rfl, t', _, _, _, rfl, rfl, st7, rfl, lf, _, _, _, rfl, rfl, SqL.of hf7, atI_nat (j := 0) rfl, ?_⟩
      refine ⟨Nat.zero_le _, fun t1 h1 => ⟨_, rfl, _, rfl, Nat.le_of_ble_eq_true rfl, fun q2 h2 => ⟨_, rfl, Nat.le_of_ble_eq_true rfl, fun q3 h3 => ⟨_, rfl, _, rfl, Nat.le_of_ble_eq_true rfl, fun q4 h4 => ⟨_, rfl, Nat.le_of_ble_eq_true rfl, fun q5 h5 => fun q6 h6 => ⟨Nat.le_of_ble_eq_true rfl, fun o1 ho1 => ?_⟩⟩⟩⟩⟩⟩
      have z1 := Ext.upd (o := .tup []) h1
      have z2 := Ext.upd (o := .tup [.str "below", .str a0, .str a0]) h2
      have z3 := Ext.upd (o := .tup [.str "below", .str a0]) h3
      have z4 := Ext.upd (o := .tup [.str "Below", .str a0, .str a0]) h4
      have z5 := Ext.upd (o := .tup [.str "line", .str a0, .str "strange"]) h5
      have z6 := Ext.upd (o := .dK []) h6
      have z7 := Ext.upd (o := .lst [.non, .int 5, .str "below", .ref t1, .ref q2, .ref q3, .ref q4, .ref q5, .ref q6]) ho1
      have hn : a0 ∈ a0 :: fo' ++ th' := List.mem_append_left _ List.mem_cons_self
      have nostr : ("strange" : Str) ∉ a0 :: fo' ++ th' := fun m => absurd (nst'.2 _ m) (by decide +kernel)
      obtain ⟨HA, hHA⟩ : ∃ HA, HA = upd (upd (upd (upd (upd (upd (upd H7 t1 (.tup [])) q2 (.tup [.str "below", .str a0, .str a0])) q3 (.tup [.str "below", .str a0])) q4 (.tup [.str "Below", .str a0, .str a0])) q5 (.tup [.str "line", .str a0, .str "strange"])) q6 (.dK [])) o1 (.lst [.non, .int 5, .str "below", .ref t1, .ref q2, .ref q3, .ref q4, .ref q5, .ref q6]) := ⟨_, rfl⟩
      have xA : Ext H7 HA := by
        rw [hHA]
        exact z1.trans (z2.trans (z3.trans (z4.trans (z5.trans (z6.trans z7)))))
      have o1A : HA o1 = some (.lst [.non, .int 5, .str "below", .ref t1, .ref q2, .ref q3, .ref q4, .ref q5, .ref q6]) := by rw [hHA, upd_same]
      have s1 : HA t1 = some (.tup []) := by rw [hHA]; exact (z2.trans (z3.trans (z4.trans (z5.trans (z6.trans z7))))) _ _ upd_same
      have s2 : HA q2 = some (.tup [.str "below", .str a0, .str a0]) := by rw [hHA]; exact (z3.trans (z4.trans (z5.trans (z6.trans z7)))) _ _ upd_same
      have s3 : HA q3 = some (.tup [.str "below", .str a0]) := by rw [hHA]; exact (z4.trans (z5.trans (z6.trans z7))) _ _ upd_same
      have s4 : HA q4 = some (.tup [.str "Below", .str a0, .str a0]) := by rw [hHA]; exact (z5.trans (z6.trans z7)) _ _ upd_same
      have s5 : HA q5 = some (.tup [.str "line", .str a0, .str "strange"]) := by rw [hHA]; exact (z6.trans z7) _ _ upd_same
      have s6 : HA q6 = some (.dK []) := by rw [hHA]; exact z7 _ _ upd_same
      rw [← hHA]
      clear hHA z1 z2 z3 z4 z5 z6 z7
      have odd1 : ∀ x, x ∈ ([.non, .int 5, .str "below", .ref t1, .ref q2, .ref q3, .ref q4, .ref q5, .ref q6] : List V) → FactOf K HA (a0 :: fo') th' x false := fun x hx => by
        simp only [List.mem_cons, List.not_mem_nil, or_false] at hx
        rcases hx with rfl | rfl | rfl | rfl | rfl | rfl | rfl | rfl | rfl
        · exact no_kit (.base .non) (by decide +kernel) (by decide +kernel)
        · exact no_kit (.base (.int 5)) (by decide +kernel) (by decide +kernel)
        · exact no_kit (.base (.str _)) (by decide +kernel) (by decide +kernel)
        · exact no_len (.inr (SqT.of s1)) (by decide)
        · exact no_fact (.inr (SqT.of s2)) (.inl rfl) (.inl rfl) (.inl rfl) fb_eq
        · exact no_len (.inr (SqT.of s3)) (by show ¬ (2 = 3); decide)
        · exact no_fact (.inr (SqT.of s4)) (.inl rfl) (.inl rfl) (.inl rfl) fb_eq
        · exact no_fact (.inr (SqT.of s5)) (.inl rfl) (.inl rfl) (.inl rfl) (fb_p (inV_not nostr))
        · exact no_kit (.base (.dK s6)) (by decide +kernel) (by decide +kernel)
      -- the second list
      refine ⟨_, rfl, _, rfl, Nat.le_of_ble_eq_true rfl, fun r1 g1 => ⟨Nat.zero_le _, fun e1 ge1 => ⟨_, rfl, Nat.le_of_ble_eq_true rfl, fun r2 g2 => ⟨_, rfl, Nat.le_of_ble_eq_true rfl, fun r3 g3 => ⟨Nat.le_of_ble_eq_true rfl, fun e2 ge2 => ⟨_, rfl, _, rfl, Nat.le_of_ble_eq_true rfl, fun r4 g4 => ⟨Nat.le_of_ble_eq_true rfl, fun o2 ho2 => ?_⟩⟩⟩⟩⟩⟩⟩
      have w1 := Ext.upd (o := .tup [.str "not", .str "strange", .str a0]) g1
      have w2 := Ext.upd (o := .lst []) ge1
      have w3 := Ext.upd (o := .tup [.str "below", .ref e1, .str a0]) g2
      have w4 := Ext.upd (o := .tup [.str "line", .str a0, .non]) g3
      have w5 := Ext.upd (o := .lst [.str "below"]) ge2
      have w6 := Ext.upd (o := .lst [.ref e2, .str a0, .str a0]) g4
      have w7 := Ext.upd (o := .lst [.ref r1, .ref r2, .ref r3, .ref r4, .bl true]) ho2
      refine ⟨o1, o2, _, _, rfl, rfl, (w1.trans (w2.trans (w3.trans (w4.trans (w5.trans (w6.trans w7)))))) _ _ o1A, upd_same, Nat.le_of_ble_eq_true rfl, fun o3 ho3 => ?_⟩
      have w8 := Ext.upd (o := .lst ([.non, .int 5, .str "below", .ref t1, .ref q2, .ref q3, .ref q4, .ref q5, .ref q6] ++ [.ref r1, .ref r2, .ref r3, .ref r4, .bl true])) ho3
      obtain ⟨HB, hHB⟩ : ∃ HB, HB = upd (upd (upd (upd (upd (upd (upd (upd HA r1 (.tup [.str "not", .str "strange", .str a0])) e1 (.lst [])) r2 (.tup [.str "below", .ref e1, .str a0])) r3 (.tup [.str "line", .str a0, .non])) e2 (.lst [.str "below"])) r4 (.lst [.ref e2, .str a0, .str a0])) o2 (.lst [.ref r1, .ref r2, .ref r3, .ref r4, .bl true])) o3 (.lst ([.non, .int 5, .str "below", .ref t1, .ref q2, .ref q3, .ref q4, .ref q5, .ref q6] ++ [.ref r1, .ref r2, .ref r3, .ref r4, .bl true])) := ⟨_, rfl⟩
      have xAB : Ext HA HB := by
        rw [hHB]
        exact w1.trans (w2.trans (w3.trans (w4.trans (w5.trans (w6.trans (w7.trans w8))))))
      have o3B : HB o3 = some (.lst ([.non, .int 5, .str "below", .ref t1, .ref q2, .ref q3, .ref q4, .ref q5, .ref q6] ++ [.ref r1, .ref r2, .ref r3, .ref r4, .bl true])) := by rw [hHB, upd_same]
      have v1 : HB r1 = some (.tup [.str "not", .str "strange", .str a0]) := by rw [hHB]; exact (w2.trans (w3.trans (w4.trans (w5.trans (w6.trans (w7.trans w8)))))) _ _ upd_same
      have v2 : HB e1 = some (.lst []) := by rw [hHB]; exact (w3.trans (w4.trans (w5.trans (w6.trans (w7.trans w8))))) _ _ upd_same
      have v3 : HB r2 = some (.tup [.str "below", .ref e1, .str a0]) := by rw [hHB]; exact (w4.trans (w5.trans (w6.trans (w7.trans w8)))) _ _ upd_same
      have v4 : HB r3 = some (.tup [.str "line", .str a0, .non]) := by rw [hHB]; exact (w5.trans (w6.trans (w7.trans w8))) _ _ upd_same
      have v5 : HB e2 = some (.lst [.str "below"]) := by rw [hHB]; exact (w6.trans (w7.trans w8)) _ _ upd_same
      have v6' : HB r4 = some (.lst [.ref e2, .str a0, .str a0]) := by rw [hHB]; exact (w7.trans w8) _ _ upd_same
      rw [← hHB]
      clear hHB w1 w2 w3 w4 w5 w6 w7 w8
      have odd2 : ∀ x, x ∈ ([.non, .int 5, .str "below", .ref t1, .ref q2, .ref q3, .ref q4, .ref q5, .ref q6] ++ [.ref r1, .ref r2, .ref r3, .ref r4, .bl true] : List V) → FactOf K HB (a0 :: fo') th' x false := fun x hx => by
        rcases List.mem_append.mp hx with hx | hx
        · exact (odd1 x hx).ext xAB
        simp only [List.mem_cons, List.not_mem_nil, or_false] at hx
        rcases hx with rfl | rfl | rfl | rfl | rfl
        · exact no_fact (.inr (SqT.of v1)) (.inl rfl) (.inl rfl) (.inl rfl) (fb_o (inV_not nostr))
        · exact no_fact (.inr (SqT.of v3)) (.inl rfl) (.inr (.inl ⟨e1, [], rfl, .inl (SqL.of v2)⟩)) (.inl rfl) (fb_o (noText_inV (K := K) (H := HB) (.inl ⟨e1, [], rfl, .inl (SqL.of v2)⟩) _))
        · exact no_fact (.inr (SqT.of v4)) (.inl rfl) (.inl rfl) (.inl rfl) (fb_p (inV_non _))
        · exact no_fact (.inl (SqL.of v6')) (.inr (.inl ⟨e2, _, rfl, .inl (SqL.of v5)⟩)) (.inl rfl) (.inl rfl) fb_eq
        · exact no_kit (.base (.bl true)) (by decide +kernel) (by decide +kernel)
      have xB : Ext H7 HB := xA.trans xAB
      have lth : th'.length ≤ 3 := by
        rw [List.length_append] at n4
        simp at n4
        omega
      have nofo : ∀ z, z ∈ th' → z ∉ a0 :: fo' := fun z hz hf => by
        have := (List.nodup_append.mp nd).2.2 z hf z hz
        exact this rfl
      refine ⟨_, rfl, _, rfl, t', _, _, _, rfl, rfl, st7.ext xB, rfl, u, rfl, ⟨_, SqL.of (xB _ _ hu7)⟩, fun D hD => ?_⟩
      refine lc_list (K := K) (a := u) (xs := th'.map V.str) (fun i H' => Ext HB H' ∧ ∃ acc, H' D = some (.lst acc) ∧ acc.length ≤ i ∧ ∀ x, x ∈ acc → ∃ T z, x = .ref T ∧ z ∈ th' ∧ SqT K H' T [.str "below", .str a0, .str z]) ⟨Ext.upd hD, [], upd_same, Nat.zero_le _, fun x hx => by cases hx⟩ (fun i H' _ z => SqL.of (z.1 _ _ (xB _ _ hu7))) ?_ ?_
      · intro i v H8 hv ⟨x8, acc, l8, len8, a8⟩
        obtain ⟨z, hz, rfl⟩ := strs_at hv
        have i2 : i < th'.length := (List.getElem?_eq_some_iff.mp hz).1
        refine ⟨rfl, _, rfl, _, rfl, Nat.le_of_ble_eq_true rfl, fun T hT => ⟨acc, Ext.upd hT _ _ l8, by rw [List.length_append] at n4; rw [sizeLine_eq]; omega, (x8.upd' hT).over hD, _, upd_same, by rw [List.length_append]; exact Nat.succ_le_succ len8, fun x hx => ?_⟩⟩
        rcases List.mem_append.mp hx with hx | hx
        · obtain ⟨T2, z2, e1, e2, e3⟩ := a8 x hx
          exact ⟨T2, z2, e1, e2, sqT_upd (e3.ext (Ext.upd hT)) (Ext.upd hT _ _ l8)⟩
        · rw [List.mem_singleton.mp hx]
          exact ⟨T, z, rfl, List.mem_of_getElem? hz, sqT_upd (SqT.of upd_same) (Ext.upd hT _ _ l8)⟩
      · intro HC ⟨xC, accC, lC, lenC, aC⟩
        rw [lm] at lenC
        refine ⟨o3, D, _, _, rfl, rfl, xC _ _ o3B, lC, by rw [List.length_append, sizeLine_eq]; show 9 + 5 + accC.length ≤ _; omega, fun o4 ho4 => ?_⟩
        obtain ⟨odl, hodl⟩ : ∃ odl : List V, odl = ([.non, .int 5, .str "below", .ref t1, .ref q2, .ref q3, .ref q4, .ref q5, .ref q6] ++ [.ref r1, .ref r2, .ref r3, .ref r4, .bl true]) := ⟨_, rfl⟩
        have lodl : odl.length = 14 := by rw [hodl]; rfl
        rw [← hodl] at odd2 ⊢
        have x4' := Ext.upd (o := .lst (odl ++ accC)) ho4
        obtain ⟨HE, hHE⟩ : ∃ HE, HE = upd HC o4 (.lst (odl ++ accC)) := ⟨_, rfl⟩
        have xE : Ext HC HE := by
          rw [hHE]
          exact x4'
        have o4E : HE o4 = some (.lst (odl ++ accC)) := by rw [hHE, upd_same]
        rw [← hHE]
        have xBE : Ext HB HE := xC.trans xE
        have xBE7 : Ext H7 HE := xB.trans xBE
        refine ⟨_, rfl, t', _, _, _, rfl, rfl, st7.ext xBE7, rfl, u, rfl, ⟨_, SqL.of (xBE7 _ _ hu7)⟩, fun D2 hD2 => ?_⟩
        refine lc_list (K := K) (a := u) (xs := th'.map V.str) (fun i H' => Ext HE H' ∧ ∃ acc, H' D2 = some (.lst acc) ∧ acc.length ≤ i ∧ ∀ x, x ∈ acc → ∃ T z, x = .ref T ∧ z ∈ th' ∧ SqT K H' T [.str "not", .str a0, .str z]) ⟨Ext.upd hD2, [], upd_same, Nat.zero_le _, fun x hx => by cases hx⟩ (fun i H' _ z => SqL.of (z.1 _ _ (xBE7 _ _ hu7))) ?_ ?_
        · intro i v H8 hv ⟨x8, acc, l8, len8, a8⟩
          obtain ⟨z, hz, rfl⟩ := strs_at hv
          have i2 : i < th'.length := (List.getElem?_eq_some_iff.mp hz).1
          refine ⟨rfl, _, rfl, _, rfl, Nat.le_of_ble_eq_true rfl, fun T hT => ⟨acc, Ext.upd hT _ _ l8, by rw [List.length_append] at n4; rw [sizeLine_eq]; omega, (x8.upd' hT).over hD2, _, upd_same, by rw [List.length_append]; exact Nat.succ_le_succ len8, fun x hx => ?_⟩⟩
          rcases List.mem_append.mp hx with hx | hx
          · obtain ⟨T2, z2, e1, e2, e3⟩ := a8 x hx
            exact ⟨T2, z2, e1, e2, sqT_upd (e3.ext (Ext.upd hT)) (Ext.upd hT _ _ l8)⟩
          · rw [List.mem_singleton.mp hx]
            exact ⟨T, z, rfl, List.mem_of_getElem? hz, sqT_upd (SqT.of upd_same) (Ext.upd hT _ _ l8)⟩
        · intro HF ⟨xF, accF, lF, lenF, aF⟩
          rw [lm] at lenF
          refine ⟨o4, D2, _, _, rfl, rfl, xF _ _ o4E, lF, by rw [List.length_append, sizeLine_eq]; omega, fun o5 ho5 => ?_⟩
          have x5' := Ext.upd (o := .lst (odl ++ accC ++ accF)) ho5
          obtain ⟨HG, hHG⟩ : ∃ HG, HG = upd HF o5 (.lst (odl ++ accC ++ accF)) := ⟨_, rfl⟩
          have xG : Ext HF HG := by
            rw [hHG]
            exact x5'
          have o5G : HG o5 = some (.lst (odl ++ accC ++ accF)) := by rw [hHG, upd_same]
          rw [← hHG]
          have fo_no : ∀ (ws : Str) (T : Addr) (z : Str), ws ≠ "line" → z ∈ th' → SqT K HG T [.str ws, .str a0, .str z] → FactOf K HG (a0 :: fo') th' (.ref T) false := fun ws T z hw hz sq => no_fact (.inr sq) (.inl rfl) (.inl rfl) (.inl rfl) (fb_fo (fun e => hw (by injection e)) (inV_not (nofo z hz)))
          have odd3 : ∀ x, x ∈ odl ++ accC ++ accF → FactOf K HG (a0 :: fo') th' x false := fun x hx => by
            rcases List.mem_append.mp hx with hx | hx
            · rcases List.mem_append.mp hx with hx | hx
              · exact (odd2 x hx).ext (xBE.trans (xF.trans xG))
              · obtain ⟨T, z, rfl, hz, sq⟩ := aC x hx
                exact fo_no "below" T z (by decide) hz (sq.ext (xE.trans (xF.trans xG)))
            · obtain ⟨T, z, rfl, hz, sq⟩ := aF x hx
              exact fo_no "not" T z (by decide) hz (sq.ext xG)
          refine ⟨_, rfl, o5, rfl, ⟨_, SqL.of o5G⟩, for_list (K := K) (a := o5) (xs := odl ++ accC ++ accF) (fun j σ H' => Ext HG H' ∧ ∃ v11 v12 : Option V, σ = [some (.ref as), some (.int (0 + (k : Int))), some (.ref p), some (.ref t'), some (.ref h), some (.ref tl), v6, v7, v8, some (.str a0), some (.ref o5), v11, v12]) ?_ ?_ ?_ ?_⟩
          · exact ⟨Ext.rfl', _, _, rfl⟩
          · rintro j σ H' _ ⟨x', _⟩
            exact SqL.of (x' _ _ o5G)
          · rintro j v σ HH hv ⟨xH, v11, v12, rfl⟩
            refine ⟨_, rfl, _, rfl, h, v, a0 :: fo', th', rfl, (hou7.ext xBE7).ext (xF.trans (xG.trans xH)), nd, by rw [sizeLine_eq]; omega, (odd3 v (List.mem_of_getElem? hv)).ext xH, fun HI xI => ⟨_, rfl, ?_⟩⟩
            exact ⟨xH.trans xI, _, _, rfl⟩
          · rintro σ HH ⟨xH, v11, v12, rfl⟩
            exact ⟨_, _, _, _, _, _, _, _, _, _, _, _, rfl, x07.trans (xBE7.trans (xF.trans (xG.trans xH)))⟩
end
end My

namespace My
open PySem PySem.Spec PyProof.Rows L2 He
/-! ### what is looked up in the written part, as truths -/
def oexB (K : PySem.W.Frag) (C : Addr) : Bool := (match K.lookup C with
    | some ⟨.type t, _, .cls cd, sl⟩ => decide (t = "type") && (match cd.mro, sl.toList with
      | .ref C' :: bm, [_, _, _, _, some (.builtin n), _] => decide (C' = C) && (decide (n = "ValueError.__new__") && (!cd.hasDel && (cd.hasDict && PySem.HandSPX.refsVE bm)))
      | _, _ => false)
    | _ => false) && (decide (PySem.W.findIn K (.ref C) "__setattr__" = some (some (.builtin "object.__setattr__"))) && (decide (PySem.W.subIn K (.ref C) (.type "BaseException") = some true) &&
    (decide (PySem.W.typeIn K (.ref C) = some (.type "type")) && PySem.W.keepIn K (.ref C))))
theorem oexB_ok {K : PySem.W.Frag} {C : Addr} (h : oexB K C = true) : OexC K C := by
  obtain ⟨h1, h⟩ := ba h
  obtain ⟨h2, h⟩ := ba h
  obtain ⟨h3, h⟩ := ba h
  obtain ⟨h4, h5⟩ := ba h
  refine ⟨?_, of_decide_eq_true h2, of_decide_eq_true h3, of_decide_eq_true h4, h5⟩
  split at h1
  · rename_i t dd cd sl ho
    obtain ⟨k1, k2⟩ := ba h1
    obtain rfl := of_decide_eq_true k1
    split at k2
    · rename_i C' bm k0 k1 k2' k3 n k5 hm hs
      obtain ⟨e1, k2⟩ := ba k2
      obtain ⟨e2, k2⟩ := ba k2
      obtain ⟨e3, k2⟩ := ba k2
      obtain ⟨e4, e5⟩ := ba k2
      obtain rfl := of_decide_eq_true e1
      obtain rfl := of_decide_eq_true e2
      obtain ⟨nm, bs, mro, ns, qn, hd, sn, sub, ab, col, del⟩ := cd
      dsimp only at hm e3 e4
      subst hm
      obtain rfl : hd = true := e4
      obtain rfl : del = false := by
        cases del
        · rfl
        · cases e3
      have hsl : sl = #[k0, k1, k2', k3, some (.builtin "ValueError.__new__"), k5] := by
        obtain ⟨l⟩ := sl
        simp only at hs
        rw [hs]
      subst hsl
      exact ⟨nm, qn, ns, bs, bm, sn, sub, ab, col, dd, k0, k1, k2', k3, k5, ho, e5⟩
    · cases k2
  · cases h1
def kitCB (K : PySem.W.Frag) (C : Addr) : Bool := (PySem.W.clsIn K C).isSome && (decide (PySem.W.findIn K (.ref C) "__class__" = some (some (.builtin "object.__class__"))) &&
  (decide (PySem.W.specialIn K (.builtin "object.__class__") "__get__" = some (some (.builtin "getset_descriptor.__get__"))) && (decide (PySem.W.takesIn K (.builtin "object.__class__") = some true) && decide (PySem.W.mroIn K C (.type "object") = some true))))
theorem kitCB_ok {K : PySem.W.Frag} {C : Addr} (h : kitCB K C = true) : KitC K C := by
  obtain ⟨h1, h⟩ := ba h
  obtain ⟨h2, h⟩ := ba h
  obtain ⟨h3, h⟩ := ba h
  obtain ⟨h4, h5⟩ := ba h
  exact ⟨h1, of_decide_eq_true h2, of_decide_eq_true h3, of_decide_eq_true h4, of_decide_eq_true h5⟩
/-- a class with one field -/
def errB (K : PySem.W.Frag) (x f : Str) : Bool := oexB K (ga K x) && (xfB K (ga K x) && (kitCB K (ga K x) && (decide (PySem.W.findIn K (.ref (ga K x)) "__init__" = some (some (.ref (ma K (ga K x) "__init__")))) &&
  (decide (PySem.W.typeIn K (.ref (ma K (ga K x) "__init__")) = some (.type "function")) && decide (PySem.W.findIn K (.ref (ga K x)) f = some none)))))
theorem errB_ok {K : PySem.W.Frag} {mg : Str → Option Value} {x f : Str} (g : mg x = some (.ref (ga K x))) (h : errB K x f = true) : ErrC K mg x f (ga K x) (ma K (ga K x) "__init__") := by
  obtain ⟨h1, h⟩ := ba h
  obtain ⟨h2, h⟩ := ba h
  obtain ⟨h3, h⟩ := ba h
  obtain ⟨h4, h⟩ := ba h
  obtain ⟨h5, h6⟩ := ba h
  exact ⟨g, oexB_ok h1, xfB_ok h2, kitCB_ok h3, of_decide_eq_true h4, of_decide_eq_true h5, of_decide_eq_true h6⟩
/-! ### the look at the head: facts, defs, and one more truth -/
abbrev AlM : Type := AlD × Bool
def seenM (fa : List Fa) (fn : List DefD) (ex : PySem.W.Frag → Bool) (K : PySem.W.Frag) : AlM := (obsD fa fn K, ex K)
def seenMG (n : Nat) (fa : List Fa) (fn : List DefD) (ex : PySem.W.Frag → Bool) (g : Addr → Option Obj) : AlM := seenM fa fn ex (frG g (asD g n))
def hookM (n : Nat) (fa : List Fa) (fn : List DefD) (ex : PySem.W.Frag → Bool) : PySem.W.Hook where
  α := AlM
  obs := fun s => seenMG n fa fn ex s.heap.get?
  val := fun _ => (valD fn, true)
  says := fun _ h => ∃ K : PySem.W.Frag, K.In h ∧ (SaysD fa fn K ∧ ex K = true)
  of := fun _ _ e => ⟨_, frG_in, congrArg (fun z : AlM => z.1) e, congrArg (fun z : AlM => z.2) e⟩
  keeps := fun _ _ _ ⟨K, hK, c⟩ k => ⟨K, PySem.W.Frag.In.keeps hK k, c⟩
theorem seenMG_eq {n : Nat} {fa : List Fa} {fn : List DefD} {ex : PySem.W.Frag → Bool} {g : Addr → Option Obj} {s : Shared} (h : ∀ a, g a = s.heap.get? a) : seenMG n fa fn ex g = (hookM n fa fn ex).obs s := by
  have e : g = s.heap.get? := funext h
  rw [e] <;> rfl


def aDef (K : PySem.W.Frag) : Addr := dflAt ("House", some "__init__") 0 K
def d_BadHouse_init : DefD := ⟨("BadHouse", some "__init__"), "__init__", "BadHouse.__init__", defArgs (inCls (top 2) 0), defBody (inCls (top 2) 0), defScope (inCls (top 2) 0), [], []⟩
def d_BadFact_init : DefD := ⟨("BadFact", some "__init__"), "__init__", "BadFact.__init__", defArgs (inCls (top 3) 0), defBody (inCls (top 3) 0), defScope (inCls (top 3) 0), [], []⟩
def d_is_list : DefD := ⟨("is_list", none), "is_list", "is_list", defArgs (top 7), defBody (top 7), defScope (top 7), [], []⟩
def d_is_name : DefD := ⟨("is_name", none), "is_name", "is_name", defArgs (top 8), defBody (top 8), defScope (top 8), [], []⟩
def d_is_fact : DefD := ⟨("is_fact", none), "is_fact", "is_fact", defArgs (top 11), defBody (top 11), defScope (top 11), [], []⟩
def d_as_told : DefD := ⟨("as_told", none), "as_told", "as_told", defArgs (top 12), defBody (top 12), defScope (top 12), [], []⟩
def d_against : DefD := ⟨("against", none), "against", "against", defArgs (top 13), defBody (top 13), defScope (top 13), [], []⟩
def d_wrong_name : DefD := ⟨("wrong_name", none), "wrong_name", "wrong_name", defArgs (top 15), defBody (top 15), defScope (top 15), [], []⟩
def d_wrong_part : DefD := ⟨("wrong_part", none), "wrong_part", "wrong_part", defArgs (top 16), defBody (top 16), defScope (top 16), [], []⟩
def d_House_init : DefD := ⟨("House", some "__init__"), "__init__", "House.__init__", defArgs (inCls (top 17) 0), defBody (inCls (top 17) 0), defScope (inCls (top 17) 0), [.adr aDef], []⟩
def d_House_len : DefD := ⟨("House", some "__len__"), "__len__", "House.__len__", defArgs (inCls (top 17) 1), defBody (inCls (top 17) 1), defScope (inCls (top 17) 1), [], []⟩
def d_House_contains : DefD := ⟨("House", some "__contains__"), "__contains__", "House.__contains__", defArgs (inCls (top 17) 2), defBody (inCls (top 17) 2), defScope (inCls (top 17) 2), [], []⟩
def d_House_iter : DefD := ⟨("House", some "__iter__"), "__iter__", "House.__iter__", defArgs (inCls (top 17) 3), defBody (inCls (top 17) 3), defScope (inCls (top 17) 3), [], []⟩
def d_House_eq : DefD := ⟨("House", some "__eq__"), "__eq__", "House.__eq__", defArgs (inCls (top 17) 4), defBody (inCls (top 17) 4), defScope (inCls (top 17) 4), [], []⟩
def d__law_cell : DefD := ⟨("_law_cell", none), "_law_cell", "_law_cell", defArgs (top 19), defBody (top 19), defScope (top 19), [], []⟩
def d__law_pool : DefD := ⟨("_law_pool", none), "_law_pool", "_law_pool", defArgs (top 20), defBody (top 20), defScope (top 20), [], []⟩
def d__law_take : DefD := ⟨("_law_take", none), "_law_take", "_law_take", defArgs (top 21), defBody (top 21), defScope (top 21), [], []⟩
def d__law_names : DefD := ⟨("_law_names", none), "_law_names", "_law_names", defArgs (top 22), defBody (top 22), defScope (top 22), [], []⟩
def d__law_plan : DefD := ⟨("_law_plan", none), "_law_plan", "_law_plan", defArgs (top 23), defBody (top 23), defScope (top 23), [], []⟩
def d__law_house : DefD := ⟨("_law_house", none), "_law_house", "_law_house", defArgs (top 24), defBody (top 24), defScope (top 24), [], []⟩
def d__law_lies : DefD := ⟨("_law_lies", none), "_law_lies", "_law_lies", defArgs (top 25), defBody (top 25), defScope (top 25), [], []⟩
def d__law_holds : DefD := ⟨("_law_holds", none), "_law_holds", "_law_holds", defArgs (top 26), defBody (top 26), defScope (top 26), [], []⟩
def d__law_keeps : DefD := ⟨("_law_keeps", none), "_law_keeps", "_law_keeps", defArgs (top 27), defBody (top 27), defScope (top 27), [], []⟩
def d__law_all_trees : DefD := ⟨("_law_all_trees", none), "_law_all_trees", "_law_all_trees", defArgs (top 28), defBody (top 28), defScope (top 28), [], []⟩
def d__law_all_facts : DefD := ⟨("_law_all_facts", none), "_law_all_facts", "_law_all_facts", defArgs (top 29), defBody (top 29), defScope (top 29), [], []⟩
def d__law_due : DefD := ⟨("_law_due", none), "_law_due", "_law_due", defArgs (top 30), defBody (top 30), defScope (top 30), [], []⟩
def d__law_refused : DefD := ⟨("_law_refused", none), "_law_refused", "_law_refused", defArgs (top 31), defBody (top 31), defScope (top 31), [], []⟩
def d_law : DefD := ⟨("law", none), "law", "law", defArgs (top 32), defBody (top 32), defScope (top 32), [], []⟩
def fn : List DefD := ([d_BadHouse_init, d_BadFact_init, d_is_list, d_is_name, d_is_fact, d_as_told, d_against, d_wrong_name, d_wrong_part, d_House_init, d_House_len, d_House_contains, d_House_iter, d_House_eq] : List DefD) ++ ([d__law_cell, d__law_pool, d__law_take, d__law_names, d__law_plan, d__law_house, d__law_lies, d__law_holds, d__law_keeps, d__law_all_trees, d__law_all_facts, d__law_due, d__law_refused, d_law] : List DefD)
def fa : List Fa := ([.glo "BadHouse", .glo "BadFact", .glo "is_list", .glo "is_name", .glo "is_fact", .glo "as_told", .glo "against", .glo "wrong_name", .glo "wrong_part", .glo "House", .glo "_law_cell", .glo "_law_pool", .glo "_law_take", .glo "_law_names"] : List Fa) ++ ([.glo "_law_plan", .glo "_law_house", .glo "_law_lies", .glo "_law_holds", .glo "_law_keeps", .glo "_law_all_trees", .glo "_law_all_facts", .glo "_law_due", .glo "_law_refused", .glo "law", .glo "WORDS", .free "int", .free "len", .free "isinstance"] : List Fa) ++ ([.free "range", .free "all", .free "list", .free "tuple", .free "str", .free "enumerate", .free "iter", .free "min", .free "bool", .free "dict", .int "LONGEST" 8, .str "LETTERS" letters, .cls "House", .noat "House" "folders"] : List Fa) ++ ([.noat "House" "things", .noat "House" "nodes", .meth "House" "__len__", .meth "House" "__contains__", .meth "House" "__iter__", .meth "House" "__eq__", .mkr "House", .exm "BadFact" "BadFact" true] : List Fa)
def tyL : List String := ["NoneType", "list", "tuple", "int", "str"]
def dflB (K : PySem.W.Frag) : Bool := match K.lookup (aDef K) with
  | some ⟨.type t, _, .seq its _, _⟩ => decide (t = "tuple") && decide (its.toList = [])
  | _ => false
def strsB : List PySem.Value → List PySem.Str → Bool
  | [], [] => true
  | .str a _ :: us, z :: zs => decide (a = z) && strsB us zs
  | _, _ => false
theorem strsB_ok : ∀ {us : List PySem.Value} {zs : List PySem.Str}, strsB us zs = true → Vals (zs.map V.str) us
  | [], [], _ => .nil
  | .str a t :: us, z :: zs, h => by
    obtain ⟨h1, h2⟩ := ba h
    obtain rfl := of_decide_eq_true h1
    exact .cons ⟨t, rfl⟩ (strsB_ok h2)
def worB (K : PySem.W.Frag) : Bool := match K.lookup (ga K "WORDS") with
  | some ⟨.type t, _, .seq its _, _⟩ => decide (t = "tuple") && strsB its.toList wordsS
  | _ => false
def houB (K : PySem.W.Frag) : Bool := errB K "BadHouse" "index" && (kitCB K (ga K "House") && (decide (PySem.W.kitOne K (.ref (ga K "House")) (.ref (ga K "House")) = some true) && (decide (PySem.W.findIn K (.ref (ga K "House")) "__ne__" = some (some (.builtin "object.__ne__"))) &&
  (decide (PySem.W.subIn K (.ref (ga K "House")) (.type "str") = some false) && ((tyL.all fun T => PySem.W.notFirst K (ga K "House") (.type T) && decide (PySem.W.kitOne K (.type T) (.ref (ga K "House")) = some false)) && (dflB K && (errB K "BadFact" "index" && worB K)))))))
theorem dflB_ok {K : PySem.W.Frag} (h : dflB K = true) : ∀ H, SqT K H (aDef K) [] := fun H => by
  unfold dflB at h
  split at h
  · rename_i t dd its n sl ho
    obtain ⟨h1, h2⟩ := ba h
    obtain rfl := of_decide_eq_true h1
    have h3 : its.toList = [] := of_decide_eq_true h2
    refine .inr ⟨_, its, n, ho, rfl, rfl, ?_, by rw [h3]; exact .nil⟩
    rw [← Array.length_toList, h3]
    exact Nat.zero_le _
  · cases h
theorem worB_ok {K : PySem.W.Frag} (h : worB K = true) : ∀ H, SqT K H (ga K "WORDS") (wordsS.map V.str) := fun H => by
  unfold worB at h
  split at h
  · rename_i t dd its n sl ho
    obtain ⟨h1, h2⟩ := ba h
    obtain rfl := of_decide_eq_true h1
    have h3 := strsB_ok h2
    refine .inr ⟨_, its, n, ho, rfl, rfl, ?_, h3⟩
    rw [← Array.length_toList, ← h3.length]
    exact Nat.le_of_ble_eq_true rfl
  · cases h

def loose : List PySem.Str := (["HouseError", "BadHouse", "BadFact", "is_list", "is_name", "is_fact", "as_told", "against", "wrong_name", "wrong_part", "House", "_law_cell", "_law_pool", "_law_take"] : List PySem.Str) ++ (["_law_names", "_law_plan", "_law_house", "_law_lies", "_law_holds", "_law_keeps", "_law_all_trees", "_law_all_facts", "_law_due", "_law_refused", "law", "WORDS", "LETTERS", "LONGEST"] : List PySem.Str) ++ (["int", "len", "isinstance", "range", "all", "list", "tuple", "str", "enumerate", "iter", "min", "bool", "dict"] : List PySem.Str)
abbrev Rw : PySem.W.OpenRow := PySem.W.OpenLaw.row PySem.Challenge.rw_whatopened_k44_contraries_of_facts
abbrev hk : PySem.W.Hook := hookM 5 fa fn houB
def ob (s : PySem.W.SharedT) : AlM := seenMG 5 fa fn houB (HandSHeadRun.getT s)
theorem ob_eq (s : PySem.W.SharedT) : ob s = hk.obs s.abs := seenMG_eq (HandSHeadRun.getT_eq s)
end My

namespace My
open PySem PySem.Spec PyProof.Rows L2 He
section
variable {P : Program} {w : World} {K : PySem.W.Frag} {h : Heap} {mg : Str → Option Value} {base : Heap}
theorem facts {f : Addr} (X : K.In h) (G : h.Ns mainGlobals mg) (hfa : mg ("law" : Str) = some (.ref f)) (c : SaysD fa fn K) (e : houB K = true) :
    ∃ fd : FuncData, (∀ (s : Shared) (v : Value), BindsTo s fd ⟨[v], []⟩ [("_law_script", v)]) ∧ ∀ base : Heap, K.In base → base.Ns mainGlobals mg → FnOk P w K mg base CX0 8 f fd ["_law_script"] (spLaw K) := by
  obtain ⟨fd_BadHouse_init, F_BadHouse_init⟩ := c.def_ 0 (d := d_BadHouse_init) rfl
  obtain ⟨fd_BadFact_init, F_BadFact_init⟩ := c.def_ 1 (d := d_BadFact_init) rfl
  obtain ⟨fd_is_list, F_is_list⟩ := c.def_ 2 (d := d_is_list) rfl
  obtain ⟨fd_is_name, F_is_name⟩ := c.def_ 3 (d := d_is_name) rfl
  obtain ⟨fd_is_fact, F_is_fact⟩ := c.def_ 4 (d := d_is_fact) rfl
  obtain ⟨fd_as_told, F_as_told⟩ := c.def_ 5 (d := d_as_told) rfl
  obtain ⟨fd_against, F_against⟩ := c.def_ 6 (d := d_against) rfl
  obtain ⟨fd_wrong_name, F_wrong_name⟩ := c.def_ 7 (d := d_wrong_name) rfl
  obtain ⟨fd_wrong_part, F_wrong_part⟩ := c.def_ 8 (d := d_wrong_part) rfl
  obtain ⟨fd_House_init, F_House_init⟩ := c.def_ 9 (d := d_House_init) rfl
  obtain ⟨fd_House_len, F_House_len⟩ := c.def_ 10 (d := d_House_len) rfl
  obtain ⟨fd_House_contains, F_House_contains⟩ := c.def_ 11 (d := d_House_contains) rfl
  obtain ⟨fd_House_iter, F_House_iter⟩ := c.def_ 12 (d := d_House_iter) rfl
  obtain ⟨fd_House_eq, F_House_eq⟩ := c.def_ 13 (d := d_House_eq) rfl
  obtain ⟨fd__law_cell, F__law_cell⟩ := c.def_ 14 (d := d__law_cell) rfl
  obtain ⟨fd__law_pool, F__law_pool⟩ := c.def_ 15 (d := d__law_pool) rfl
  obtain ⟨fd__law_take, F__law_take⟩ := c.def_ 16 (d := d__law_take) rfl
  obtain ⟨fd__law_names, F__law_names⟩ := c.def_ 17 (d := d__law_names) rfl
  obtain ⟨fd__law_plan, F__law_plan⟩ := c.def_ 18 (d := d__law_plan) rfl
  obtain ⟨fd__law_house, F__law_house⟩ := c.def_ 19 (d := d__law_house) rfl
  obtain ⟨fd__law_lies, F__law_lies⟩ := c.def_ 20 (d := d__law_lies) rfl
  obtain ⟨fd__law_holds, F__law_holds⟩ := c.def_ 21 (d := d__law_holds) rfl
  obtain ⟨fd__law_keeps, F__law_keeps⟩ := c.def_ 22 (d := d__law_keeps) rfl
  obtain ⟨fd__law_all_trees, F__law_all_trees⟩ := c.def_ 23 (d := d__law_all_trees) rfl
  obtain ⟨fd__law_all_facts, F__law_all_facts⟩ := c.def_ 24 (d := d__law_all_facts) rfl
  obtain ⟨fd__law_due, F__law_due⟩ := c.def_ 25 (d := d__law_due) rfl
  obtain ⟨fd__law_refused, F__law_refused⟩ := c.def_ 26 (d := d__law_refused) rfl
  obtain ⟨fd_law, F_law⟩ := c.def_ 27 (d := d_law) rfl
  have b_is_list : Binds K fd_is_list ["thing"] [] := FunD.bindsN F_is_list fun _ _ _ _ _ _ us hl => match us, hl with | [_], _ => rfl
  have b_is_name : Binds K fd_is_name ["thing"] [] := FunD.bindsN F_is_name fun _ _ _ _ _ _ us hl => match us, hl with | [_], _ => rfl
  have b_is_fact : Binds K fd_is_fact ["house", "thing"] [] := FunD.bindsN F_is_fact fun _ _ _ _ _ _ us hl => match us, hl with | [_, _], _ => rfl
  have b_as_told : Binds K fd_as_told ["house", "fact"] [] := FunD.bindsN F_as_told fun _ _ _ _ _ _ us hl => match us, hl with | [_, _], _ => rfl
  have b_against : Binds K fd_against ["house", "fact"] [] := FunD.bindsN F_against fun _ _ _ _ _ _ us hl => match us, hl with | [_, _], _ => rfl
  have b_wrong_name : Binds K fd_wrong_name ["things"] [] := FunD.bindsN F_wrong_name fun _ _ _ _ _ _ us hl => match us, hl with | [_], _ => rfl
  have b_wrong_part : Binds K fd_wrong_part ["folders", "things"] [] := FunD.bindsN F_wrong_part fun _ _ _ _ _ _ us hl => match us, hl with | [_, _], _ => rfl
  have b_House_len : Binds K fd_House_len ["self"] [] := FunD.bindsN F_House_len fun _ _ _ _ _ _ us hl => match us, hl with | [_], _ => rfl
  have b_House_contains : Binds K fd_House_contains ["self", "x"] [] := FunD.bindsN F_House_contains fun _ _ _ _ _ _ us hl => match us, hl with | [_, _], _ => rfl
  have b_House_iter : Binds K fd_House_iter ["self"] [] := FunD.bindsN F_House_iter fun _ _ _ _ _ _ us hl => match us, hl with | [_], _ => rfl
  have b_House_eq : Binds K fd_House_eq ["self", "other"] [] := FunD.bindsN F_House_eq fun _ _ _ _ _ _ us hl => match us, hl with | [_, _], _ => rfl
  have b__law_cell : Binds K fd__law_cell ["_law_script", "_law_k"] [] := FunD.bindsN F__law_cell fun _ _ _ _ _ _ us hl => match us, hl with | [_, _], _ => rfl
  have b__law_pool : Binds K fd__law_pool ["_law_cell_here"] [] := FunD.bindsN F__law_pool fun _ _ _ _ _ _ us hl => match us, hl with | [_], _ => rfl
  have b__law_take : Binds K fd__law_take ["_law_pool_here", "_law_many"] [] := FunD.bindsN F__law_take fun _ _ _ _ _ _ us hl => match us, hl with | [_, _], _ => rfl
  have b__law_names : Binds K fd__law_names ["_law_pool_here", "_law_many"] [] := FunD.bindsN F__law_names fun _ _ _ _ _ _ us hl => match us, hl with | [_, _], _ => rfl
  have b__law_plan : Binds K fd__law_plan ["_law_pool_here", "_law_folders", "_law_things"] [] := FunD.bindsN F__law_plan fun _ _ _ _ _ _ us hl => match us, hl with | [_, _, _], _ => rfl
  have b__law_house : Binds K fd__law_house ["_law_parts"] [] := FunD.bindsN F__law_house fun _ _ _ _ _ _ us hl => match us, hl with | [_], _ => rfl
  have b__law_lies : Binds K fd__law_lies ["_law_over", "_law_node", "_law_folder"] [] := FunD.bindsN F__law_lies fun _ _ _ _ _ _ us hl => match us, hl with | [_, _, _], _ => rfl
  have b__law_holds : Binds K fd__law_holds ["_law_over", "_law_fact"] [] := FunD.bindsN F__law_holds fun _ _ _ _ _ _ us hl => match us, hl with | [_, _], _ => rfl
  have b__law_keeps : Binds K fd__law_keeps ["_law_over", "_law_told"] [] := FunD.bindsN F__law_keeps fun _ _ _ _ _ _ us hl => match us, hl with | [_, _], _ => rfl
  have b__law_all_trees : Binds K fd__law_all_trees ["_law_parts"] [] := FunD.bindsN F__law_all_trees fun _ _ _ _ _ _ us hl => match us, hl with | [_], _ => rfl
  have b__law_all_facts : Binds K fd__law_all_facts ["_law_parts"] [] := FunD.bindsN F__law_all_facts fun _ _ _ _ _ _ us hl => match us, hl with | [_], _ => rfl
  have b__law_due : Binds K fd__law_due ["_law_parts", "_law_fact"] [] := FunD.bindsN F__law_due fun _ _ _ _ _ _ us hl => match us, hl with | [_, _], _ => rfl
  have b__law_refused : Binds K fd__law_refused ["_law_house_here", "_law_odd"] [] := FunD.bindsN F__law_refused fun _ _ _ _ _ _ us hl => match us, hl with | [_, _], _ => rfl
  have q := hfa.symm.trans (glo_ok X G (c.fact 23 (f := .glo "law") rfl))
  cases q
  have b := FunD.bindsA (ps := ["_law_script"]) F_law fun _ _ _ _ _ _ us hl => match us, hl with | [_], _ => rfl
  refine ⟨fd_law, fun s v => b s [v] rfl, fun base XB GB => ?_⟩
  obtain ⟨eB, e1⟩ := ba e
  obtain ⟨eK, e2⟩ := ba e1
  obtain ⟨eC, e3⟩ := ba e2
  obtain ⟨eN, e4⟩ := ba e3
  obtain ⟨eS, e5⟩ := ba e4
  obtain ⟨eT, e6⟩ := ba e5
  obtain ⟨eD, e7⟩ := ba e6
  obtain ⟨eF, eW⟩ := ba e7
  have KC := kitCB_ok eK
  have nb : ∀ T, T ∈ ["NoneType", "list", "tuple", "int", "str"] → PySem.W.notFirst K (ga K "House") (.type T) = true ∧ PySem.W.kitOne K (.type T) (.ref (ga K "House")) = some false := fun T hT => by
    obtain ⟨k1, k2⟩ := ba (List.all_eq_true.mp eT T hT)
    exact ⟨k1, of_decide_eq_true k2⟩
  have EB : ∀ base, Er P w K mg base "BadHouse" "index" (ga K "BadHouse") := fun base => by
    have T := errB_ok (glo_ok X G (c.fact 0 (f := .glo "BadHouse") rfl)) eB
    have S : FnScope ["self", "index"] ["self", "index"] (defScope s_BadHouse_init) := ⟨rfl, rfl, rfl, by decide +kernel, rfl, by decide +kernel, by decide +kernel⟩
    refine ⟨_, fd_BadHouse_init, T, ok_init (st := s_BadHouse_init) (qual := "BadHouse.__init__") T F_BadHouse_init S ⟨_, _, _, _, rfl⟩ (by decide) (by decide), FunD.bindsN F_BadHouse_init fun _ _ _ _ _ _ us hl => match us, hl with | [_, _], _ => rfl, fun s u v _ => ?_⟩
    obtain ⟨oc, od, dV, kV, doc, pm, an, cdv, ct, osl, rfl, lk, hcd, hD, hK⟩ := F_BadHouse_init.ex
    rcases hD with ⟨_, rfl⟩ | ⟨z, _⟩
    · exact .of_eq rfl
    · exact absurd rfl z
  have EF : ∀ base, Er P w K mg base "BadFact" "index" (ga K "BadFact") := fun base => by
    have T := errB_ok (glo_ok X G (c.fact 1 (f := .glo "BadFact") rfl)) eF
    have S : FnScope ["self", "index"] ["self", "index"] (defScope s_BadFact_init) := ⟨rfl, rfl, rfl, by decide +kernel, rfl, by decide +kernel, by decide +kernel⟩
    refine ⟨_, fd_BadFact_init, T, ok_init (st := s_BadFact_init) (qual := "BadFact.__init__") T F_BadFact_init S ⟨_, _, _, _, rfl⟩ (by decide) (by decide), FunD.bindsN F_BadFact_init fun _ _ _ _ _ _ us hl => match us, hl with | [_, _], _ => rfl, fun s u v _ => ?_⟩
    obtain ⟨oc, od, dV, kV, doc, pm, an, cdv, ct, osl, rfl, lk, hcd, hD, hK⟩ := F_BadFact_init.ex
    rcases hD with ⟨_, rfl⟩ | ⟨z, _⟩
    · exact .of_eq rfl
    · exact absurd rfl z
  have T : HouC K (ga K "House") := ⟨cls_ok (c.fact 40 (f := .cls "House") rfl), noat_ok (c.fact 41 (f := .noat "House" "folders") rfl), noat_ok (c.fact 42 (f := .noat "House" "things") rfl), noat_ok (c.fact 43 (f := .noat "House" "nodes") rfl), KC.at_, KC.sp, KC.tk, KC.ob⟩
  have mt : ∀ m, Meth K (ga K "House") m (ma K (ga K "House") m) → OwnM K (ga K "House") m (ma K (ga K "House") m) := fun m z => ⟨z.at_, z.fn⟩
  obtain ⟨tL, gLL⟩ := str_ok X G (c.fact 39 (f := .str "LETTERS" letters) rfl)
  obtain ⟨t8, g88⟩ := int_ok X G (c.fact 38 (f := .int "LONGEST" 8) rfl)
  have IL : ∀ base, FnOk P w K mg base CX0 1 _ fd_is_list ["thing"] (spIsList K) := fun base => ok_isList F_is_list (free_ok X G (c.fact 27 (f := .free "isinstance") rfl)) (free_ok X G (c.fact 30 (f := .free "list") rfl)) (free_ok X G (c.fact 31 (f := .free "tuple") rfl))
  have WN : ∀ base, FnOk P w K mg base CX0 2 _ fd_wrong_name ["things"] (spWrongName K) := fun base => ok_wrongName F_wrong_name (ok_isName F_is_name (free_ok X G (c.fact 27 (f := .free "isinstance") rfl)) (free_ok X G (c.fact 32 (f := .free "str") rfl)) (free_ok X G (c.fact 26 (f := .free "len") rfl)) (free_ok X G (c.fact 29 (f := .free "all") rfl)) g88 gLL) (glo_ok X G (c.fact 3 (f := .glo "is_name") rfl)) F_is_name.kp b_is_name (free_ok X G (c.fact 33 (f := .free "enumerate") rfl))
  have WP : ∀ base, FnOk P w K mg base CX0 3 _ fd_wrong_part ["folders", "things"] (spWrongPart K) := fun base => ok_wrongPart F_wrong_part (IL base) (glo_ok X G (c.fact 2 (f := .glo "is_list") rfl)) F_is_list.kp b_is_list ((WN base).imp wn_imp) (glo_ok X G (c.fact 7 (f := .glo "wrong_name") rfl)) F_wrong_name.kp b_wrong_name (free_ok X G (c.fact 26 (f := .free "len") rfl))
  have HI : ∀ base, FnOk P w K mg base (L2.CX P w) 4 _ fd_House_init ["self", "folders", "things"] (spHInit K (ga K "House") (ga K "BadHouse")) := fun base => ok_hInit F_House_init T (WP base) (glo_ok X G (c.fact 8 (f := .glo "wrong_part") rfl)) F_wrong_part.kp b_wrong_part (EB base) (free_ok X G (c.fact 31 (f := .free "tuple") rfl))
  obtain ⟨d3, vd3, bI⟩ := FunD.binds1 (ps := ["self", "folders", "things"]) F_House_init 3 1 (by simp [DefD.dvs, d_House_init]) rfl fun T kV doc pm an cdv ct us its hu hi => by
    match us, hu, its, hi with
    | [_, _, _], _, [_], _ => exact ⟨_, rfl, rfl⟩
  obtain ⟨d2, vd2, bD⟩ := FunD.binds1 (ps := ["self", "folders", "things"]) F_House_init 2 0 (by simp [DefD.dvs, d_House_init]) rfl fun T kV doc pm an cdv ct us its hu hi => by
    match us, hu, its, hi with
    | [_, _], _, [_], _ => exact ⟨_, rfl, rfl⟩
  have nD : ∀ H, SqT K H (aDef K) [] := dflB_ok eD
  have e3' : d3 = [] := by
    cases vd3
    rfl
  subst e3'
  obtain ⟨u2, e2', ru2⟩ := vd2.one
  subst e2'
  have eu : u2 = .ref (aDef K) := ru2
  have HE : ∀ base, FnOk P w K mg base CX0 1 _ fd_House_eq ["self", "other"] (spHEq K (ga K "House")) := fun base => ok_hEq F_House_eq T (free_ok X G (c.fact 27 (f := .free "isinstance") rfl)) (glo_ok X G (c.fact 9 (f := .glo "House") rfl)) (of_decide_eq_true eC)
  let Z : HouseTxt P w K mg (ga K "House") (ga K "BadHouse") := {
    T := T, gH := (glo_ok X G (c.fact 9 (f := .glo "House") rfl)), kCC := of_decide_eq_true eC, ne := of_decide_eq_true eN, noStr := of_decide_eq_true eS, nb := nb,
    fI := _, fdI := fd_House_init, M := mkr_ok (c.fact 48 (f := .mkr "House") rfl), I := HI, bI := bI, uD := u2, bD := bD, aD := aDef K, eD := eu, tD := nD,
    fL := _, fdL := fd_House_len, mL := (mt _ (meth_ok (c.fact 44 (f := .meth "House" "__len__") rfl))), L := fun base => ok_hLen F_House_len T (free_ok X G (c.fact 26 (f := .free "len") rfl)), bL := b_House_len,
    fS := _, fdS := fd_House_contains, mS := (mt _ (meth_ok (c.fact 45 (f := .meth "House" "__contains__") rfl))), S := fun base => ok_hHas F_House_contains T (of_decide_eq_true eS) (mt _ (meth_ok (c.fact 47 (f := .meth "House" "__eq__") rfl))) (HE base) b_House_eq (nb "str" (by decide)).2, bS := b_House_contains,
    fW := _, fdW := fd_House_iter, mW := (mt _ (meth_ok (c.fact 46 (f := .meth "House" "__iter__") rfl))), W := fun base => ok_hIter F_House_iter T (free_ok X G (c.fact 34 (f := .free "iter") rfl)), bW := b_House_iter,
    fE := _, fdE := fd_House_eq, mE := (mt _ (meth_ok (c.fact 47 (f := .meth "House" "__eq__") rfl))), E := HE, bE := b_House_eq }
  have HL : ∀ base, Has P w K mg base 1 "is_list" ["thing"] (spIsList K) := fun base => ⟨_, fd_is_list, IL base, (glo_ok X G (c.fact 2 (f := .glo "is_list") rfl)), F_is_list.kp, b_is_list⟩
  have HF : Has P w K mg base 5 "is_fact" ["house", "thing"] (spIsFact K (ga K "House")) := ⟨_, fd_is_fact, ok_isFact F_is_fact Z (HL base) (free_ok X G (c.fact 26 (f := .free "len") rfl)) (glo_ok X G (c.fact 24 (f := .glo "WORDS") rfl)) (worB_ok eW), (glo_ok X G (c.fact 4 (f := .glo "is_fact") rfl)), F_is_fact.kp, b_is_fact⟩
  have HT : Has P w K mg base 1 "as_told" ["house", "fact"] (spAsTold K (ga K "House")) := ⟨_, fd_as_told, ok_asTold F_as_told Z, (glo_ok X G (c.fact 5 (f := .glo "as_told") rfl)), F_as_told.kp, b_as_told⟩
  have FA : FnOk P w K mg base (L2.CX P w) 6 _ fd_against ["house", "fact"] (spAgainst K (ga K "House") (ga K "BadFact")) := ok_against F_against Z (EF base) HF HT
  have hT : Has P w K mg base 1 "_law_take" ["_law_pool_here", "_law_many"] spTake := ⟨_, fd__law_take, ok_take F__law_take (free_ok X G (c.fact 25 (f := .free "int") rfl)), (glo_ok X G (c.fact 12 (f := .glo "_law_take") rfl)), F__law_take.kp, b__law_take⟩
  have hNm : Has P w K mg base 2 "_law_names" ["_law_pool_here", "_law_many"] (spNames K) := ⟨_, fd__law_names, ok_names F__law_names hT (free_ok X G (c.fact 28 (f := .free "range") rfl)) (free_ok X G (c.fact 26 (f := .free "len") rfl)), (glo_ok X G (c.fact 13 (f := .glo "_law_names") rfl)), F__law_names.kp, b__law_names⟩
  have hLi : Has P w K mg base 1 "_law_lies" ["_law_over", "_law_node", "_law_folder"] (spLies K) := ⟨_, fd__law_lies, ok_lies F__law_lies (free_ok X G (c.fact 28 (f := .free "range") rfl)), (glo_ok X G (c.fact 16 (f := .glo "_law_lies") rfl)), F__law_lies.kp, b__law_lies⟩
  have hHo : Has P w K mg base 2 "_law_holds" ["_law_over", "_law_fact"] (spHolds K) := ⟨_, fd__law_holds, ok_holds F__law_holds hLi, (glo_ok X G (c.fact 17 (f := .glo "_law_holds") rfl)), F__law_holds.kp, b__law_holds⟩
  have E := errB_ok (glo_ok X G (c.fact 1 (f := .glo "BadFact") rfl)) eF
  exact ok_law F_law Z FA (glo_ok X G (c.fact 6 (f := .glo "against") rfl)) F_against.kp b_against
    ⟨_, fd__law_cell, ok_cell F__law_cell (free_ok X G (c.fact 26 (f := .free "len") rfl)), (glo_ok X G (c.fact 10 (f := .glo "_law_cell") rfl)), F__law_cell.kp, b__law_cell⟩
    ⟨_, fd__law_pool, ok_pool F__law_pool (free_ok X G (c.fact 25 (f := .free "int") rfl)), (glo_ok X G (c.fact 11 (f := .glo "_law_pool") rfl)), F__law_pool.kp, b__law_pool⟩ hT
    ⟨_, fd__law_plan, ok_plan F__law_plan hT hNm (free_ok X G (c.fact 26 (f := .free "len") rfl)) (free_ok X G (c.fact 35 (f := .free "min") rfl)), (glo_ok X G (c.fact 14 (f := .glo "_law_plan") rfl)), F__law_plan.kp, b__law_plan⟩
    ⟨_, fd__law_house, ok_lawHouse F__law_house Z (free_ok X G (c.fact 31 (f := .free "tuple") rfl)) (free_ok X G (c.fact 30 (f := .free "list") rfl)), (glo_ok X G (c.fact 15 (f := .glo "_law_house") rfl)), F__law_house.kp, b__law_house⟩
    ⟨_, fd__law_all_trees, ok_trees F__law_all_trees hLi (free_ok X G (c.fact 37 (f := .free "dict") rfl)) (free_ok X G (c.fact 30 (f := .free "list") rfl)), (glo_ok X G (c.fact 19 (f := .glo "_law_all_trees") rfl)), F__law_all_trees.kp, b__law_all_trees⟩
    ⟨_, fd__law_all_facts, ok_facts F__law_all_facts, (glo_ok X G (c.fact 20 (f := .glo "_law_all_facts") rfl)), F__law_all_facts.kp, b__law_all_facts⟩
    ⟨_, fd__law_due, ok_due F__law_due, (glo_ok X G (c.fact 21 (f := .glo "_law_due") rfl)), F__law_due.kp, b__law_due⟩
    ⟨_, fd__law_keeps, ok_keeps F__law_keeps hHo, (glo_ok X G (c.fact 18 (f := .glo "_law_keeps") rfl)), F__law_keeps.kp, b__law_keeps⟩ hHo
    ⟨_, fd__law_refused, ok_refused F__law_refused FA (glo_ok X G (c.fact 6 (f := .glo "against") rfl)) F_against.kp b_against E.gl E.xf E.no (exm_ok (c.fact 49 (f := .exm "BadFact" "BadFact" true) rfl)) (free_ok X G (c.fact 27 (f := .free "isinstance") rfl)) (free_ok X G (c.fact 36 (f := .free "bool") rfl)), (glo_ok X G (c.fact 22 (f := .glo "_law_refused") rfl)), F__law_refused.kp, b__law_refused⟩
    (free_ok X G (c.fact 28 (f := .free "range") rfl)) (free_ok X G (c.fact 26 (f := .free "len") rfl)) (free_ok X G (c.fact 30 (f := .free "list") rfl)) (free_ok X G (c.fact 27 (f := .free "isinstance") rfl))
end
end My

namespace My
open PySem PySem.Spec PyProof.Rows L2 He
theorem run (w : World) : HandSHeadRun.RunEq Rw (PySem.W.view Rw.prog [32]) hk ob 8000 loose w := by
  intro os
  kernel_rfl
end My

open PySem PySem.W PySem.Calls PyProof.Rows
theorem PySem.Challenge.cw_whatopened_k44_contraries_of_facts_holds : PySem.Challenge.rw_whatopened_k44_contraries_of_facts.Holds := by
  w_on; o_law
  refine HandSHeadRun.head_any (r := OpenLaw.row PySem.Challenge.rw_whatopened_k44_contraries_of_facts) (q := view (OpenLaw.row PySem.Challenge.rw_whatopened_k44_contraries_of_facts).prog [32]) (H := My.hk) (ob := My.ob) (M := 8000) (loose := My.loose) (d := HandSHeadRun.topDef (OpenLaw.row PySem.Challenge.rw_whatopened_k44_contraries_of_facts).prog 32) (kwd := []) My.ob_eq
    (by kernel_rfl) (fun s => by kernel_rfl) My.run (by kernel_rfl) (by kernel_rfl) (by kernel_rfl) (by rfl) (by first | assumption | decide +kernel) (by decide +kernel) ⟨rfl, rfl, rfl, rfl, rfl, by decide +kernel⟩ ?hw ?hc
  case hw => w_witness2
  case hc =>
    refine L2.walk_ofE (l := PySem.Challenge.rw_whatopened_k44_contraries_of_facts) (n := 63) (k := 8) (x := "_law_script") (CX := L2.CX0) rfl (by decide) (by kernel_rfl) ⟨rfl, by decide, by decide⟩ ?F (fun _ _ _ _ z => z)
    intro w mg fa h Y G hmg0
    obtain ⟨K, KX, c, e⟩ := Y
    have hmg : mg ("law" : PySem.Str) = some (.ref fa) := by
      have e : (HandSHeadRun.topDef (OpenLaw.row PySem.Challenge.rw_whatopened_k44_contraries_of_facts).prog 32).name = ("law" : PySem.Str) := by kernel_rfl
      rw [← e]
      exact hmg0
    obtain ⟨fd, hb, hF⟩ := My.facts (P := (PySem.Challenge.rw_whatopened_k44_contraries_of_facts).prog) (w := w) KX G hmg c e
    exact ⟨K, fd, My.spLaw K, KX, hb, fun H a ns hl _ hS => ⟨a, ns, rfl, hS, fun _ => rfl⟩, hF⟩
#print axioms PySem.Challenge.cw_whatopened_k44_contraries_of_facts_holds

