import PyProof.Rows.All
import Wide.All
import OpenK.AllK
import Wide.FinOn
import HandS.ForMost
import HandS.ForExc
import HandS.Defaults
import HandS.IsInst
import HandS.ExcInit
import HandS.OwnEq
import PySem.Challenge.RW_whatopened_k08_whole_facts_against
import HandS.ExcValue
import HandS.ExcField
import HandS.MakeKw
import KE.KExcIs
import HandS.LawCells
import HandS.OwnIter
import PyProof.InstEq
import HandS.IterVal
import HandS.Walk
import KE.GoesMore
import KE.GoesEnum
import PyProof.Draws
import HandS.CallSlots
import HandS.Star
import HandS.TupAny
import HandS.WordsExc
import HandS.Style
import HandS.Codes
import HandS.NoneIn
import HandS.Deep
import KE.KStateDown
import Lean
import HandS.Head0
import HandS.Head1
import HandS.Head2
import HandS.HeadEnd
import HandS.HeadHook1
import HandS.HeadHook2
set_option Elab.async false
set_option linter.all false
set_option maxRecDepth 100000
set_option maxHeartbeats 0
namespace My
open PySem PySem.Spec PyProof.Rows L2
def top (i : Nat) : Stmt := PySem.Challenge.pw_whatopened_k08_whole_facts_against.main.body.getD i (.Pass ⟨0, 0, 0, 0⟩)
abbrev FnP (K : PySem.W.Frag) (x : Str) (st : Stmt) (f : Addr) (fd : FuncData) : Prop := FunD K x x (defArgs st) (defBody st) (defScope st) [] [] f fd
def inCls (s : Stmt) (i : Nat) : Stmt := match s with
  | .ClassDef (body := b) .. => b.getD i (.Pass ⟨0, 0, 0, 0⟩)
  | _ => .Pass ⟨0, 0, 0, 0⟩
abbrev s_BadHouse_init : Stmt := inCls (top 2) 0
abbrev s_BadFact_init : Stmt := inCls (top 3) 0
abbrev s_is_list : Stmt := top 7
abbrev sIsList : Stmt := top 7
abbrev s_is_name : Stmt := top 8
abbrev sIsName : Stmt := top 8
abbrev s_is_fact : Stmt := top 11
abbrev s_as_told : Stmt := top 12
abbrev s_against : Stmt := top 13
abbrev s_wrong_name : Stmt := top 15
abbrev sWrongName : Stmt := top 15
abbrev s_wrong_part : Stmt := top 16
abbrev sWrongPart : Stmt := top 16
abbrev s_House_init : Stmt := inCls (top 17) 0
abbrev sHInit : Stmt := inCls (top 17) 0
abbrev s_House_len : Stmt := inCls (top 17) 1
abbrev sHLen : Stmt := inCls (top 17) 1
abbrev s_House_contains : Stmt := inCls (top 17) 2
abbrev sHHas : Stmt := inCls (top 17) 2
abbrev s_House_iter : Stmt := inCls (top 17) 3
abbrev sHIter : Stmt := inCls (top 17) 3
abbrev s_House_eq : Stmt := inCls (top 17) 4
abbrev sHEq : Stmt := inCls (top 17) 4
abbrev s__law_cell : Stmt := top 19
abbrev sCell : Stmt := top 19
abbrev s__law_pool : Stmt := top 20
abbrev sPool : Stmt := top 20
abbrev s__law_take : Stmt := top 21
abbrev sTake : Stmt := top 21
abbrev s__law_names : Stmt := top 22
abbrev sNames : Stmt := top 22
abbrev s__law_house : Stmt := top 23
abbrev sHouse : Stmt := top 23
abbrev s__law_goes_round : Stmt := top 24
abbrev s__law_trees : Stmt := top 25
abbrev s__law_above : Stmt := top 26
abbrev s__law_holds : Stmt := top 27
abbrev s__law_keep : Stmt := top 28
abbrev s__law_every : Stmt := top 29
abbrev s__law_due : Stmt := top 30
abbrev s__law_refused : Stmt := top 31
abbrev s_law : Stmt := top 32
end My

namespace My
open PySem PySem.Spec PyProof.Rows L2
/-! ### the pool -/
/-- a pool stands at p, at most n draws of its second kind were made -/
def Pool (H : Hp) (p : Addr) (n : Int) : Prop := ∃ g m c : Int, H p = some (.lst [.int g, .int m, .int c]) ∧ 0 ≤ g ∧ 0 ≤ m ∧ m < 1000000007 ∧ 0 ≤ c ∧ c ≤ n
def spCell1 (K : PySem.W.Frag) : Sp := fun vs H Q _ => ∃ (l : Addr) (ns : List Int) (j : Nat), vs = [.ref l, .int (j : Int)] ∧ SqL K H l (ns.map V.int) ∧ ∀ i : Int, Q (.int i) H
def spPool : Sp := fun vs H Q _ => ∃ g : Int, vs = [.int g] ∧ ∀ p H', H p = none → (∃ a b : Int, 0 ≤ a ∧ 0 ≤ b ∧ b < 1000000007 ∧ H' = upd H p (.lst [.int a, .int b, .int 0])) → Q (.ref p) H'
def spTake : Sp := fun vs H Q _ => ∃ (p : Addr) (many n : Int), vs = [.ref p, .int many] ∧ 0 < many ∧ many < 1073741824 ∧ Pool H p n ∧ n < 1099511627776 ∧
  ∀ (r : Int) (o : HO), 0 ≤ r → r < many → Pool (upd H p o) p (n + 1) → Q (.int r) (upd H p o)
theorem scCell : FnScope ["_law_script", "_law_k"] ["_law_script", "_law_k"] (defScope sCell) := ⟨rfl, rfl, rfl, by decide +kernel, rfl, by decide +kernel, by decide +kernel⟩
theorem scPool : FnScope ["_law_grain", "_law_folded"] ["_law_grain"] (defScope sPool) := ⟨rfl, rfl, rfl, by decide +kernel, rfl, by decide +kernel, by decide +kernel⟩
theorem scTake : FnScope ["_law_pool_here", "_law_many", "_law_draw", "_law_mixed"] ["_law_pool_here", "_law_many"] (defScope sTake) := ⟨rfl, rfl, rfl, by decide +kernel, rfl, by decide +kernel, by decide +kernel⟩
section
variable {P : Program} {w : World} {K : PySem.W.Frag} {mg : Str → Option Value} {base : Heap} {f : Addr} {fd : FuncData}
theorem ok_cell (F : FnP K "_law_cell" sCell f fd) (gL : mg "len" = none) : FnOk P w K mg base CX0 1 f fd ["_law_script", "_law_k"] (spCell1 K) := by
  refine F.ok scCell (fun vs H Q E h => ?_) (fun cdv A outer s H vs Q E hr h => ⟨_, PSs.nox (pss_cons (ps_if (pt_cmpR op_lt (pv 1) (pe_callB call_len (by rfl) gL boot_len (pa_cons (pv 0) pa_nil)) (nomark _)) (pss_one (ps_ret (pe_ix ix_list (pv 0) (pv 1) (fun _ _ => rfl)))) pss_nil) (pss_one (ps_ret pe_int))), ?_⟩)
  · obtain ⟨l, ns, j, rfl, _⟩ := h
    rfl
  · obtain ⟨l, ns, j, rfl, hS, q⟩ := h
    refine ⟨_, rfl, _, rfl, _, _, rfl, .inl ⟨_, hS, rfl⟩, _, _, rfl, rfl, _, rfl, ?_⟩
    refine ite2 (fun hj => ?_) (fun _ => ?_)
    · have hj' : j < ns.length := by
        have z := of_decide_eq_true hj
        rw [List.length_map] at z
        omega
      refine ⟨_, rfl, _, rfl, l, _, _, _, rfl, rfl, hS, atI_nat (by rw [List.getElem?_map, List.getElem?_eq_getElem hj'] <;> rfl), q _⟩
    · exact q 0
theorem ok_pool (F : FnP K "_law_pool" sPool f fd) (gI : mg "int" = none) : FnOk P w K mg base CX0 1 f fd ["_law_grain"] spPool := by
  refine F.ok scPool (fun vs H Q E h => ?_) (fun cdv A outer s H vs Q E hr h => ⟨_, PSs.nox (
    pss_cons (ps_set (i := 1) scPool.nd rfl (.inl rfl) (pe_op op_mul pe_int (pv 0)))
    (pss_cons (ps_if (pt_cmpR op_lt (pv 0) pe_int (nomark _)) (pss_one (ps_set (i := 1) scPool.nd rfl (.inl rfl) (pe_op op_sub (pe_op op_sub pe_int (pe_op op_mul pe_int (pv 0))) pe_int))) pss_nil)
    (pss_cons (ps_if (pt_cmpR op_ge (pv 1) (pe_op op_pow pe_int pe_int) (nomark _)) (pss_one (ps_ret (pe_lst (pa_cons (pv 1) (pa_cons (pe_op op_mod (pe_callTy call_int1 (by rfl) gI (by decide +kernel) (pa_cons (pv 1) pa_nil)) pe_int) (pa_cons pe_int pa_nil)))))) pss_nil)
    (pss_one (ps_ret (pe_lst (pa_cons pe_int (pa_cons (pe_op op_mod (pe_callTy call_int1 (by rfl) gI (by decide +kernel) (pa_cons (pv 1) pa_nil)) pe_int) (pa_cons pe_int pa_nil))))))))), ?_⟩)
  · obtain ⟨g, rfl, _⟩ := h
    rfl
  · obtain ⟨g, rfl, q⟩ := h
    refine ⟨_, rfl, _, _, rfl, rfl, .inl ⟨by decide, by decide⟩, _, rfl, _, _, rfl, rfl, _, rfl, ?_⟩
    have m1 : ∀ z : Int, 0 ≤ z % 1000000007 := fun z => Int.emod_nonneg z (by decide)
    have m2 : ∀ z : Int, z % 1000000007 < 1000000007 := fun z => Int.emod_lt_of_pos z (by decide)
    have lst3 : ∀ a b c : V, ([a, b, c] : List V).length ≤ sizeLine := fun a b c => by show 3 ≤ sizeLine; decide
    refine ite2 (fun hn => ?_) (fun hn => ?_)
    · have hn' := of_decide_eq_true hn
      refine ⟨_, rfl, _, _, rfl, rfl, .inl ⟨by decide, by decide⟩, _, _, rfl, rfl, _, _, rfl, rfl, ?_⟩
      refine ⟨_, rfl, _, _, rfl, rfl, ⟨by decide, by decide, by decide⟩, _, _, rfl, rfl, _, rfl, ?_⟩
      refine ite2 (fun _ => ?_) (fun _ => ?_)
      · refine ⟨_, rfl, _, rfl, .inl ⟨_, rfl, _, _, rfl, rfl, (show (0 : Int) < 1000000007 by decide), lst3 _ _ _, fun p hp => q p _ hp ⟨_, _, ?_, m1 _, m2 _, rfl⟩⟩⟩
        omega
      · refine ⟨_, rfl, .inl ⟨_, rfl, _, _, rfl, rfl, (show (0 : Int) < 1000000007 by decide), lst3 _ _ _, fun p hp => q p _ hp ⟨_, _, by decide, m1 _, m2 _, rfl⟩⟩⟩
    · have hn' : ¬ g < 0 := fun z => hn (decide_eq_true z)
      refine ⟨_, rfl, _, _, rfl, rfl, ⟨by decide, by decide, by decide⟩, _, _, rfl, rfl, _, rfl, ?_⟩
      refine ite2 (fun _ => ?_) (fun _ => ?_)
      · refine ⟨_, rfl, _, rfl, .inl ⟨_, rfl, _, _, rfl, rfl, (show (0 : Int) < 1000000007 by decide), lst3 _ _ _, fun p hp => q p _ hp ⟨_, _, ?_, m1 _, m2 _, rfl⟩⟩⟩
        omega
      · refine ⟨_, rfl, .inl ⟨_, rfl, _, _, rfl, rfl, (show (0 : Int) < 1000000007 by decide), lst3 _ _ _, fun p hp => q p _ hp ⟨_, _, by decide, m1 _, m2 _, rfl⟩⟩⟩
theorem ok_take (F : FnP K "_law_take" sTake f fd) (gI : mg "int" = none) : FnOk P w K mg base CX0 1 f fd ["_law_pool_here", "_law_many"] spTake := by
  refine F.ok scTake (fun vs H Q E h => ?_) (fun cdv A outer s H vs Q E hr h => ⟨_, PSs.nox (
    pss_cons (ps_if (pt_cmpR op_gt (pe_ix ix_list (pv 0) pe_int (fun _ _ => rfl)) pe_int (nomark _))
      (pss_cons (ps_set (i := 2) scTake.nd rfl (.inl rfl) (pe_op op_mod (pe_callTy call_int1 (by rfl) gI (by decide +kernel) (pa_cons (pe_ix ix_list (pv 0) pe_int (fun _ _ => rfl)) pa_nil)) (pv 1)))
      (pss_cons (ps_asg (pe_op op_fdiv (pe_ix ix_list (pv 0) pe_int (fun _ _ => rfl)) (pv 1)) (pg_sub (pv 0) pe_int set_list))
      (pss_one (ps_ret (pv 2))))) pss_nil)
    (pss_cons (ps_asg (pe_op op_add (pe_ix ix_list (pv 0) pe_int (fun _ _ => rfl)) pe_int) (pg_sub (pv 0) pe_int set_list))
    (pss_cons (ps_set (i := 3) scTake.nd rfl (.inl rfl) (pe_op op_mod (pe_callTy call_int1 (by rfl) gI (by decide +kernel) (pa_cons (pe_op op_pow (pe_op op_add (pe_op op_add (pe_ix ix_list (pv 0) pe_int (fun _ _ => rfl)) (pe_op op_mul pe_int (pe_ix ix_list (pv 0) pe_int (fun _ _ => rfl)))) pe_int) pe_int) pa_nil)) pe_int))
    (pss_one (ps_ret (pe_op op_mod (pe_op op_mod (pe_callTy call_int1 (by rfl) gI (by decide +kernel) (pa_cons (pe_op op_mul (pe_op op_add (pv 3) (pe_ix ix_list (pv 0) pe_int (fun _ _ => rfl))) pe_int) pa_nil)) pe_int) (pv 1))))))), ?_⟩)
  · obtain ⟨p, many, n, rfl, _⟩ := h
    rfl
  · obtain ⟨p, many, n, rfl, hm0, hm1, ⟨g, m, c, hp, hg, hm, hm', hc, hcn⟩, hn, q⟩ := h
    have SL : ∀ {H : Hp} {xs : List V}, H p = some (.lst xs) → SqL K H p xs := fun h => SqL.of h
    refine ⟨_, rfl, p, _, 0, .int g, rfl, rfl, SL hp, rfl, _, _, rfl, rfl, _, rfl, ?_⟩
    refine ite2 (fun hg0 => ?_) (fun _ => ?_)
    · refine ⟨_, rfl, p, _, 0, .int g, rfl, rfl, SL hp, rfl, .inl ⟨_, rfl, _, rfl, _, _, rfl, rfl, hm0, ?_⟩⟩
      refine ⟨_, rfl, p, _, 0, .int g, rfl, rfl, SL hp, rfl, _, rfl, _, _, rfl, rfl, ⟨hm0, hm1⟩, _, rfl, p, _, 0, 0, rfl, rfl, hp, rfl, ?_⟩
      refine ⟨_, rfl, q _ _ (Int.emod_nonneg _ (by omega)) (Int.emod_lt_of_pos _ hm0) ⟨g / many, m, c, upd_same, Int.ediv_nonneg hg (by omega), hm, hm', hc, by omega⟩⟩
    · refine ⟨_, rfl, p, _, 2, .int c, rfl, rfl, SL hp, rfl, _, _, rfl, rfl, _, rfl, p, _, 2, 2, rfl, rfl, hp, rfl, ?_⟩
      have h2 : upd H p (.lst (List.set [V.int g, V.int m, V.int c] 2 (V.int (c + 1)))) p = some (.lst [.int g, .int m, .int (c + 1)]) := upd_same
      refine ⟨_, rfl, p, _, 1, .int m, rfl, rfl, SL h2, rfl, _, rfl, p, _, 2, .int (c + 1), rfl, rfl, SL h2, rfl, _, _, rfl, rfl, .inl ⟨by decide, by decide⟩, _, _, rfl, rfl, _, _, rfl, rfl, _, _, rfl, rfl, ⟨by decide, by decide, ?_⟩, .inl ⟨_, rfl, _, _, rfl, rfl, (show (0 : Int) < 2147483647 by decide), ?_⟩⟩
      · omega
      refine ⟨_, rfl, _, rfl, p, _, 2, .int (c + 1), rfl, rfl, SL h2, rfl, _, _, rfl, rfl, _, _, rfl, rfl, .inr ⟨by decide, by decide⟩, .inl ⟨_, rfl, _, _, rfl, rfl, (show (0 : Int) < 2147483629 by decide), _, rfl, _, _, rfl, rfl, hm0, ?_⟩⟩
      exact q _ _ (Int.emod_nonneg _ (by omega)) (Int.emod_lt_of_pos _ hm0) ⟨g, m, c + 1, upd_same, hg, hm, hm', by omega, by omega⟩
end
end My

namespace PySem
namespace MyX
open PySem.HandSPX Builtin Builtin.ObjectAttr
section
variable {M : Model} {A : Around} {E : Value → Shared → Prop} {h : Heap} {g : Array GenState} {d : Drawn} {t : Nat} {os : OsState}
variable {nm q : Str} {C N : Addr} {bs bm mb : List Value} {hdct : Bool} {sn : List Str} {sub : List Value} {ab : Bool} {col : Option Bool} {dd : Option Addr} {k0 k1 k2 k3 k5 : Option Value} {B idN idI : String}
theorem chk_new (F : ExcBaseFacts B idN idI mb) (hT : ∀ X : String, bm.contains (.type X) = mb.contains (.type X)) {rs : List Value} {kw : List (Str × Value)} {Q : Unit → Shared → Prop}
    (hC : h.get? C = some (excClassObj nm q C N bs bm hdct sn sub ab col dd k0 k1 k2 k3 k5 idN)) (hq : Q () ⟨h, g, d, t, os⟩) :
    wpAny M A (checkBuiltinCall idN ⟨.ref C :: rs, kw⟩) Q E ⟨h, g, d, t, os⟩ := by
  have c1 : (Value.ref C :: bm).contains (.type B) = true := by
    rw [List.contains_cons, hT, F.hasB, Bool.or_true]
  have c2 := F.noStar
  simp only [checkBuiltinCall, F.newKind, F.newSplit, F.newRow]
  repeat (first | refine wpAny_loadPart_at hC ?_ | (refine wpAny_isSubtype_exc hC ?_; rw [c1]) | refine wpAny_staticBase_exc hC ?_ | refine wpAny_madeBy_exc hC ?_ | simp only [bne_self_eq_false, Bool.false_eq_true, if_false] | wp_step)
  exact hq
end
section
variable {prog : Program} {w : World} {A : Around} {E : Value → Shared → Prop} {R : Result → Shared → Prop} {h : Heap} {g : Array GenState} {d : Drawn} {t : Nat} {os : OsState}
variable {nm q : Str} {C N : Addr} {bs bm mb : List Value} {hdct : Bool} {sn : List Str} {sub : List Value} {ab : Bool} {col : Option Bool} {dd : Option Addr} {k0 k1 k2 k3 k5 : Option Value} {B idN idI : String}
theorem new_kw (F : ExcBaseFacts B idN idI mb) (hT : ∀ X : String, bm.contains (.type X) = mb.contains (.type X)) {rs : List Value} {kw : List (Str × Value)}
    (hC : h.get? C = some (excClassObj nm q C N bs bm hdct sn sub ab col dd k0 k1 k2 k3 k5 idN))
    (hq : R (.ok (.ret (.ref (h.objs.size + 1)))) ⟨(h.push (W.kdv_tup rs)).push (excO C h.objs.size), g, d, t, os⟩) (hrs : rs.length ≤ sizeLine) :
    codeAny (model prog w) A (.builtin idN ⟨.ref C :: rs, kw⟩) R ⟨h, g, d, t, os⟩ := by
  have c0 := F.ends
  have c1 : (Value.ref C :: bm).contains (.type B) = true := by
    rw [List.contains_cons, hT, F.hasB, Bool.or_true]
  have c2 : (Value.ref C :: bm).contains (.type "AttributeError") = false := by
    rw [List.contains_cons, hT, F.noAttr]; rfl
  have c3 : (Value.ref C :: bm).contains (.type "NameError") = false := by
    rw [List.contains_cons, hT, F.noName]; rfl
  refine codeAny_builtinAt F.entry ?_
  unfold Builtin.«BaseException.__new__»
  refine wpAt_bind ?_
  show wpAt _ _ _ (stack >>= _) _ _ _
  refine wpAt_bind (wpAt_stack fun p below => wpAt_of_wpAny ?_)
  wp_walk
  refine wpAt_of_wpAny ?_
  rw [F.owner]
  repeat (first | with_reducible refine wpAny_madeHere_exc F.canon hC ?_ | with_reducible refine wpAny_loadPart_at hC ?_ | (with_reducible refine wpAny_isSubtype_exc hC ?_; first | rw [c1] | rw [c2] | rw [c3]) | wp_step)
  show R _ _
  rw [Heap.size_push]
  exact hq
theorem tcall_kw (F : ExcBaseFacts B idN idI mb) (hT : ∀ X : String, bm.contains (.type X) = mb.contains (.type X)) {rs : List Value} {kw : List (Str × Value)} {fI : Addr} {Q : Fin → Shared → Prop}
    (hC : h.get? C = some (excClassObj nm q C N bs bm hdct sn sub ab col dd k0 k1 k2 k3 k5 idN))
    (hi : W.Looks (model prog w) h (typeLookup (.ref C) "__init__") (some (.ref fI))) (hb : ∀ self, W.Looks (model prog w) h (bindSpecial (.ref fI) self) (.ref fI, [self])) (hrs : rs.length ≤ sizeLine)
    (hq : codeAny (model prog w) A (.call (.ref fI) ⟨.ref (h.objs.size + 1) :: rs, kw⟩)
      (fun r s' => match r with | .ok (.ret v) => v = .none ∧ Q (.done (.ret (.ref (h.objs.size + 1)))) s' | .ok _ => False | .error e => E e s')
      ⟨(h.push (W.kdv_tup rs)).push (excO C h.objs.size), g, d, t, os⟩) :
    wpAny (model prog w) A (Builtin.«type.__call__» ⟨.ref C :: rs, kw⟩) Q E ⟨h, g, d, t, os⟩ := by
  repeat (first | with_reducible refine wpAny_loadPart_at hC ?_ | with_reducible refine wpAny_madeBy_exc hC ?_ | wp_step)
  refine codeAny_call_builtin_code (Code.quiet_builtin _ F.quiet) (chk_new F hT hC ?_)
  refine new_kw F hT hC ?_ hrs
  show wpAny _ _ _ _ _ _
  have k : ∀ b o, h.get? b = some o → ((h.push (W.kdv_tup rs)).push (excO C h.objs.size)).get? b = some o := fun b o e => Heap.get?_push_of_some _ (Heap.get?_push_of_some _ e)
  have hC1 := k _ _ hC
  have hget : ((h.push (W.kdv_tup rs)).push (excO C h.objs.size)).get? (h.objs.size + 1) = some (excO C h.objs.size) := by heap_get
  have hcC : (Value.ref C :: bm).contains (.ref C) = true := by simp
  have i1 := hi.keeps k
  have b1 := (hb (.ref (h.objs.size + 1))).keeps k
  unfold isInstance
  repeat (first | with_reducible refine wpAny_loadPart_at hget ?_ | (with_reducible refine wpAny_isSubtype_exc hC1 ?_; rw [hcC]) | wp_step)
  show wpAny _ _ (typeLookup (.ref C) _) _ _ _
  refine i1.at ?_
  refine wpAny_holding (wpAny_bind (b1.at ?_))
  refine wpAny_bind (wpAny_call (codeAny_mono hq fun r s' z => ?_))
  rcases r with e | (v | _ | _ | _) <;> first | exact z | exact z.elim | skip
  obtain ⟨rfl, z⟩ := z
  first
    | exact wpAny_pure (wpAny_pure z)
    | (wp_walk; exact z)
theorem call_kw (F : ExcBaseFacts B idN idI mb) (hT : ∀ X : String, bm.contains (.type X) = mb.contains (.type X)) {rs : List Value} {kw : List (Str × Value)} {fI : Addr}
    (hC : h.get? C = some (excClassObj nm q C N bs bm hdct sn sub ab col dd k0 k1 k2 k3 k5 idN))
    (hi : W.Looks (model prog w) h (typeLookup (.ref C) "__init__") (some (.ref fI))) (hb : ∀ self, W.Looks (model prog w) h (bindSpecial (.ref fI) self) (.ref fI, [self])) (hrs : rs.length ≤ sizeLine)
    (hq : codeAny (model prog w) (A.under (.builtin "type.__call__" ⟨.ref C :: rs, kw⟩)) (.call (.ref fI) ⟨.ref (h.objs.size + 1) :: rs, kw⟩) (W.InitBack (h.objs.size + 1) R)
      ⟨(h.push (W.kdv_tup rs)).push (excO C h.objs.size), g, d, t, os⟩) :
    codeAny (model prog w) A (.call (.ref C) ⟨rs, kw⟩) R ⟨h, g, d, t, os⟩ := by
  have f1 := tc_lookup
  have f2 := tc_bind (.ref C)
  have hTy : (⟨h, g, d, t, os⟩ : Shared).TypeIs (.ref C) "type" := ⟨_, hC, rfl⟩
  refine codeAny_of_tree ?_
  show wpAny _ _ (callAny (.ref C) _) _ _ _
  repeat (any_goals (first | assumption | with_reducible refine wpAny_loadPart_at hC ?_ | wp_step))
  refine ⟨rfl, ?_⟩
  refine codeAny_call_builtin_at (Code.quiet_builtin _ (by decide +kernel)) entry_typeCall (wpAny_check_type_call_sub hC (tcall_kw F hT hC hi hb hrs ?_))
  refine codeAny_mono hq fun r s' z => ?_
  rcases r with e | (v | _ | _ | _) <;> exact z
end
end MyX
end PySem

namespace My
open PySem PySem.Spec PyProof.Rows L2
/-! ### own exceptions as values -/
/-- what isinstance asks of the class of an exception -/
structure KitC (K : PySem.W.Frag) (C : Addr) : Prop where
  cl : (PySem.W.clsIn K C).isSome = true
  at_ : PySem.W.findIn K (.ref C) "__class__" = some (some (.builtin "object.__class__"))
  sp : PySem.W.specialIn K (.builtin "object.__class__") "__get__" = some (some (.builtin "getset_descriptor.__get__"))
  tk : PySem.W.takesIn K (.builtin "object.__class__") = some true
  ob : PySem.W.mroIn K C (.type "object") = some true
/-- an exception of the class at C stands at a: its one field f holds v -/
def ErrAt (H : Hp) (a C : Addr) (f : Str) (v : V) : Prop := ∃ d, H a = some (exo a C (some d)) ∧ H d = some (exd d [(f, v)])
theorem ErrAt.ext {H H' : Hp} {a C : Addr} {f : Str} {v : V} (e : ErrAt H a C f v) (x : Ext H H') : ErrAt H' a C f v := by
  obtain ⟨d, h1, h2⟩ := e
  exact ⟨d, x _ _ h1, x _ _ h2⟩
section
variable {X : Cx} {CX : CXT} {k : Nat} {C fI : Addr} {fd : FuncData} {ps : List Str} {sp : Sp}
theorem run_err {pins : List (Addr × Obj)} {σ : L2.St} {H : Hp} {s : Shared} {Q : VK} {us uz : List Value} {kw : List (Str × Value)} {vs : List V} (T : OexC X.K C) (iC : PySem.W.findIn X.K (.ref C) "__init__" = some (some (.ref fI)))
    (tI : PySem.W.typeIn X.K (.ref fI) = some (.type "function")) (Fn : FnOk X.prog X.w X.K X.mg X.base CX k fI fd ps sp) (hr : Room (k + 1) X.A) (hx : Passes CX X E0)
    (hb : ∀ (s : Shared) (a : Addr), X.K.In s.heap → BindsTo s fd ⟨.ref a :: us, kw⟩ (ps.zip (.ref a :: uz))) (hl : us.length ≤ 1000) (I : Inv X pins σ H s) (r : Vals vs uz)
    (h : ∀ a, H a = none → sp (.ref a :: vs) (upd H a (exo a C none)) (fun v H2 => v = .non ∧ Q (.ref a) H2) E0) :
    wpAny (model X.prog X.w) X.A (call (.ref C) us kw) (EP X pins σ Q) X.xe s := by
  obtain ⟨nm, q, N, bs, bm, sn, sub, ab, col, dd, k0, k1, k2, k3, k5, hC, hbm⟩ := T.cls
  obtain ⟨hp, g, dr, tk, os⟩ := s
  have hz : hp.objs.size ≤ hp.objs.size + 1 := Nat.le_succ _
  have hn : H (hp.objs.size + 1) = none := I.hok.fresh hz
  have hq := h (hp.objs.size + 1) hn
  have kk : ∀ b o, hp.get? b = some o → ((hp.push (PySem.W.kdv_tup us)).push (PySem.HandSPX.excO C hp.objs.size)).get? b = some o := fun b o e =>
    Heap.get?_push_of_some _ (Heap.get?_push_of_some _ e)
  have hg : ((hp.push (PySem.W.kdv_tup us)).push (PySem.HandSPX.excO C hp.objs.size)).get? (hp.objs.size + 1) = some (PySem.HandSPX.excO C hp.objs.size) := by
    heap_get
  have I2 : Inv X pins σ (upd H (hp.objs.size + 1) (exo (hp.objs.size + 1) C none)) ⟨(hp.push (PySem.W.kdv_tup us)).push (PySem.HandSPX.excO C hp.objs.size), g, dr, tk, os⟩ :=
    I.laid (t' := tk) (a := hp.objs.size + 1) (o := exo (hp.objs.size + 1) C none) (h' := (hp.push (PySem.W.kdv_tup us)).push (PySem.HandSPX.excO C hp.objs.size)) kk hz (exo_ok hg)
  have r2 : Vals (V.ref (hp.objs.size + 1) :: vs) (Value.ref (hp.objs.size + 1) :: uz) := .cons rfl r
  have hus : us.length ≤ sizeLine := by
    rw [sizeLine_eq]
    omega
  refine wpAny_call (PySem.MyX.call_kw PySem.F.excBase_ValueError (fun Y => PySem.HandSPX.refsVE_contains Y bm hbm) (I.kIn _ _ hC) (PySem.W.looks_findIn I.kIn iC) (fun self => PySem.W.bind_fn I.kIn self tI) hus
    (codeAny_mono (Fn.run _ X.stack _ _ ⟨Value.ref (hp.objs.size + 1) :: us, kw⟩ (Value.ref (hp.objs.size + 1) :: uz) _ _ E0 (hr.make C us kw) (I2.env0.make C us kw) (hb _ _ I2.kIn) r2 hq) fun r s' hq' => ?_))
  cases r with
  | error er => exact hx pins σ _ _ er s' I2 hq'
  | ok fl =>
    cases fl with
    | ret u =>
      obtain ⟨v, H', I3, rv, ev, q3⟩ := I2.after hq'
      subst ev
      exact ⟨rv, ⟨V.ref (hp.objs.size + 1), H', I3, rfl, q3⟩⟩
    | next => exact False.elim hq'
    | brk => exact False.elim hq'
    | cont => exact False.elim hq'
/-- C(e, ..) as a value -/
def tErr (C : Addr) (sp : Sp) (ta : TA) : TE := fun σ H Q => ta σ H fun vs H1 => vs.length ≤ 1000 ∧ ∀ a, H1 a = none → sp (.ref a :: vs) (upd H1 a (exo a C none)) (fun v H2 => v = .non ∧ Q (.ref a) H2) E0
theorem pe_err {x : Str} {e : Expr} {es : List Expr} {ta : TA} {p pos : Pos} (T : OexC X.K C) (iC : PySem.W.findIn X.K (.ref C) "__init__" = some (some (.ref fI)))
    (tI : PySem.W.typeIn X.K (.ref fI) = some (.type "function")) (Fn : FnOk X.prog X.w X.K X.mg X.base CX k fI fd ps sp) (hr : Room (k + 1) X.A) (hx : Passes CX X E0) (hb : Binds X.K fd ps [])
    (hg : Gl X x) (hm : X.mg x = some (.ref C)) (ha : PA X (e :: es) ta)
    (hdb : (x == ("__debug__" : Str)) = false := by decide) (he : starEach (e :: es) X.env = (false, eval e X.env) :: starEach es X.env := by rfl) (hpl : (backTo pos (starEach es X.env)).any (·.1) = false := by rfl) :
    PE X (.Call (.Name x p) (e :: es) [] pos) (tErr C sp ta) := by
  refine ⟨fun pins s σ H Q I h => ?_⟩
  refine wpAny_Call_Name_kw (ld_glob I hg hm ?_ hdb)
  refine PySem.W.callWith_K (h₀ := X.base) I.ok.mod.kin T.kC (thn (ha.run pos pins s σ H _ I h) fun us s1 ⟨vs, H1, I1, r1, hz, q1⟩ => ⟨I1.kIn, ?_⟩) he hpl
  have l0 : us.length ≤ 1000 := by
    rw [← Paired.length r1]
    exact hz
  have l1 : vs.length + 1 = ps.length := Fn.len _ _ _ _ (q1 (s1.heap.objs.size + 1) (I1.hok.fresh (Nat.le_succ _)))
  refine run_err T iC tI Fn hr hx (fun s a KX => ?_) l0 I1 r1 q1
  have z := hb s (Value.ref a :: us) KX (by rw [List.append_nil, List.length_cons, ← Paired.length r1]; exact l1)
  rw [List.append_nil] at z
  exact z
/-- C(f = e) as a value -/
theorem pe_errK {x kn : Str} {kws : List Keyword} {tk : TA} {p pos : Pos} (T : OexC X.K C) (iC : PySem.W.findIn X.K (.ref C) "__init__" = some (some (.ref fI)))
    (tI : PySem.W.typeIn X.K (.ref fI) = some (.type "function")) (Fn : FnOk X.prog X.w X.K X.mg X.base CX k fI fd ps sp) (hr : Room (k + 1) X.A) (hx : Passes CX X E0)
    (hb : ∀ (s : Shared) (u v : Value), X.K.In s.heap → BindsTo s fd ⟨[u], [(kn, v)]⟩ (ps.zip [u, v])) (hg : Gl X x) (hm : X.mg x = some (.ref C)) (hkw : PK X kws tk)
    (hall : (backToKw pos (keywordEach kws X.env)).all (·.1.isSome) = true := by rfl) (hks : (backToKw pos (keywordEach kws X.env)).filterMap (·.1) = [kn] := by rfl) (hdb : (x == ("__debug__" : Str)) = false := by decide)
    (hpl : ((backTo pos (starEach [] X.env)).any (·.1) || (backToKw pos (keywordEach kws X.env)).any (·.1.isNone)) = false := by rfl) :
    PE X (.Call (.Name x p) [] kws pos) (fun σ H Q => tk σ H fun vs H1 => ∃ v, vs = [v] ∧ tErr C sp (fun _ H Q => Q [v] H) σ H1 Q) := by
  refine ⟨fun pins s σ H Q I h => ?_⟩
  refine wpAny_Call_Name_kw (ld_glob I hg hm ?_ hdb)
  refine PySem.W.callWith_KW0 (h₀ := X.base) I.ok.mod.kin T.kC hall ?_ hpl
  refine thn (hkw.run pos pins s σ H _ I h) fun ws s2 ⟨zs, H2, I2, rz, v, ez, l2, q2⟩ => ⟨I2.kIn, ?_⟩
  rw [hks]
  subst ez
  cases rz with
  | cons rv rn =>
    cases rn
    exact run_err (us := []) T iC tI Fn hr hx (fun s a KX => hb s (.ref a) _ KX) (by decide) I2 (.cons rv .nil) q2
/-- e.f of such a value -/
def tErF (K : PySem.W.Frag) (f : Str) (te : TE) : TE := fun σ H Q => te σ H fun x H1 => ∃ a C v, x = .ref a ∧ ErrAt H1 a C f v ∧ XfC K C ∧ PySem.W.findIn K (.ref C) f = some none ∧ Q v H1
theorem pe_erF {e : Expr} {te : TE} {n : Str} {pos : Pos} (he : PE X e te) (hb : attributeBase e n X.env (eval e X.env) = eval e X.env := by rfl) : PE X (.Attribute e n pos) (tErF X.K n te) := by
  refine ⟨fun pins s σ H Q I h => ?_⟩
  refine attr_of hb (thn (he.run pins s σ H _ I h) fun u s1 hh => ?_)
  obtain ⟨x, H1, I1, rx, a, C, v, ex, ⟨d, ha, hd⟩, T, hno, q⟩ := hh
  subst ex
  obtain rfl : u = Value.ref a := rx
  obtain ⟨t1, ho⟩ := exo_at I1.hok ha
  obtain ⟨mA, hns, hr⟩ := exd_at I1.hok hd
  obtain ⟨od, hod, hl⟩ := lookIn_ns hns
  have l : List.lookup n [(n, v)] = some v := by
    simp [List.lookup]
  obtain ⟨u, hu, ru⟩ := RelO.some_of (v := v) (o := mA n) (by rw [← l]; exact hr n)
  have J : PySem.W.InstAt s1.heap a { cls := .ref C, dict := some d, data := .fields #[.ref t1, .none, .none, .none, .bool false, .none] } C (some od) := ⟨ho, rfl, rfl, hod⟩
  exact HandSPX.exc_get I1.kIn J T.ga T.gg T.exC (PySem.W.findObj_own T.hdC hno rfl (by rw [hl, hu])) (handed_of ru) ⟨v, H1, I1.tok _, ru, q⟩
/-- isinstance(e, D) of such a value, or of one without fields -/
def rIsX (K : PySem.W.Frag) : List V → Hp → VK → Prop := fun xs H Q => ∃ (a C : Addr) (c : V) (u : Value) (b : Bool), xs = [.ref a, c] ∧ ClsV c u ∧ ((∃ f v, ErrAt H a C f v) ∨ H a = some (ExO (.ref C) a)) ∧ XfC K C ∧ KitC K C ∧
  PySem.W.kitOne K (.ref C) u = some b ∧ Q (.bl b) H
theorem call_isX : CallR X (.builtin "isinstance") (rIsX X.K) := by
  intro pins s σ H xs us Q I r h
  obtain ⟨a, C, c, u, b, rfl, kc, ha, T, Z, e, q⟩ := h
  obtain ⟨u1, u2, rfl, r1, r2⟩ := vals2 r
  obtain rfl : u1 = Value.ref a := r1
  have e2 := kc.eq r2
  subst e2
  rcases ha with ⟨f, v, d, ha, hd⟩ | ha
  · obtain ⟨t1, ho⟩ := exo_at I.hok ha
    obtain ⟨mA, hns, hr⟩ := exd_at I.hok hd
    obtain ⟨od, hod, hl⟩ := lookIn_ns hns
    have J : PySem.W.InstAt s.heap a { cls := .ref C, dict := some d, data := .fields #[.ref t1, .none, .none, .none, .bool false, .none] } C (some od) := ⟨ho, rfl, rfl, hod⟩
    exact PySem.W.kia_one (PySem.W.kitx_exc Z.cl T.ga T.gg T.exC Z.at_ Z.sp Z.tk Z.ob) I.kIn J e (fun z => nomatch z) fun tk => ⟨.bl b, H, I.tok tk, rfl, q⟩
  · obtain ⟨⟨oe, vs, ho, hz, hdt, _⟩, _, _⟩ := I.hok a _ ha
    have J : PySem.W.InstAt s.heap a oe C none := ⟨ho, hz.1, by unfold PySem.W.notCls; rw [hdt] <;> rfl, by rw [hz.2]; exact True.intro⟩
    exact PySem.W.kia_one (PySem.W.kitx_exc Z.cl T.ga T.gg T.exC Z.at_ Z.sp Z.tk Z.ob) I.kIn J e (fun z => nomatch z) fun tk => ⟨.bl b, H, I.tok tk, rfl, q⟩
/-- C(), a class without fields -/
theorem pe_exc0 {bmB : List Value} {B newId initId : String} {x : Str} {p pos : Pos} (F : ExcBaseFacts B newId initId bmB) (q : PySem.W.excIn X.K C bmB newId = true) (gC : X.mg x = some (.ref C)) (kC : PySem.W.keepIn X.K (.ref C) = true) (hg : Gl X x)
    (hdb : (x == ("__debug__" : Str)) = false := by decide) :
    PE X (.Call (.Name x p) [] [] pos) (fun _ H Q => ∀ a, H a = none → Q (.ref a) (upd H a (ExO (.ref C) a))) := by
  refine ⟨fun pins s σ H Q I h => ?_⟩
  refine wpAny_Call_Name_kw (ld_glob I hg gC ?_ hdb)
  refine PySem.W.callWith_K0 I.kIn kC ?_
  obtain ⟨bm, N, nm, qn, bs, hdct, sn, sub, ab, col, dd, k0, k1, k2, k3, k5, mN, hC, hN, hni, T⟩ := exc_obj I.kIn q
  refine wpAny_call_exc_subT F T hC hN hni (fun h' a hm => ?_) (Nat.zero_le _)
  have hn : H a = none := I.hok.gone hm.new
  obtain ⟨t, ht, _, _⟩ := hm.there
  exact ⟨.ref a, upd H a (ExO (.ref C) a), I.laidN hm.keeps hm.new hn (exO_ok ht ⟨rfl, rfl⟩ rfl rfl rfl (show 4 < 6 by decide)), rfl, h a hn⟩
end
end My

namespace My
open PySem PySem.Spec PyProof.Rows L2
/-! ### a class of errors with one field -/
/-- what the written part says of the class at C, called x, with the field f; its __init__ stands at fI -/
structure ErrC (K : PySem.W.Frag) (mg : Str → Option Value) (x f : Str) (C fI : Addr) : Prop where
  gl : mg x = some (.ref C)
  oex : OexC K C
  xf : XfC K C
  kit : KitC K C
  iC : PySem.W.findIn K (.ref C) "__init__" = some (some (.ref fI))
  tI : PySem.W.typeIn K (.ref fI) = some (.type "function")
  no : PySem.W.findIn K (.ref C) f = some none
/-- __init__ of an error: the field is stored -/
def spInit (C : Addr) (f : Str) : Sp := fun vs H Q _ => ∃ (a : Addr) (v : V), vs = [.ref a, v] ∧ H a = some (exo a C none) ∧
  ∀ dx, H dx = none → dx ≠ a → Q .non (upd (upd H dx (exd dx [(f, v)])) a (exo a C (some dx)))
section
variable {P : Program} {w : World} {K : PySem.W.Frag} {mg : Str → Option Value} {base : Heap} {C fI : Addr} {fd : FuncData} {x f : Str}
theorem ok_init {st : Stmt} {qual : Str} (T : ErrC K mg x f C fI) (F : FunD K "__init__" qual (defArgs st) (defBody st) (defScope st) [] [] fI fd) (S : FnScope ["self", f] ["self", f] (defScope st))
    (hb : ∃ q1 q2 q3 q4, defBody st = [.Assign [.Attribute (.Name "self" q1) f q2] (.Name f q3) q4]) (d1 : (f == ("__debug__" : Str)) = false) (d2 : (f == ("__classdict__" : Str)) = false) :
    FnOk P w K mg base CX0 1 fI fd ["self", f] (spInit C f) := by
  obtain ⟨q1, q2, q3, q4, hb⟩ := hb
  refine F.ok S (fun vs H Q E h => ?_) (fun cdv A outer s H vs Q E hr h => ⟨_, PSs.nox (by
    rw [hb]
    exact pss_one (ps_ost (pe_var (i := 0) rfl (vis_par S List.mem_cons_self)) (pe_var (i := 1) rfl (vis_par S (List.mem_cons_of_mem _ List.mem_cons_self)) d1 d2))), ?_⟩)
  · obtain ⟨a, v, rfl, _⟩ := h
    rfl
  · obtain ⟨a, v, rfl, ha, q⟩ := h
    exact ⟨_, rfl, _, rfl, a, C, rfl, T.oex, T.no, .inl ⟨ha, fun dx n ne => q dx n ne⟩⟩
/-- all that a caller wants of such a class -/
def Er (P : Program) (w : World) (K : PySem.W.Frag) (mg : Str → Option Value) (base : Heap) (x f : Str) (C : Addr) : Prop := ∃ (fI : Addr) (fd : FuncData), ErrC K mg x f C fI ∧ FnOk P w K mg base CX0 1 fI fd ["self", f] (spInit C f) ∧
  Binds K fd ["self", f] [] ∧ ∀ (s : Shared) (u v : Value), K.In s.heap → BindsTo s fd ⟨[u], [(f, v)]⟩ ((["self", f] : List Str).zip [u, v])
/-- C(e), C(f = e) as values -/
def tEr (C : Addr) (f : Str) (te : TE) : TE := fun σ H Q => te σ H fun v H1 => ∀ a H', H1 a = none → Ext H1 H' → ErrAt H' a C f v → Q (.ref a) H'
theorem tEr_of {C : Addr} {f : Str} {v : V} {H : Hp} {Q : VK} (h : ∀ a H', H a = none → Ext H H' → ErrAt H' a C f v → Q (.ref a) H') {a : Addr} (ha : H a = none) :
    spInit C f [.ref a, v] (upd H a (exo a C none)) (fun z H2 => z = .non ∧ Q (.ref a) H2) E0 := by
  refine ⟨a, v, rfl, upd_same, fun dx n ne => ⟨rfl, ?_⟩⟩
  have hn : H dx = none := by
    rw [upd_ne ne] at n
    exact n
  refine h a _ ha (fun b o e => ?_) ⟨dx, upd_same, ?_⟩
  · rw [upd_ne (ne_of_none e ha), upd_ne (ne_of_none e hn), upd_ne (ne_of_none e ha)]
    exact e
  · rw [upd_ne ne, upd_same]
end
section
variable {X : Cx} {x f : Str} {C : Addr} {e : Expr} {te : TE} {p pos kpos : Pos}
theorem pe_er (E : Er X.prog X.w X.K X.mg X.base x f C) (hr : Room 2 X.A) (he : PE X e te) (hg : Gl X x := by rfl) (hdb : (x == ("__debug__" : Str)) = false := by decide)
    (h1 : starEach [e] X.env = (false, eval e X.env) :: starEach [] X.env := by rfl) (h2 : (backTo pos (starEach [] X.env)).any (·.1) = false := by rfl) :
    PE X (.Call (.Name x p) [e] [] pos) (tEr C f te) := by
  obtain ⟨fI, fd, T, F, b, _⟩ := E
  refine ⟨fun pins s σ H Q I h => ?_⟩
  refine wpAny_Call_Name_kw (ld_glob I hg T.gl ?_ hdb)
  refine PySem.W.callWith_K (h₀ := X.base) I.ok.mod.kin T.oex.kC ?_ h1 h2
  have ha : PA X [e] (tCons te tNil) := pa_cons he pa_nil h1
  refine thn (ha.run pos pins s σ H (fun vs H1 => match vs with | [v] => ∀ a H', H1 a = none → Ext H1 H' → ErrAt H' a C f v → Q (.ref a) H' | _ => False) I h) fun us s1 ⟨vs, H1, I1, r1, q1⟩ => ⟨I1.kIn, ?_⟩
  cases r1 with
  | nil => exact False.elim q1
  | cons rv rn =>
    cases rn with
    | cons _ _ => exact False.elim q1
    | nil =>
      refine run_err T.oex T.iC T.tI F hr pass0 (fun s a KX => b s [Value.ref a, _] KX rfl) (show 1 ≤ 1000 by decide) I1 (.cons rv .nil) fun a ha => tEr_of q1 ha
theorem pe_erK (E : Er X.prog X.w X.K X.mg X.base x f C) (hr : Room 2 X.A) (he : PE X e te) (hg : Gl X x := by rfl) (hdb : (x == ("__debug__" : Str)) = false := by decide)
    (hall : (backToKw pos (keywordEach [⟨some f, e, kpos⟩] X.env)).all (·.1.isSome) = true := by rfl) (hks : (backToKw pos (keywordEach [⟨some f, e, kpos⟩] X.env)).filterMap (·.1) = [f] := by rfl)
    (hpl : ((backTo pos (starEach [] X.env)).any (·.1) || (backToKw pos (keywordEach [⟨some f, e, kpos⟩] X.env)).any (·.1.isNone)) = false := by rfl) :
    PE X (.Call (.Name x p) [] [⟨some f, e, kpos⟩] pos) (tEr C f te) := by
  obtain ⟨fI, fd, T, F, _, b⟩ := E
  refine ⟨fun pins s σ H Q I h => ?_⟩
  refine wpAny_Call_Name_kw (ld_glob I hg T.gl ?_ hdb)
  refine PySem.W.callWith_KW0 (h₀ := X.base) I.ok.mod.kin T.oex.kC hall ?_ hpl
  have ha : PK X [⟨some f, e, kpos⟩] (tCons te tNil) := pk_cons he pk_nil
  refine thn (ha.run pos pins s σ H (fun vs H1 => match vs with | [v] => ∀ a H', H1 a = none → Ext H1 H' → ErrAt H' a C f v → Q (.ref a) H' | _ => False) I h) fun us s1 ⟨vs, H1, I1, r1, q1⟩ => ⟨I1.kIn, ?_⟩
  rw [hks]
  cases r1 with
  | nil => exact False.elim q1
  | cons rv rn =>
    cases rn with
    | cons _ _ => exact False.elim q1
    | nil => exact run_err (us := []) T.oex T.iC T.tI F hr pass0 (fun s a KX => b s _ _ KX) (by decide) I1 (.cons rv .nil) fun a ha => tEr_of q1 ha
end
/-! ### many errors at once -/
def AllErr (H : Hp) (v : V) : List Addr → List (Addr × Str) → Prop
  | [], [] => True
  | a :: as, c :: cs => ErrAt H a c.1 c.2 v ∧ AllErr H v as cs
  | _, _ => False
theorem AllErr.ext {H H' : Hp} {v : V} (x : Ext H H') : ∀ {as : List Addr} {cs : List (Addr × Str)}, AllErr H v as cs → AllErr H' v as cs
  | [], [], _ => True.intro
  | a :: as, c :: cs, h => ⟨h.1.ext x, AllErr.ext x h.2⟩
  | [], _ :: _, h => h.elim
  | _ :: _, [], h => h.elim
theorem AllErr.len {H : Hp} {v : V} : ∀ {as : List Addr} {cs : List (Addr × Str)}, AllErr H v as cs → as.length = cs.length
  | [], [], _ => rfl
  | a :: as, c :: cs, h => by rw [List.length_cons, List.length_cons, AllErr.len h.2]
  | [], _ :: _, h => h.elim
  | _ :: _, [], h => h.elim
theorem AllErr.app {H : Hp} {v : V} : ∀ {as bs : List Addr} {cs ds : List (Addr × Str)}, AllErr H v as cs → AllErr H v bs ds → AllErr H v (as ++ bs) (cs ++ ds)
  | [], _, [], _, _, k => k
  | a :: as, _, c :: cs, _, h, k => ⟨h.1, AllErr.app h.2 k⟩
  | [], _, _ :: _, _, h, _ => h.elim
  | _ :: _, _, [], _, h, _ => h.elim
theorem AllErr.at_ {H : Hp} {v : V} : ∀ {as : List Addr} {cs : List (Addr × Str)} {i : Nat} {c : Addr × Str}, AllErr H v as cs → cs[i]? = some c → ∃ a, as[i]? = some a ∧ ErrAt H a c.1 c.2 v
  | [], [], _, _, _, e => by simp at e
  | a :: as, c :: cs, 0, _, h, e => ⟨a, rfl, by cases e; exact h.1⟩
  | a :: as, c :: cs, i + 1, _, h, e => AllErr.at_ (i := i) h.2 e
  | [], _ :: _, _, _, h, _ => h.elim
  | _ :: _, [], _, _, h, _ => h.elim
def tErL : List (Addr × Str) → TE → TA
  | [], _ => tNil
  | c :: cs, te => tCons (tEr c.1 c.2 te) (tErL cs te)
theorem erL_run {i : Nat} {σ : L2.St} {v : V} (hi : σ[i]? = some (some v)) : ∀ (cs : List (Addr × Str)) (H : Hp) (Q : List V → Hp → Prop), (∀ as H', Ext H H' → AllErr H' v as cs → Q (as.map V.ref) H') → tErL cs (tVar i) σ H Q
  | [], H, Q, h => h [] H Ext.rfl' True.intro
  | c :: cs, H, Q, h => ⟨v, hi, fun a H1 _ x1 e1 => erL_run hi cs H1 _ fun as H2 x2 e2 => h (a :: as) H2 (x1.trans x2) ⟨e1.ext x2, e2⟩⟩
end My

namespace PySem
namespace MyD
open PySem.W Builtin
section
variable {prog : Program} {w : World} {A : Around} {E : Value → Shared → Prop} {s : Shared} {K : Frag} {x C f : Addr} {ox : Obj} {od : Option Obj}
/-- y in x, x an instance with an own __contains__ -/
theorem contains_own {M : Model} {y : Value} {Q : Bool → Shared → Prop} (X : K.In s.heap) (I : InstAt s.heap x ox C od) (hs : findIn K (.ref C) "__contains__" = some (some (.ref f))) (hf : isFn K (.ref f) = true)
    (h : wpAny M A (call (.ref f) [.ref x, y]) (fun r s' => ∃ b, r = .bool b ∧ Q b s') E s) : wpAny M A (contains (.ref x) y) Q E s := by
  have body : wpAny M A (callSpecialUnlessNone? (.ref x) "__contains__" [y] (do rule "in.none"; raiseError "TypeError" s!"'{← typeNameOf (.ref x)}' object is not a container")) (fun r s' => ∃ b, r = some (.bool b) ∧ Q b s') E s := by
    unfold callSpecialUnlessNone?
    refine wpAny_bind (wpAny_bind (I.type.here ((looks_findIn X hs).here ?_)))
    refine wpAny_holding (wpAny_bind ((bind_fn X _ (beq_iff_eq.mp hf)).here ?_))
    refine wpAny_bind (wpAny_mono h (fun r s' hr => ?_) fun _ _ e => e)
    obtain ⟨b, rfl, q⟩ := hr
    exact wpAny_pure ⟨b, rfl, q⟩
  unfold contains
  refine wpAny_holding ?_
  refine wpAny_bind (wpAny_bind (I.type.here ((looks_findIn X hs).here ?_)))
  rw [if_neg (show ¬ (some (Value.ref f) == some Value.none) = true from Bool.false_ne_true)]
  refine wpAny_bind (wpAny_mono body (fun r s' hr => ?_) fun _ _ e => e)
  obtain ⟨b, rfl, q⟩ := hr
  exact wpAny_truthy_bool q
/-- x != b, the class of x with an own __eq__ and object's __ne__ -/
theorem ne_own {b tb : Value} {Q : Value → Shared → Prop} (hu : A.units + 1 < cLine) (X : K.In s.heap) (I : InstAt s.heap x ox C od) (hb : Looks (model prog w) s.heap (typeOf b) tb) (hn : notFirst K C tb = true)
    (hne : findIn K (.ref C) "__ne__" = some (some (.builtin "object.__ne__"))) (hob : mroIn K C (.type "object") = some true) (hs : findIn K (.ref C) "__eq__" = some (some (.ref f))) (hf : isFn K (.ref f) = true)
    (h : wpAny (model prog w) A.in1 (call (.ref f) [.ref x, b]) (fun r s' => ∃ k, r = .bool k ∧ Q (.bool (!k)) s') E s) : wpAny (model prog w) A (richCompare .NotEq (.ref x) b) Q E s := by
  have sub : Looks (model prog w) s.heap (isInstance (.ref x) (.type "object")) true := I.type.andThen (looks_mroIn X hob)
  have go : wpAny (model prog w) A (call (.builtin "object.__ne__") ([.ref x] ++ [b])) (fun v s' => ∃ k, v = .bool (!k) ∧ Q (.bool (!k)) s') E s := by
    show wpAny _ _ (call (.builtin "object.__ne__") [.ref x, b]) _ _ _
    refine wpAny_call (codeAny_call_builtin F.cmp_object.ne.plain F.cmpEntry_ne ?_)
    refine check_slot F.cmpKind_ne F.cmpSplit_ne sub (F.cmpArgs_ne _ _) ?_
    unfold Builtin.«object.__ne__»
    refine wpAny_bind (wpAny_of_eq (a := ((Value.ref x : Value), [b])) (by first | rfl | (simp only [slotArgs]; rfl)) ?_)
    refine wpAny_bind (wpAny_cRoomFor hu ?_)
    refine wpAny_bind (ifBound_K X I hs hf (wpAny_mono h (fun v s' hv => ?_) fun _ _ e => e))
    obtain ⟨k, rfl, q⟩ := hv
    refine wpAny_bind (wpAny_truthy_bool ?_)
    exact wpAny_pure ⟨k, rfl, q⟩
  have bnd : wpAny (model prog w) A (callSpecialIfBound? (.ref x) "__ne__" [b]) (fun r s' => ∃ k, r = some (.bool (!k)) ∧ Q (.bool (!k)) s') E s := by
    simp only [callSpecialIfBound?, bindSpecialIfBound?]
    refine wpAny_holding (wpAny_bind (wpAny_bind (wpAny_bind (I.type.here ((looks_findIn X hne).here ?_)))))
    refine wpAny_bind (wpAny_askSetting (wpAny_ite ?_))
    have fin : wpAny (model prog w) A (call (.builtin "object.__ne__") ([.ref x] ++ [b]) >>= fun v => pure (some v)) (fun r s' => ∃ k, r = some (.bool (!k)) ∧ Q (.bool (!k)) s') E s := by
      refine wpAny_bind (wpAny_mono go (fun v s' hv => ?_) fun _ _ e => e)
      obtain ⟨k, rfl, q⟩ := hv
      exact wpAny_pure ⟨k, rfl, q⟩
    split
    · exact wpAny_bind (wpAny_of_eq (F.cmp_object.ne.bind _) (wpAny_pure (by exact fin)))
    · exact wpAny_tryCatch (wpAny_bind (wpAny_of_eq (F.cmp_object.ne.bind _) (wpAny_pure (by exact fin))))
  have one : wpAny (model prog w) A (tryCompare (.ref x) "__ne__" b) (fun r s' => ∃ v, r = some v ∧ Q v s') E s := by
    unfold tryCompare
    refine wpAny_bind (wpAny_mono bnd (fun r s' hv => ?_) fun _ _ e => e)
    obtain ⟨k, rfl, q⟩ := hv
    exact wpAny_pure ⟨_, rfl, q⟩
  unfold richCompare
  simp only [oneThing_ref]
  refine wpAny_holding (wpAny_bind (wpAny_cRoomFor (by omega) ?_))
  refine wpAny_bind (I.type.here (wpAny_bind (hb.here ?_)))
  split
  · rename_i q
    have e : subIn K tb (.ref C) = some false := by
      rcases Bool.or_eq_true_iff.mp hn with e | e
      · rw [beq_iff_eq.mp e] at q
        simp at q
      · exact beq_iff_eq.mp e
    refine wpAny_bind ((looks_subIn X e).here ?_)
    simp only [Bool.false_eq_true, if_false]
    refine wpAny_bind (wpAny_mono one (fun r s' z => ?_) fun _ _ e => e)
    obtain ⟨v, rfl, hq⟩ := z
    exact wpAny_pure hq
  · refine wpAny_bind (wpAny_pure ?_)
    simp only [Bool.false_eq_true, if_false]
    refine wpAny_bind (wpAny_mono one (fun r s' z => ?_) fun _ _ e => e)
    obtain ⟨v, rfl, hq⟩ := z
    exact wpAny_pure hq
end
end MyD
end PySem

namespace L2
open PySem PySem.Spec PyProof.Rows
/-! ### own operators, run -/
section
variable {X : Cx} {pins : List (Addr × Obj)} {σ : St} {H : Hp} {s : Shared} {CI : CXT} {f : Addr} {fd : FuncData} {ps : List Str} {sp : Sp} {EI : XK} {n : Nat} {A1 : Around}
theorem envSub (I : Inv X pins σ H s) (sb : Sub X n A1) : Env0 X.prog X.w X.K X.mg X.base A1 X.stack s H := by
  have e := I.env0
  exact ⟨by rw [sb.fr]; exact e.frames, e.mod, e.bs, e.bsz, e.funs, e.frf, e.hok, e.bare⟩
theorem rv2 (a : Addr) {y : V} {u : Value} (r : RelV y u) : Vals [V.ref a, y] [Value.ref a, u] := .cons rfl (.cons r .nil)
/-- a known def runs somewhere below the body -/
theorem run_sub {xs : List V} {us : List Value} {Q : VK} {base : Heap} (sb : Sub X n A1) (F : FnOk X.prog X.w X.K X.mg base CI n f fd ps sp) (e0 : Env0 X.prog X.w X.K X.mg base A1 X.stack s H) (hb : Binds X.K fd ps []) (hx : Passes CI X EI)
    (I : Inv X pins σ H s) (rv : Vals xs us) (hsp : sp xs H Q EI) : wpAny (model X.prog X.w) A1 (call (.ref f) us) (EP X pins σ Q) X.xe s := by
  have hl := F.len _ _ _ _ hsp
  have hl' : us.length = ps.length := by rw [← rv.length]; exact hl
  refine wpAny_call (codeAny_mono (F.run A1 X.stack s H ⟨us, []⟩ us xs Q EI sb.room e0 (by
    have := hb s us I.kIn (by simpa using hl')
    simpa using this) rv hsp) fun r s' hq => ?_)
  cases r with
  | error e => exact hx pins σ H s e s' I hq
  | ok fl =>
    cases fl with
    | ret u => exact I.after hq
    | next => exact False.elim hq
    | brk => exact False.elim hq
    | cont => exact False.elim hq
/-- a method under its name -/
structure OwnM (K : PySem.W.Frag) (C : Addr) (m : Str) (f : Addr) : Prop where
  at_ : PySem.W.findIn K (.ref C) m = some (some (.ref f))
  fn : PySem.W.isFn K (.ref f) = true
/-- x in o -/
def rInO (C : Addr) (sp : Sp) (E : XK) : R2 := fun x y H Q => ∃ a dx fs, y = .ref a ∧ H a = some (.ins C dx fs) ∧ sp [.ref a, x] H (fun v H' => ∃ b, v = .bl b ∧ Q (.bl b) H') E
theorem op_inO {C : Addr} (hr : Room n X.A) (M : OwnM X.K C "__contains__" f) (F : FnOk X.prog X.w X.K X.mg X.base CI n f fd ps sp) (hb : Binds X.K fd ps []) (hx : Passes CI X EI) : OpR X (compareOp .In) (rInO C sp EI) := by
  intro pins s σ H x y v u Q I rx ry h
  obtain ⟨a, dx, fs, rfl, ha, hsp⟩ := h
  cases ry
  obtain ⟨mA, J, _⟩ := ins_get I.hok ha
  obtain ⟨od, J, _⟩ := J.look
  show wpAny _ _ (contains (.ref a) v >>= fun z => pure (Value.bool z)) _ _ s
  refine wpAny_bind (wpAny_mono (MyD.contains_own (Q := fun b s' => EP X pins σ Q (.bool b) s') I.kIn J M.at_ M.fn ?_) (fun b s' hb => wpAny_pure hb) fun _ _ z => z)
  refine wpAny_mono (run_sub ⟨hr, rfl⟩ F (envSub I ⟨hr, rfl⟩) hb hx I (rv2 a rx) hsp) (fun w s' hq => ?_) fun _ _ z => z
  obtain ⟨z, H', I', rz, b, rfl, q⟩ := hq
  cases rz
  exact ⟨b, rfl, .bl b, H', I', rfl, q⟩
/-- o == y, o an instance with its own __eq__, y anything whose type is not one below o's class -/
def rEqO (K : PySem.W.Frag) (C : Addr) (sp : Sp) (E : XK) : R2 := fun x y H Q => ∃ a dx fs t, x = .ref a ∧ H a = some (.ins C dx fs) ∧ TyX K H y t ∧ PySem.W.notFirst K C t = true ∧ sp [.ref a, y] H (fun v H' => ∃ b, v = .bl b ∧ Q (.bl b) H') E
theorem op_eqO {C : Addr} (hr : Room n X.A) (M : OwnM X.K C "__eq__" f) (F : FnOk X.prog X.w X.K X.mg X.base CI n f fd ps sp) (hb : Binds X.K fd ps []) (hx : Passes CI X EI) : OpR X (compareOp .Eq) (rEqO X.K C sp EI) := by
  intro pins s σ H x y v u Q I rx ry h
  obtain ⟨a, dx, fs, t, rfl, ha, ty, nf, hsp⟩ := h
  cases rx
  obtain ⟨mA, J, _⟩ := ins_get I.hok ha
  obtain ⟨od, J, _⟩ := J.look
  obtain ⟨m, hF⟩ := I.fr
  obtain ⟨P, Z, p, hx'⟩ := kit_of I ry ty
  show wpAny _ _ (richCompare .Eq (.ref a) u) _ _ _
  refine PySem.W.cmp_K (op := .Eq) (tb := t) hr.units0 hF I.ok.mod.kin J (Z.ty _ _ I.kIn p) nf M.at_ M.fn ?_
  refine wpAny_mono (run_sub ⟨hr, rfl⟩ F (envSub I ⟨hr, rfl⟩) hb hx I (rv2 a ry) hsp) (fun w s' hq => ?_) fun _ _ z => z
  obtain ⟨z, H', I', rz, b, rfl, q⟩ := hq
  cases rz
  exact ⟨.bl b, H', I', rfl, q⟩
/-- o != y -/
def rNeO (K : PySem.W.Frag) (C : Addr) (sp : Sp) (E : XK) : R2 := fun x y H Q => ∃ a dx fs t, x = .ref a ∧ H a = some (.ins C dx fs) ∧ TyX K H y t ∧ PySem.W.notFirst K C t = true ∧ sp [.ref a, y] H (fun v H' => ∃ b, v = .bl b ∧ Q (.bl (!b)) H') E
theorem op_neO {C : Addr} (hr : Room (n + 1) X.A) (M : OwnM X.K C "__eq__" f) (hne : PySem.W.findIn X.K (.ref C) "__ne__" = some (some (.builtin "object.__ne__"))) (hob : PySem.W.mroIn X.K C (.type "object") = some true)
    (F : FnOk X.prog X.w X.K X.mg X.base CI n f fd ps sp) (hb : Binds X.K fd ps []) (hx : Passes CI X EI) : OpR X (compareOp .NotEq) (rNeO X.K C sp EI) := by
  intro pins s σ H x y v u Q I rx ry h
  obtain ⟨a, dx, fs, t, rfl, ha, ty, nf, hsp⟩ := h
  cases rx
  obtain ⟨mA, J, _⟩ := ins_get I.hok ha
  obtain ⟨od, J, _⟩ := J.look
  obtain ⟨P, Z, p, hx'⟩ := kit_of I ry ty
  have sb : Sub X n X.A.in1 := Sub.in1 (⟨hr, rfl⟩ : Sub X (n + 1) X.A)
  show wpAny _ _ (richCompare .NotEq (.ref a) u) _ _ _
  refine MyD.ne_own (by have := hr.un; omega) I.kIn J (Z.ty _ _ I.kIn p) nf hne hob M.at_ M.fn ?_
  refine wpAny_mono (run_sub sb F (envSub I sb) hb hx I (rv2 a ry) hsp) (fun w s' hq => ?_) fun _ _ z => z
  obtain ⟨z, H', I', rz, b, rfl, q⟩ := hq
  cases rz
  exact ⟨b, rfl, .bl (!b), H', I', rfl, q⟩
/-- len(o) -/
def rLenO (C : Addr) (sp : Sp) (E : XK) : List V → Hp → VK → Prop := fun xs H Q => ∃ a dx fs, xs = [.ref a] ∧ H a = some (.ins C dx fs) ∧ sp [.ref a] H (fun v H' => ∃ k : Int, v = .int k ∧ 0 ≤ k ∧ k < 2 ^ 63 ∧ Q (.int k) H') E
theorem call_lenO {C : Addr} (hr : Room (n + 1) X.A) (M : OwnM X.K C "__len__" f) (F : FnOk X.prog X.w X.K X.mg X.base CI n f fd ps sp) (hb : Binds X.K fd ps []) (hx : Passes CI X EI) : CallR X (.builtin "len") (rLenO C sp EI) := by
  intro pins s σ H xs us Q I rv h
  obtain ⟨a, dx, fs, rfl, ha, hsp⟩ := h
  obtain ⟨u, rfl, ru⟩ := rv.one
  cases ru
  obtain ⟨mA, J, _⟩ := ins_get I.hok ha
  obtain ⟨od, J, _⟩ := J.look
  obtain ⟨m, hF⟩ := I.fr
  have sb : Sub X n X.A.in1 := Sub.in1 (⟨hr, rfl⟩ : Sub X (n + 1) X.A)
  refine PySem.W.len_K hF I.ok.mod.kin J M.at_ M.fn ?_
  refine wpAny_mono (run_sub sb F (envSub I sb) hb hx I rv hsp) (fun w s' hq => ?_) fun _ _ z => z
  obtain ⟨z, H', I', rz, k, rfl, k0, k1, q⟩ := hq
  obtain ⟨t, rfl⟩ := rz
  exact ⟨⟨k0, k1⟩, .int k, H', I'.tok _, ⟨_, rfl⟩, q⟩
end
end L2

namespace L2
open PySem PySem.Spec PyProof.Rows
/-! ### a base with room behind it: what is not in it is young -/
def deadO : Obj := ⟨.none, none, .freed, #[]⟩
def padB (h : Heap) (n : Nat) : Heap := ⟨h.objs ++ Array.replicate n deadO, h.life⟩
theorem padB_get (h : Heap) (n : Nat) (b : Addr) : (padB h n).get? b = h.get? b := by
  by_cases k : b < h.objs.size
  · have e : (padB h n).objs[b]? = h.objs[b]? := by show (h.objs ++ Array.replicate n deadO)[b]? = _; rw [Array.getElem?_append_left k]
    unfold Heap.get?
    rw [e]
  · have e : h.get? b = none := by
      unfold Heap.get?
      rw [Array.getElem?_eq_none (Nat.le_of_not_lt k)]
    rw [e]
    unfold Heap.get?
    have e2 : (padB h n).objs[b]? = (Array.replicate n deadO)[b - h.objs.size]? := by
      show (h.objs ++ Array.replicate n deadO)[b]? = _
      rw [Array.getElem?_append_right (Nat.le_of_not_lt k)]
    rw [e2, Array.getElem?_replicate]
    split
    · rename_i q
      split at q
      · cases q; rfl
      · cases q
    · rename_i q
      split at q
      · exact absurd rfl (q _ _ _)
      · rw [if_neg (by assumption)]
theorem padB_size (h : Heap) (n : Nat) : (padB h n).objs.size = h.objs.size + n := by
  show (h.objs ++ Array.replicate n deadO).size = _
  rw [Array.size_append, Array.size_replicate]
theorem padB_keeps (h : Heap) (n : Nat) : ∀ b o, h.get? b = some o → (padB h n).get? b = some o := fun b o e => by rw [padB_get]; exact e
theorem Mod.pad {K : PySem.W.Frag} {mg : Str → Option Value} {base : Heap} (m : Mod K mg base) (n : Nat) : Mod K mg (padB base n) :=
  ⟨fun a o e => padB_keeps _ _ _ _ (m.kin a o e), m.glob.keeps (padB_keeps _ _), m.blt.elim fun mb h => ⟨mb, h.1.keeps (padB_keeps _ _), h.2⟩, m.nolimit.keeps (padB_keeps _ _)⟩
theorem funFrames_pad {h base : Heap} (n : Nat) : ∀ {l : List Env}, h.FunFrames base l → h.FunFrames (padB base n) l
  | [], _ => True.intro
  | _ :: _, ⟨a, ⟨L, o, e1, e2, e3⟩, r⟩ => ⟨a, ⟨L, o, e1, by rw [padB_get]; exact e2, e3⟩, funFrames_pad n r⟩
theorem Env0.pad {P : Program} {w : World} {K : PySem.W.Frag} {mg : Str → Option Value} {base : Heap} {A : Around} {outer : List Env} {s : Shared} {H : Hp} (e : Env0 P w K mg base A outer s H) {n : Nat} (hn : base.objs.size + n ≤ s.heap.objs.size) :
    Env0 P w K mg (padB base n) A outer s H := ⟨e.frames, e.mod.pad n, fun b o q => e.bs b o (by rw [padB_get] at q; exact q), by rw [padB_size]; exact hn, funFrames_pad n e.funs, e.frf, e.hok, e.bare⟩
/-! ### iter(tuple) as a value -/
def itT (l : Addr) (i : Nat) : Obj := { cls := .type "tuple_iterator", data := .fields #[.ref l, .int i 0] }
def ItoT (l it : Addr) : HO := .ext fun h => h.get? it = some (itT l 0)
theorem itoT_ok {P : Program} {w : World} {H : Hp} {h : Heap} {l it : Addr} (e : h.get? it = some (itT l 0)) : ObjOk P w H h it (ItoT l it) := ⟨e, ⟨_, e⟩, fun h1 h2 q k => k _ q⟩
def rIterT (K : PySem.W.Frag) (n : Nat) : List V → Hp → VK → Prop := fun xs H Q => ∃ (l : Addr) (zs : List V), xs = [.ref l] ∧ SqT K H l zs ∧ ∀ it, H it = Option.none → n ≤ it → Q (.ref it) (upd H it (ItoT l it))
section
variable {X : Cx} {pins : List (Addr × Obj)} {σ : St} {H : Hp} {s : Shared}
theorem call_iter_tup {prog : Program} {w : World} {A : Around} {E : Value → Shared → Prop} {l : Addr} {items : Array Value} {Q : Value → Shared → Prop} (hl : s.heap.IsTuple l items) (h : Q (.ref s.heap.objs.size) { s with heap := s.heap.push (itT l 0) }) : wpAny (model prog w) A (call (.builtin "iter") [.ref l]) Q E s := by
  refine Calls.call_function_entry (by decide +kernel) (by decide +kernel) PySem.W.kdk_entry_iter (PySem.W.kdk_args_iter _) ?_
  unfold Builtin.«iter»
  refine wpAny_bind (m := someArgs "iter" 1 2 _) (wpAny_of_eq (a := [Value.ref l]) (by first | rfl | kernel_rfl!) ?_)
  show wpAny _ _ (pyIter (.ref l) >>= _) _ _ _
  refine wpAny_bind (wpAny_pyIter_tuple hl ?_)
  exact wpAny_pure ⟨_, rfl, h⟩
theorem call_iterT : CallR X (.builtin "iter") (rIterT X.K X.base.objs.size) := by
  intro pins s σ H xs us Q I r h
  obtain ⟨l, zs, rfl, hq, q⟩ := h
  obtain ⟨u, rfl, ru⟩ := vals1 r
  cases ru
  obtain ⟨its, rv, pl, hz⟩ := I.tuple hq
  refine call_iter_tup (show s.heap.IsTuple l its.toArray from pl) ?_
  exact ⟨.ref s.heap.objs.size, _, I.laid (t' := s.toks) (fun b u e => Heap.get?_push_of_some _ e) (Nat.le_refl _) (itoT_ok (Heap.get?_push_size _ rfl)), rfl, q _ (I.hok.fresh (Nat.le_refl _)) (Nat.le_trans I.ok.bsz I.sz)⟩
theorem rv1 (a : Addr) : Vals [V.ref a] [Value.ref a] := .cons rfl .nil
/-! ### walked: an instance whose __iter__ gives iter(tuple) -/
/-- what __iter__ promises: N of the instance is a tuple at l -/
def spIter (K : PySem.W.Frag) (C : Addr) (N : Str) (n : Nat) : Sp := fun vs H Q _ => ∃ a dx fs l zs, vs = [.ref a] ∧ H a = some (.ins C dx fs) ∧ fs.lookup N = some (.ref l) ∧ SqT K H l zs ∧ ∀ it, H it = none → n ≤ it → Q (.ref it) (upd H it (ItoT l it))
def iOwn (K : PySem.W.Frag) (C : Addr) (N : Str) (te : TE) : TI := fun σ H R => te σ H fun x H1 => ∃ a dx fs l zs, x = .ref a ∧ H1 a = some (.ins C dx fs) ∧ fs.lookup N = some (.ref l) ∧ SqT K H1 l zs ∧ R (Itt K l) H1
variable {tg e : Expr} {te : TE} {C f : Addr} {fd : FuncData} {N : Str} {ps : List Str} {n : Nat}
theorem pi_own (hr : Room n X.A) (M : OwnM X.K C "__iter__" f) (Fi : ∀ base, FnOk X.prog X.w X.K X.mg base CX0 n f fd ps (spIter X.K C N base.objs.size)) (hb : Binds X.K fd ps []) (he : PE X e te) : PI X tg e (iOwn X.K C N te) := by
  refine ⟨fun pins s σ H R I h => ?_⟩
  refine thn (he.run pins s σ H _ I h) fun v s1 ⟨x, H1, I1, r1, q1⟩ => ?_
  obtain ⟨a, dx, fs, l, zs, rfl, ha, hf, hl, q⟩ := q1
  cases r1
  obtain ⟨mA, J, _⟩ := ins_get I1.hok ha
  obtain ⟨od, J, _⟩ := J.look
  obtain ⟨m, hF⟩ := I1.fr
  have sb : Sub X n X.A := ⟨hr, rfl⟩
  refine PySem.W.owit_iter hF I1.ok.mod.kin J M.at_ M.fn ?_
  have hsz : X.base.objs.size + (X.s_0.heap.objs.size - X.base.objs.size) = X.s_0.heap.objs.size := by have := I1.ok.bsz; omega
  have e0 := (envSub I1 sb).pad (n := X.s_0.heap.objs.size - X.base.objs.size) (by rw [hsz]; exact I1.sz)
  refine wpAny_mono (run_sub (Q := fun v H' => ∃ it, v = .ref it ∧ H1 it = none ∧ X.s_0.heap.objs.size ≤ it ∧ H' = upd H1 it (ItoT l it)) sb (Fi _) e0 hb (EI := fun _ _ _ => False) pass0 I1 (rv1 a) ⟨a, dx, fs, l, zs, rfl, ha, hf, hl, fun it h1 h2 => ⟨it, rfl, h1, by rw [padB_size, hsz] at h2; exact h2, rfl⟩⟩) (fun w s' hq => ?_) fun _ _ z => z
  obtain ⟨z, H', I', rz, it, rfl, hn, hy, rfl⟩ := hq
  cases rz
  have hit : upd H1 it (ItoT l it) it = some (ItoT l it) := upd_same
  have eo : s'.heap.get? it = some (itT l 0) := (I'.hok it _ hit).1
  have st : s'.heap.IsTupleIter it l 0 := ⟨_, eo, rfl, rfl⟩
  unfold PySem.W.OwitIt
  refine wpAny_specialOf st.typeIs PySem.F.slot_tuple_iterator_next.lookup ?_
  have hd : ItX.dropH (upd H1 it (ItoT l it)) it = H1 := ItX.dropH_upd hn
  have I2 := ItX.inv_drop I' (a := it) (φ := fun h => h.get? it = some (itT l 0)) hit
  have fp := ItX.inv_fp I' hit hy
  rw [hd] at I2 fp
  refine ⟨it, [it], _, _, H1, rfl, I2, turn_tuple l it, st, fun b hb => ?_, q⟩
  have e : b = it := by simpa using hb
  rw [e]
  exact fp
end
end L2

namespace PySem
namespace MyE
open PySem.W
/-- enumerate(v), one argument -/
theorem new1 {v : Value} {o : Obj} {H : Heap → Prop} (B : Begins v o H) :
    Meets (Builtin.«enumerate.__new__» ⟨[.type "enumerate", v], []⟩) (fun _ R s => H s.heap ∧
      R (.ok (.ret (.ref (s.heap.push o).objs.size))) { s with heap := (s.heap.push o).push { cls := .type "enumerate", data := .fields #[.none, .bool false, .ref s.heap.objs.size, rawInt 0, .none, .none] } }) :=
  .of_wp fun P1 w1 A1 R1 s1 z => by
    obtain ⟨hp, gs, dr, tk, oz⟩ := s1
    obtain ⟨z1, z2⟩ := z
    have subE := sub_enumerate
    have its : ∀ {A' : Around} {E : Value → Shared → Prop} {Q : Value → Shared → Prop}, Q (.ref hp.objs.size) ⟨hp.push o, gs, dr, tk, oz⟩ → wpAny (model P1 w1) A' (pyIter v) Q E ⟨hp, gs, dr, tk, oz⟩ :=
      fun q => B.iter P1 w1 _ _ ⟨hp, gs, dr, tk, oz⟩ _ z1 q
    wp_walk using its
    refine wpAny_stack_any fun _ => wpAny_pure ?_
    split
    · rename_i c _ _ _ _ _
      cases (c == Value.type "enumerate") <;> (wp_walk using its; exact ⟨_, rfl, z2⟩)
    · wp_walk using its
      exact ⟨_, rfl, z2⟩
theorem call1 {prog : Program} {w : World} {A : Around} {E : Value → Shared → Prop} {s : Shared} {v : Value} {o : Obj} {H : Heap → Prop} {Q : Value → Shared → Prop} (B : Begins v o H) (h1 : H s.heap)
    (h : ∀ h', IsEnum h' (s.heap.objs.size + 1) s.heap.objs.size 0 .none → h'.get? s.heap.objs.size = some o → (∀ b u, s.heap.get? b = some u → h'.get? b = some u) → Q (.ref (s.heap.objs.size + 1)) { s with heap := h' }) :
    wpAny (model prog w) A (call (.type "enumerate") [v]) Q E s := by
  refine callType_new F.called_enumerate (by decide) (F.typeCall_enumerate_1 _) (F.newCall_enumerate_1 _) (fun obj => F.args_object_init_2 obj _) F.entry_enumerate_new (new1 B) ⟨h1, ?_⟩
  have hz : (s.heap.push o).objs.size = s.heap.objs.size + 1 := Heap.size_push ..
  have he := Heap.get?_push_size (s.heap.push o) (o := { cls := .type "enumerate", data := .fields #[.none, .bool false, .ref s.heap.objs.size, rawInt 0, .none, .none] }) rfl
  show _ ∧ _
  rw [hz] at he ⊢
  exact ⟨⟨_, he, rfl⟩, h _ he (Heap.get?_push_of_some _ (Heap.get?_push_size _ B.free)) fun b u x => Heap.get?_push_of_some _ (Heap.get?_push_of_some _ x)⟩
end MyE
end PySem
namespace L2
open PySem PySem.Spec PyProof.Rows
/-! ### enumerate(tuple) -/
def IteT (K : PySem.W.Frag) (a : Addr) : It :=
  ⟨fun i H => ∃ (xs : List V) (x : V), SqT K H a xs ∧ xs[i]? = some x, fun i H v H' => ∃ T x, v = .ref T ∧ H T = none ∧ H' = upd H T (.tup [.int (i : Nat), x]) ∧ ∀ xs, SqT K H a xs → xs[i]? = some x, fun i H => ∃ xs : List V, SqT K H a xs ∧ xs.length = i⟩
theorem enum_ne {h : Heap} {e it l : Addr} {i : Int} {old : Value} {items : Array Value} (he : IsEnum h e it i old) (hl : h.IsTuple l items) : l ≠ e := fun z => by
  obtain ⟨o, ho, _, n, hd⟩ := hl
  rw [z, he] at ho
  cases ho
  cases hd
theorem iterT_ne {h : Heap} {it l : Addr} {i : Nat} {items : Array Value} (hi : h.IsTupleIter it l i) (hl : h.IsTuple l items) : l ≠ it := fun z => by
  obtain ⟨o, ho, _, n, hd⟩ := hl
  obtain ⟨o2, ho2, _, hd2⟩ := hi
  rw [z, ho2] at ho
  cases ho
  rw [hd2] at hd
  cases hd
theorem turn_enumT {P : Program} {w : World} {K : PySem.W.Frag} {elts : List Expr} {kk : Nat} {tpos : Pos} (a e it : Addr) :
    Turn P w K (.Tuple elts kk tpos) (IteT K a) [e, it] e (fun i h => (∃ old, IsEnum h e it ((i : Nat) : Int) old) ∧ h.IsTupleIter it a i ∧ e ≠ it) where
  mem := List.mem_cons_self
  obj := fun i h st b hb => by
    obtain ⟨⟨old, he⟩, ⟨o, ho, hc, hd⟩, _⟩ := st
    rcases List.mem_cons.mp hb with rfl | hb
    · exact ⟨_, he, fun v q => nomatch q⟩
    · rw [List.mem_singleton.mp hb]
      exact ⟨o, ho, fun v q => by rw [hd] at q; cases q⟩
  keep := fun i h h' st k => ⟨st.1.elim fun old z => ⟨old, k e List.mem_cons_self _ z⟩, st.2.1.at fun o q => k it (List.mem_cons_of_mem _ List.mem_cons_self) o q, st.2.2⟩
  item := by
    intro X hP hw hK hc i pins s σ H E I hf st hg
    subst hP hw hK
    obtain ⟨⟨old, he⟩, hit, hne⟩ := st
    obtain ⟨xs, x, hq, hx⟩ := hg
    obtain ⟨its, rv, p, hz⟩ := I.tuple hq
    obtain ⟨u, hu, ru⟩ := rv.get hx
    have pt : s.heap.IsTuple a its.toArray := p
    have hel : e < s.heap.objs.size := Heap.lt_size he
    have hlen : i < its.toArray.size := by
      rw [List.size_toArray]
      exact (List.getElem?_eq_some_iff.mp hu).1
    refine wpAny_pyNext_enum_itemD (Draws.tuple (A := X.A.in1) (I.ok.hd hc) it a (iterT_ne hit pt) its.toArray) he ⟨hit, pt⟩ hlen hne (by
      intro z
      rcases List.mem_cons.mp z with z | z
      · exact hne z
      · exact enum_ne he pt (List.mem_singleton.mp z).symm) fun y h' tk hy ho hit' hT hsz hk => ?_
    have ey : y = u := by
      rw [List.getElem?_toArray, hu] at hy
      exact (Option.some.inj hy).symm
    subst ey
    refine ⟨_, rfl, wpAny_letOwnedTupleGo_enum (s := { s with heap := h', toks := tk + 1 }) ho fun h'' he' sb => ?_⟩
    have hT2 : h''.get? s.heap.objs.size = some { cls := .type "tuple", data := .seq #[.int i tk, y] } := (sb.2 _ (Nat.ne_of_gt hel)).trans hT
    have new : ObjOk X.prog X.w (upd H s.heap.objs.size (.tup [.int (i : Nat), x])) h'' s.heap.objs.size (.tup [.int (i : Nat), x]) :=
      ⟨Nat.le_of_ble_eq_true rfl, [.int i tk, y], .cons ⟨_, rfl⟩ (.cons ru .nil), ⟨_, hT2, rfl, _, rfl⟩⟩
    have I1 : Inv X pins σ (upd H s.heap.objs.size (.tup [.int (i : Nat), x])) { s with heap := h'', toks := tk + 1 } :=
      I.turnedNew (ch := [e, it]) (fun b ob hb q => (sb.2 b (fun z => hb (by simp [z]))).trans (hk b ob (fun z => hb (by simp [z])) (fun z => hb (by simp [z])) q)) hf (Nat.le_refl _) new
    have hfr : H s.heap.objs.size = none := I.hok.fresh (Nat.le_refl _)
    refine ⟨.ref s.heap.objs.size, _, I1, rfl, ⟨_, x, rfl, hfr, rfl, fun ys hy => by rw [I.tuple_inj hy hq]; exact hx⟩, ⟨⟨y, ?_⟩, hit'.1.at fun o q => (sb.2 it (Ne.symm hne)).trans q, hne⟩, fun b hb => ?_⟩
    · have e1 : ((i + 1 : Nat) : Int) = (i : Int) + 1 := by omega
      rw [e1]
      exact he'
    · have bl : b < s.heap.objs.size := by
        rcases List.mem_cons.mp hb with rfl | hb
        · exact hel
        · rw [List.mem_singleton.mp hb]
          obtain ⟨_, z, _⟩ := hit
          exact Heap.lt_size z
      rw [upd_ne (Nat.ne_of_lt bl)]
      exact (hf b hb).1
  done := by
    intro X hP hw hK hc i pins s σ H E I hf st hg
    subst hP hw hK
    obtain ⟨⟨old, he⟩, hit, hne⟩ := st
    obtain ⟨xs, hq, hx⟩ := hg
    obtain ⟨its, rv, p, hz⟩ := I.tuple hq
    obtain ⟨f0, f1, f2, f3, f4, f5⟩ := hf it (List.mem_cons_of_mem _ List.mem_cons_self)
    have pt : s.heap.IsTuple a its.toArray := p
    have hn : its.toArray.size = i := by
      rw [List.size_toArray, ← rv.length]
      exact hx
    exact wpAny_pyNext_enum_endD (Draws.tuple (A := X.A.in1) (I.ok.hd hc) it a (iterT_ne hit pt) its.toArray) he (by rw [hn]; exact ⟨hit, pt⟩) fun h' eb => ⟨rfl, I.turned (t' := s.toks) (fun b o hb q => eb b o hb q) f0 f1 f3 f4 f5⟩
  self := fun A i s Q E st h => st.1.elim fun _ he => wpAny_pyIter_enum he h
def iEnumT (K : PySem.W.Frag) (ta : TA) : TI := fun σ H R => ta σ H fun vs H1 => ∃ a xs, vs = [.ref a] ∧ SqT K H1 a xs ∧ R (IteT K a) H1
/-- enumerate of a list or of a tuple -/
def iEnumS (K : PySem.W.Frag) (ta : TA) : TI := fun σ H R => ta σ H fun vs H1 => ∃ a xs, vs = [.ref a] ∧ ((SqL K H1 a xs ∧ R (Ite K a) H1) ∨ (SqT K H1 a xs ∧ R (IteT K a) H1))
theorem pi_enumS {X : Cx} {e : Expr} {ta : TA} {p pos tpos : Pos} {elts : List Expr} {kk : Nat} (hg : Gl X "enumerate") (hm : X.mg "enumerate" = none) (ha : PA X [e] ta) (hs : starEach [e] X.env = [(false, eval e X.env)] := by rfl) :
    PI X (.Tuple elts kk tpos) (.Call (.Name "enumerate" p) [e] [] pos) (iEnumS X.K ta) := by
  refine ⟨fun pins s σ H R I h => ?_⟩
  refine Call_ (ld_blt I hg hm boot_enumerate (PyProof.Rows.callWith_type1 (thn (ha.run pos pins s σ H _ I h) fun us s1 ⟨vs, H1, I1, r1, q1⟩ => ?_) hs rfl))
  obtain ⟨a, xs, rfl, q⟩ := q1
  obtain ⟨u, rfl, ru⟩ := r1.one
  cases ru
  have young : ∀ b, b ∈ [s1.heap.objs.size + 1, s1.heap.objs.size] → s1.heap.objs.size ≤ b := fun b hb => by
    rcases List.mem_cons.mp hb with z | z
    · rw [z]; exact Nat.le_add_right _ _
    · rw [List.mem_singleton.mp z]; exact Nat.le_refl _
  rcases q with ⟨hq, q⟩ | ⟨hq, q⟩
  · obtain ⟨its, rv, p', hz⟩ := I1.list hq
    refine MyE.call1 (begins_list a its.toArray) p'.isList fun h' he hit hk => wpAny_pyIter_enum he ?_
    exact ⟨s1.heap.objs.size + 1, [s1.heap.objs.size + 1, s1.heap.objs.size], _, _, H1, rfl, I1.kept (t' := s1.toks) hk, turn_enum a (s1.heap.objs.size + 1) s1.heap.objs.size, ⟨⟨.none, he⟩, ⟨_, hit, rfl, rfl⟩, Nat.succ_ne_self _⟩, fun b hb => I1.fpOk (young b hb) (I1.hok.fresh (young b hb)), q⟩
  · obtain ⟨its, rv, p', hz⟩ := I1.tuple hq
    refine MyE.call1 (begins_tuple a its.toArray) (show s1.heap.IsTuple a its.toArray from p') fun h' he hit hk => wpAny_pyIter_enum he ?_
    exact ⟨s1.heap.objs.size + 1, [s1.heap.objs.size + 1, s1.heap.objs.size], _, _, H1, rfl, I1.kept (t' := s1.toks) hk, turn_enumT a (s1.heap.objs.size + 1) s1.heap.objs.size, ⟨⟨.none, he⟩, ⟨_, hit, rfl, rfl⟩, Nat.succ_ne_self _⟩, fun b hb => I1.fpOk (young b hb) (I1.hok.fresh (young b hb)), q⟩
theorem walk_enumT {K : PySem.W.Frag} {a : Addr} {xs : List V} : Walk (IteT K a) xs.length (fun H => SqT K H a xs) (YPair (fun i => some (.int (i : Nat))) (fun i => xs[i]?)) := by
  refine ⟨fun i _ hi q => ⟨xs, xs[i], q, by simp [hi]⟩, fun _ q => ⟨xs, q, rfl⟩, fun i H v H' _ q y => ?_⟩
  obtain ⟨T, x, h1, h2, h3, h4⟩ := y
  exact ⟨T, .int (i : Nat), x, h1, h2, h3, rfl, h4 xs q⟩
end L2

namespace PySem
namespace MyN
open PySem.W Builtin PySem.SeqAt PySem.MeetsSeq MeetsSeq2
open AutoSeq1 (wpAny_loadPart')
/-- str.__eq__ with an object that holds no text -/
theorem str_no_plain (b : Str) (u : Tok) (l : Addr) (ob : Obj) (hd : ob.data = .plain) :
    Meets (Builtin.«str.__eq__» ⟨[.str b u, .ref l], []⟩) (fun _ R s => s.heap.get? l = some ob ∧ R (.ok (.ret .notImplemented)) s) :=
  .of_wp fun P1 w1 A1 R1 s1 z => by
    obtain ⟨hp, gs, dr, tk, oz⟩ := s1
    obtain ⟨z1, z2⟩ := z
    obtain ⟨oc, od, dt, sl⟩ := ob
    simp only at hd
    subst hd
    wp_walk using wpAny_loadPart' z1, wpAny_load z1
    exact ⟨_, rfl, z2⟩
theorem str_no_dict (b : Str) (u : Tok) (l : Addr) (ob : Obj) (es : Array DictEntry) (ep : Nat) (hd : ob.data = .dict es ep) :
    Meets (Builtin.«str.__eq__» ⟨[.str b u, .ref l], []⟩) (fun _ R s => s.heap.get? l = some ob ∧ R (.ok (.ret .notImplemented)) s) :=
  .of_wp fun P1 w1 A1 R1 s1 z => by
    obtain ⟨hp, gs, dr, tk, oz⟩ := s1
    obtain ⟨z1, z2⟩ := z
    obtain ⟨oc, od, dt, sl⟩ := ob
    simp only at hd
    subst hd
    wp_walk using wpAny_loadPart' z1, wpAny_load z1
    exact ⟨_, rfl, z2⟩
/-- dict.__eq__ with a text -/
theorem dict_no_str (b : Str) (u : Tok) (l : Addr) (ob : Obj) (hc : ob.cls = .type "dict") :
    Meets (Builtin.«dict.__eq__» ⟨[.ref l, .str b u], []⟩) (fun _ R s => s.heap.get? l = some ob ∧ R (.ok (.ret .notImplemented)) s) :=
  .of_wp fun P1 w1 A1 R1 s1 z => by
    obtain ⟨hp, gs, dr, tk, oz⟩ := s1
    obtain ⟨z1, z2⟩ := z
    obtain ⟨oc, od, dt, sl⟩ := ob
    simp only at hc
    subst hc
    have f1 := F.sub_str_dict
    wp_walk using wpAny_loadPart' z1, wpAny_load z1
    exact ⟨_, rfl, z2⟩
theorem eq_str_dict {A : Around} {s : Shared} {l : Addr} {ob : Obj} {es : Array DictEntry} {ep : Nat} (b : Str) (u : Tok) (hl : s.heap.get? l = some ob) (hc : ob.cls = .type "dict") (hd : ob.data = .dict es ep) (hu : A.units < cLine) : EqAt A s (.str b u) (.ref l) false := fun prog w E Q h => by
  unfold eqBool
  refine wpAny_holding ?_
  refine wpAny_ite_split (fun hab => absurd (eq_of_beq hab) nofun) (fun _ => ?_)
  refine wpAny_bind (rc_eq_decline_or (k := false) (typeIs_str s b u) ⟨_, hl, hc⟩ (by decide) F.sub_dict_str F.slot_str_eq F.slot_dict_eq_refl
    (fun _ hq => call_meets F.slot_str_eq (typeIs_str s b u) F.entry_str_eq (F.args_str_eq_2 _ _) (str_no_dict b u l ob es ep hd) ⟨hl, hq⟩)
    (fun _ hq => call_meets F.slot_dict_eq_refl ⟨_, hl, hc⟩ F.entry_dict_eq (F.args_dict_eq_2 _ _) (dict_no_str b u l ob hc) ⟨hl, hq⟩)
    (fun _ hq => wpAny_of_eq (rfl : isSame (.str b u) (.ref l) = pure false) hq) (.inr hu) (wpAny_truthy_bool h))
section
variable {prog : Program} {w : World} {A : Around} {E : Value → Shared → Prop} {s : Shared} {K : Frag} {x C f : Addr} {ox : Obj} {od : Option Obj}
/-- text == x, x an instance with its own __eq__: that one is asked -/
theorem eqb_str_own {b : Str} {u : Tok} {Q : Bool → Shared → Prop} (hu : A.units < cLine) (X : K.In s.heap) (I : InstAt s.heap x ox C od) (hp : ox.data = .plain) (nf : subIn K (.ref C) (.type "str") = some false)
    (hs : findIn K (.ref C) "__eq__" = some (some (.ref f))) (hf : isFn K (.ref f) = true)
    (h : wpAny (model prog w) A (call (.ref f) [.ref x, .str b u]) (fun r s' => ∃ k, r = .bool k ∧ Q k s') E s) : wpAny (model prog w) A (eqBool (.str b u) (.ref x)) Q E s := by
  have hx : s.heap.get? x = some ox := I.1
  have one : wpAny (model prog w) A (tryCompare (.ref x) "__eq__" (.str b u)) (fun r s' => ∃ k, r = some (.bool k) ∧ Q k s') E s := by
    unfold tryCompare
    refine wpAny_bind (ifBound_K X I hs hf (wpAny_mono h (fun v s' hv => ?_) fun _ _ e => e))
    obtain ⟨k, rfl, q⟩ := hv
    exact wpAny_pure ⟨k, rfl, q⟩
  unfold eqBool
  refine wpAny_holding ?_
  refine wpAny_ite_split (fun hab => absurd (eq_of_beq hab) nofun) (fun _ => ?_)
  refine wpAny_bind ?_
  have z := (typeIs_str s b u)
  simp only [richCompare, z.oneThing_none]
  refine wpAny_holding (wpAny_bind (wpAny_cRoomFor_or (.inr hu) ?_))
  refine wpAny_bind (wpAny_typeOf z (wpAny_bind (I.type.here ?_)))
  have ne : (Value.type "str" != Value.ref C) = true := rfl
  simp only [ne, if_true]
  refine wpAny_bind ((looks_subIn X nf).here ?_)
  simp only [Bool.false_eq_true, if_false, Bool.not_false, if_true]
  refine wpAny_bind (m := tryCompare (.str b u) _ (.ref x)) (wpAny_tryCompare_declines z F.slot_str_eq (call_meets F.slot_str_eq z F.entry_str_eq (F.args_str_eq_2 _ _) (str_no_plain b u x ox hp) ⟨hx, rfl, ?_⟩))
  refine wpAny_bind (m := tryCompare (.ref x) _ (.str b u)) (wpAny_mono one (fun r s' hr => ?_) fun _ _ e => e)
  obtain ⟨k, rfl, q⟩ := hr
  exact wpAny_pure (wpAny_truthy_bool q)
/-- x in a tuple, none of the items is equal to x; I stands all along -/
theorem in_none {l : Addr} {items : Array Value} {y : Value} {Q : Value → Shared → Prop} (J : Shared → Prop) (hl : s.heap.IsTuple l items)
    (turn : ∀ v, v ∈ items → ∀ s', J s' → wpAny (model prog w) A.in1 (eqBool v y) (fun r s2 => r = false ∧ J s2) E s') (fin : ∀ s', J s' → Q (.bool false) s') (h : J s) :
    wpAny (model prog w) A (compareOp .In y (.ref l)) Q E s := by
  obtain ⟨⟨cls, dd, data, sl⟩, ho, hc, n, hd⟩ := id hl
  simp only at hc hd
  subst hc hd
  have hT : s.TypeIs (.ref l) "tuple" := ⟨_, ho, rfl⟩
  have body : wpAny (model prog w) A (call (.builtin "tuple.__contains__") [.ref l, y]) (fun v s' => v = .bool false ∧ J s') E s := by
    refine GQ.call_here F.slot_tuple_contains hT F.entry_tuple_contains (F.args_tuple_contains_2 _ _) ?_
    obtain ⟨hp, gs, dr, tk, oz⟩ := s
    have go : ∀ v, v ∈ items.toList → ∀ s', J s' → wpAny (model prog w) A.in1 (eqBool v y) (fun r s2 => r = false ∧ J s2) (fun e s' => wants (fun v s' => v = Value.bool false ∧ J s') E (.error e) s') s' := fun v hv s' hj => turn v (by simpa using hv) s' hj
    wp_walk using wpAny_loadPart' ho, wpAny_forIn_array _ (fun rest b s' => b.1 = none ∧ (∀ v, v ∈ rest → v ∈ items.toList) ∧ J s') _
    case turn =>
      rintro v rest b s' ⟨hb, hmem, hJ⟩
      refine wpAny_bind (wpAny_mono (go v (hmem v (List.mem_cons_self ..)) s' hJ) (fun r s2 q => ?_) fun _ _ e => e)
      obtain ⟨rfl, hJ2⟩ := q
      wp_walk
      exact ⟨rfl, fun z hz => hmem z (List.mem_cons_of_mem _ hz), hJ2⟩
    case fin =>
      rintro ⟨b1, b2⟩ s' ⟨hb, -, hJ⟩
      simp only at hb
      subst hb
      wp_walk
      exact ⟨rfl, hJ⟩
    case h =>
      exact ⟨rfl, fun v hv => by simpa using hv, h⟩
  show wpAny _ A (do return .bool (← contains (.ref l) y)) Q E s
  refine wpAny_bind (wpAny_contains_slot hT F.slot_tuple_contains (wpAny_mono body (fun v s' hv => ?_) fun _ _ e => e))
  obtain ⟨rfl, hJ⟩ := hv
  exact wpAny_truthy_bool (wpAny_pure (fin s' hJ))
end
end MyN
end PySem

namespace L2
open PySem PySem.Spec PyProof.Rows
section
variable {X : Cx} {CI : CXT} {f : Addr} {fd : FuncData} {ps : List Str} {sp : Sp} {EI : XK} {n : Nat} {C : Addr}
/-- a list, a tuple or a dict -/
def NoText (K : PySem.W.Frag) (H : Hp) (x : V) : Prop := (∃ a xs, x = .ref a ∧ (SqL K H a xs ∨ SqT K H a xs)) ∨ ∃ a kvs, x = .ref a ∧ H a = some (.dK kvs)
theorem NoText.eqAt {pins : List (Addr × Obj)} {σ : St} {H : Hp} {s : Shared} {A : Around} {x : V} {u : Value} (I : Inv X pins σ H s) (rx : RelV x u) (h : NoText X.K H x) (hu : A.units < cLine) (b : Str) (t : Tok) : SeqAt.EqAt A s (.str b t) u false := by
  rcases h with ⟨a, xs, rfl, h | h⟩ | ⟨a, kvs, rfl, h⟩
  · cases rx
    obtain ⟨its, r, pl, _⟩ := I.list h
    exact SeqAt.EqAt.str_list b t pl.isList hu
  · cases rx
    obtain ⟨its, r, pl, _⟩ := I.tuple h
    exact SeqAt.EqAt.str_tuple b t (show s.heap.IsTuple a its.toArray from pl) hu
  · cases rx
    obtain ⟨_, _, vs, _, o, es, ep, h1, h2, h3, _⟩ := (show ObjOk X.prog X.w H s.heap a (.dK kvs) from I.hok a _ h)
    exact MyN.eq_str_dict b t h1 h2.1 h3 hu
theorem vals_str : ∀ {zs : List Str} {us : List Value}, Vals (zs.map V.str) us → ∀ u ∈ us, ∃ z t, z ∈ zs ∧ u = .str z t
  | [], _, .nil, u, hu => by cases hu
  | z :: zs, _, .cons r t, u, hu => by
    rcases List.mem_cons.mp hu with rfl | hu
    · obtain ⟨t, e⟩ := r
      exact ⟨z, t, List.mem_cons_self, e⟩
    · obtain ⟨z', t', h1, h2⟩ := vals_str t u hu
      exact ⟨z', t', List.mem_cons_of_mem _ h1, h2⟩
/-- x in a tuple of texts, x a list, a tuple, a dict -/
def rInN (K : PySem.W.Frag) : R2 := fun x y H Q => ∃ (p : Addr) (zs : List Str), y = .ref p ∧ SqT K H p (zs.map V.str) ∧ NoText K H x ∧ Q (.bl false) H
theorem op_inN (hu : X.A.units + 1 < cLine) : OpR X (compareOp .In) (rInN X.K) := by
  intro pins s σ H x y v u Q I rx ry h
  obtain ⟨p, zs, rfl, hq, nt, q⟩ := h
  cases ry
  obtain ⟨its, r, pl, hz⟩ := I.tuple hq
  refine SeqAt.in_tupleAt (fun _ => false) (show s.heap.IsTuple p its.toArray from pl) (fun w hw => ?_) ⟨.bl _, H, I, rfl, ?_⟩
  · obtain ⟨z, t, _, rfl⟩ := vals_str r w (by simpa using hw)
    exact nt.eqAt I rx (show X.A.in1.units < cLine from hu) z t
  · rw [show its.toArray.any (fun _ => false) = false by simp]
    exact q
/-- x in a tuple of texts, x an instance with its own == that gives False for them -/
def rInI (K : PySem.W.Frag) (C : Addr) (sp : Sp) (E : XK) : R2 := fun x y H Q => ∃ (p : Addr) (zs : List Str) (a dx : Addr) (fs : List (Str × V)), y = .ref p ∧ SqT K H p (zs.map V.str) ∧ x = .ref a ∧ H a = some (.ins C dx fs) ∧
  (∀ z H1, z ∈ zs → Ext H H1 → sp [.ref a, .str z] H1 (fun v H2 => v = .bl false ∧ Ext H1 H2) E) ∧ ∀ H', Ext H H' → Q (.bl false) H'
theorem op_inI (hr : Room (n + 1) X.A) (M : OwnM X.K C "__eq__" f) (nf : PySem.W.subIn X.K (.ref C) (.type "str") = some false) (F : FnOk X.prog X.w X.K X.mg X.base CI n f fd ps sp) (hb : Binds X.K fd ps []) (hx : Passes CI X EI) : OpR X (compareOp .In) (rInI X.K C sp EI) := by
  intro pins s σ H x y v u Q I rx ry h
  obtain ⟨p, zs, a, dx, fs, rfl, hq, rfl, ha, hsp, q⟩ := h
  cases ry
  cases rx
  obtain ⟨its, r, pl, hz⟩ := I.tuple hq
  have sb : Sub X n X.A.in1 := Sub.in1 (⟨hr, rfl⟩ : Sub X (n + 1) X.A)
  refine MyN.in_none (fun s' => ∃ H', Inv X pins σ H' s' ∧ Ext H H') (show s.heap.IsTuple p its.toArray from pl) (fun w hw s' hJ => ?_) (fun s' hJ => ?_) ⟨H, I, Ext.rfl'⟩
  · obtain ⟨z, t, hz, rfl⟩ := vals_str r w (by simpa using hw)
    obtain ⟨H', I', x'⟩ := hJ
    have ha' := x' _ _ ha
    obtain ⟨mA, J, _⟩ := ins_get I'.hok ha'
    obtain ⟨od, J, _⟩ := J.look
    refine MyN.eqb_str_own sb.room.units0 I'.kIn J rfl nf M.at_ M.fn ?_
    refine wpAny_mono (run_sub sb F (envSub I' sb) hb hx I' (rv2 a (y := .str z) (u := .str z t) ⟨t, rfl⟩) (hsp z H' hz x')) (fun w2 s2 hq2 => ?_) fun _ _ z => z
    obtain ⟨y2, H2, I2, rz, rfl, x2⟩ := hq2
    cases rz
    exact ⟨false, rfl, rfl, H2, I2, x'.trans x2⟩
  · obtain ⟨H', I', x'⟩ := hJ
    exact ⟨.bl false, H', I', rfl, q H' x'⟩
end
end L2

namespace L2
open PySem PySem.Spec PyProof.Rows
/-- C(..) where __init__ may raise, wished for at the caller's slots -/
def tMakeS (C : Addr) (sp : Sp) (ws : List V) (W : L2.St → XK) (t : TA) : TE := fun σ H Q => t σ H fun vs H1 => ∀ x dx, H1 x = none → H1 dx = none → dx ≠ x →
  sp (.ref x :: (vs ++ ws)) (upd (upd H1 dx (.own x)) x (.ins C dx [])) (fun v H2 => v = .non ∧ Q (.ref x) H2) (W σ)
section
variable {X : Cx} {CI : CXT} {n : Nat} {fI C : Addr} {fd : FuncData} {ps : List Str} {sp : Sp} {ws : List V} {wu : List Value} {W : L2.St → XK} {x : Str} {p pos : Pos} {e : Expr} {es : List Expr} {t : TA}
theorem make_sub {pins : List (Addr × Obj)} {σ : L2.St} {H : Hp} {s : Shared} {Q : VK} {us : List Value} {vs : List V} {EW : XK} (M : Mk X.K C fI) (Fi : FnOk X.prog X.w X.K X.mg X.base CI n fI fd ps sp) (room : Room (n + 1) X.A)
    (bi : Binds X.K fd ps wu) (rw' : Vals ws wu) (let_ : PassesAt CI X σ EW) (I : Inv X pins σ H s) (rv : Vals vs us)
    (go : ∀ y dy, H y = none → H dy = none → dy ≠ y → sp (.ref y :: (vs ++ ws)) (upd (upd H dy (.own y)) y (.ins C dy [])) (fun v H2 => v = .non ∧ Q (.ref y) H2) EW) :
    wpAny (model X.prog X.w) X.A (call (.ref C) us) (EP X pins σ Q) X.xe s := by
  have want := go (s.heap.objs.size + 1) s.heap.objs.size (I.hok.fresh (Nat.le_succ _)) (I.hok.fresh (Nat.le_refl _)) (Nat.ne_of_lt (Nat.lt_succ_self _))
  have J := Inv.made (C := C) I
  have all : Vals (V.ref (s.heap.objs.size + 1) :: (vs ++ ws)) (Value.ref (s.heap.objs.size + 1) :: (us ++ wu)) := .cons rfl (rv.append rw')
  have many : (Value.ref (s.heap.objs.size + 1) :: us ++ wu).length = ps.length := all.length.symm.trans (Fi.len _ _ _ _ want)
  have ran := Fi.run _ X.stack _ _ ⟨Value.ref (s.heap.objs.size + 1) :: us, []⟩ _ _ _ EW (room.make C us []) (J.env0.make C us []) (bi _ _ J.kIn many) all want
  refine wpAny_call (make_map (f := fI) I.kIn M.makes M.init (beq_iff_eq.mp M.fn) (codeAny_mono ran ?_))
  rintro (er | fl) s' back
  · exact let_ pins _ _ er s' J back
  · cases fl with
    | ret u =>
      obtain ⟨v, H', J', ru, ⟨ev, q⟩⟩ := J.after back
      subst ev
      exact ⟨ru, .ref _, H', J', rfl, q⟩
    | next => exact back.elim
    | brk => exact back.elim
    | cont => exact back.elim
theorem pe_makeS (M : Mk X.K C fI) (Fi : FnOk X.prog X.w X.K X.mg X.base CI n fI fd ps sp) (room : Room (n + 1) X.A) (gl : Gl X x) (gm : X.mg x = some (.ref C)) (bi : Binds X.K fd ps wu) (rw' : Vals ws wu) (let_ : ∀ σ, PassesAt CI X σ (W σ))
    (ha : PA X (e :: es) t) (nd : (x == ("__debug__" : Str)) = false := by decide) (h1 : starEach (e :: es) X.env = (false, eval e X.env) :: starEach es X.env := by rfl) (h2 : (backTo pos (starEach es X.env)).any (·.1) = false := by rfl) :
    PE X (.Call (.Name x p) (e :: es) [] pos) (tMakeS C sp ws W t) :=
  ⟨fun pins s σ H Q I h => wpAny_Call_Name_kw (ld_glob I gl gm (PySem.W.callWith_K (h₀ := X.base) I.ok.mod.kin M.kp (thn (ha.run pos pins s σ H _ I h) fun _ _ ⟨_, _, I1, r, q⟩ => ⟨I1.kIn, make_sub M Fi room bi rw' (let_ σ) I1 r q⟩) h1 h2) nd)⟩
end
end L2

namespace L2
open PySem PySem.Spec PyProof.Rows
/-- a dict == a text -/
def rEqDS : R2 := fun x y H Q => ∃ a kvs z, x = .ref a ∧ y = .str z ∧ H a = some (.dK kvs) ∧ Q (.bl false) H
theorem op_eqDS {X : Cx} (hu : X.A.units < cLine) : OpR X (compareOp .Eq) rEqDS := by
  intro pins s σ H x y v u Q I rx ry h
  obtain ⟨a, kvs, z, rfl, rfl, ha, q⟩ := h
  cases rx
  obtain ⟨t, rfl⟩ := ry
  obtain ⟨_, _, vs, _, o, es, ep, h1, h2, h3, _⟩ := (show ObjOk X.prog X.w H s.heap a (.dK kvs) from I.hok a _ ha)
  show wpAny _ _ (richCompare .Eq (.ref a) (.str z t)) _ _ s
  exact SeqAt.rc_eq_decline_or (k := false) ⟨_, h1, h2.1⟩ (PySem.typeIs_str s z t) (by decide) F.sub_str_dict F.slot_dict_eq F.slot_str_eq_refl
    (fun _ hq => call_meets F.slot_dict_eq ⟨_, h1, h2.1⟩ F.entry_dict_eq (F.args_dict_eq_2 _ _) (MyN.dict_no_str z t a o h2.1) ⟨h1, hq⟩)
    (fun _ hq => call_meets F.slot_str_eq_refl (PySem.typeIs_str s z t) F.entry_str_eq (F.args_str_eq_2 _ _) (MyN.str_no_dict z t a o es ep h3) ⟨h1, hq⟩)
    (fun _ hq => wpAny_of_eq (rfl : isSame (.ref a) (.str z t) = pure false) hq) (.inr hu) ⟨.bl false, H, I, rfl, q⟩
end L2

namespace L2
open PySem PySem.Spec PyProof.Rows
theorem wp_notB {M : Model} {A : Around} {E : Value → Shared → Prop} {s : Shared} {m : Sem Bool} {Q Q' : Value → Shared → Prop}
  (h : wpAny M A (m >>= fun z => pure (Value.bool z)) Q E s) (hq : ∀ b s', Q (.bool b) s' → Q' (.bool (!b)) s') : wpAny M A (m >>= fun z => pure (Value.bool (!z))) Q' E s := by
  intro Γ p hi
  have z := h Γ p hi
  have z2 : Sem.wp M Γ (m.bind fun z => Sem.pure (Value.bool z)) (fun a x s' => Q a s') (fun e x s' => E e s') p s := z
  show Sem.wp M Γ (m.bind fun z => Sem.pure (Value.bool (!z))) (fun a x s' => Q' a s') (fun e x s' => E e s') p s
  rw [Sem.wp_bind] at z2 ⊢
  exact Sem.wp_mono _ _ _ (fun a p' s' q => hq a s' q) (fun _ _ _ e => e) _ _ z2
def rNot (r : R2) : R2 := fun x y H Q => r x y H (fun v H' => ∃ b, v = .bl b ∧ Q (.bl (!b)) H')
theorem OpR.notIn {X : Cx} {r : R2} (h : OpR X (compareOp .In) r) : OpR X (compareOp .NotIn) (rNot r) := by
  intro pins s σ H x y v u Q I rx ry h2
  have z := h pins s σ H x y v u _ I rx ry h2
  refine wp_notB z fun b s' q => ?_
  obtain ⟨w, H', I', rw', c, rfl, q⟩ := q
  have e : b = c := by cases rw'; rfl
  subst e
  exact ⟨.bl (!b), H', I', rfl, q⟩
end L2

namespace L2
open PySem
theorem SqT.extX {K : PySem.W.Frag} {H H' : Hp} {a : Addr} {xs : List V} (h : SqT K H a xs) (e : Ext H H') : SqT K H' a xs := SqT.ext h e
theorem TyX.ext {K : PySem.W.Frag} {H H' : Hp} {x : V} {t : Value} (h : TyX K H x t) (e : Ext H H') : TyX K H' x t := by
  cases h with
  | base h =>
    refine .base ?_
    cases h with
    | non => exact .non
    | bl x => exact .bl x
    | int i => exact .int i
    | str x => exact .str x
    | flt x => exact .flt x
    | lst z => exact .lst (e _ _ z)
    | frz z => exact .frz (e _ _ z)
    | tup z => exact .tup (e _ _ z)
    | dK z => exact .dK (e _ _ z)
    | dT z => exact .dT (e _ _ z)
    | ins z a b c d f => exact .ins (e _ _ z) a b c d f
  | byt b => exact .byt b
  | set z => exact .set (e _ _ z)
  | kList z c => exact .kList z c
  | kTuple z c => exact .kTuple z c
  | kDict z c => exact .kDict z c
  | fTuple z => exact .fTuple (e _ _ z)
  | fDict z => exact .fDict (e _ _ z)
/-- a place that was free may be written -/
theorem Ext.over {H H' : Hp} {D : Addr} {o : HO} (x : Ext H H') (h : H D = none) : Ext H (L2.upd H' D o) := fun a u e => by
  rw [upd_ne (ne_of_none e h)]
  exact x a u e
theorem tyx_lst {K : PySem.W.Frag} {H : Hp} {a : Addr} {xs : List V} (h : H a = some (.lst xs)) : TyX K H (.ref a) (.type "list") := .base (.lst h)
theorem tyx_tup {K : PySem.W.Frag} {H : Hp} {a : Addr} {xs : List V} (h : H a = some (.tup xs)) : TyX K H (.ref a) (.type "tuple") := .base (.tup h)
end L2
namespace My
open PySem PySem.Spec PyProof.Rows L2
theorem scIsList : FnScope ["thing"] ["thing"] (defScope sIsList) := ⟨rfl, rfl, rfl, by decide +kernel, rfl, by decide +kernel, by decide +kernel⟩
theorem scIsName : FnScope ["thing", "letter"] ["thing"] (defScope sIsName) := ⟨rfl, rfl, rfl, by decide +kernel, rfl, by decide +kernel, by decide +kernel⟩
theorem lcYes {σ : L2.St} {H : Hp} {A B : Hp → Prop} (h : A H) : tYes σ H (fun b H3 => if b = true then A H3 else B H3) := by
  show (if true = true then A H else B H)
  rw [if_pos rfl]
  exact h
def letters : Str := "abcdefghijklmnopqrstuvwxyz"
def signB (z : Str) : List Bool := z.cps.toList.map fun c => decide (c ∈ letters.cps.toList)
theorem sign_snoc {z : Str} {i c : Nat} (h : z.cps[i]? = some c) : (signB z).take i ++ [decide (c ∈ letters.cps.toList)] = (signB z).take (i + 1) := by
  have e : (signB z)[i]? = some (decide (c ∈ letters.cps.toList)) := by
    unfold signB
    rw [List.getElem?_map, Array.getElem?_toList, h]
    rfl
  rw [List.take_add_one, e]
  rfl
def nameB (z : Str) : Bool := decide ((1 : Int) ≤ z.length) && (decide ((z.length : Int) ≤ 8) && (signB z).all id)
/-- isinstance(x, (list, tuple)) -/
def spIsList (K : PySem.W.Frag) : Sp := fun vs H Q _ => ∃ x t b, vs = [x] ∧ TyX K H x t ∧ PySem.W.kitAny K t [.type "list", .type "tuple"] = some b ∧ ∀ H', Ext H H' → Q (.bl b) H'
/-- whether x is a name -/
def spIsName (K : PySem.W.Frag) : Sp := fun vs H Q _ => ∃ x, vs = [x] ∧ ((∃ z, x = .str z ∧ z.length ≤ sizeLine ∧ ∀ H', Ext H H' → Q (.bl (nameB z)) H') ∨ (∃ t, TyX K H x t ∧ PySem.W.kitOne K t (.type "str") = some false ∧ ∀ H', Ext H H' → Q (.bl false) H'))
section
variable {P : Program} {w : World} {K : PySem.W.Frag} {mg : Str → Option Value} {base : Heap} {f : Addr} {fd : FuncData}
theorem ok_isList (Fn : FnP K "is_list" sIsList f fd) (gI : mg "isinstance" = none) (gL : mg "list" = none) (gT : mg "tuple" = none) : FnOk P w K mg base CX0 1 f fd ["thing"] (spIsList K) := by
  refine Fn.ok scIsList (fun vs H Q E h => ?_) (fun cdv A outer s H vs Q E hr h => ⟨_, PSs.nox
    (pss_one (ps_ret (pe_callB call_isiT (by rfl) gI boot_isinstance (pa_cons (pv 0) (pa_cons (pe_tup (pa_cons (pe_bltn (v := .ty "list") (by rfl) gL boot_list rfl) (pa_cons (pe_bltn (v := .ty "tuple") (by rfl) gT boot_tuple rfl) pa_nil))) pa_nil))))), ?_⟩)
  · obtain ⟨x, t, b, rfl, _⟩ := h
    rfl
  · obtain ⟨x, t, b, rfl, ty, kt, q⟩ := h
    exact ⟨_, rfl, Nat.le_of_ble_eq_true rfl, fun p hp => ⟨x, p, [.ty "list", .ty "tuple"], t, _, b, rfl, upd_same, .cons (.ty _) (.cons (.ty _) .nil), ty.ext (Ext.upd hp), kt, q _ (Ext.upd hp)⟩⟩
theorem ok_isName (Fn : FnP K "is_name" sIsName f fd) (gI : mg "isinstance" = none) (gS : mg "str" = none) (gN : mg "len" = none) (gA : mg "all" = none) {t8 tL : Tok} (g8 : mg "LONGEST" = some (.int 8 t8)) (gL : mg "LETTERS" = some (.str letters tL)) :
    FnOk P w K mg base CX0 1 f fd ["thing"] (spIsName K) := by
  refine Fn.ok scIsName (fun vs H Q E h => ?_) (fun cdv A outer s H vs Q E hr h => ⟨_, PSs.nox
    (pss_cons (ps_if (PW.pt (pw_or (pt_not (pt_val (pe_callB call_isi (by rfl) gI boot_isinstance (pa_cons (pv 0) (pa_cons (pe_bltn (v := .ty "str") (by rfl) gS boot_str rfl) pa_nil)))))
        (pw_or1 (pt_not (pt_chain op_le op_le pe_int (pe_callB call_len (by rfl) gN boot_len (pa_cons (pv 0) pa_nil)) (pe_glob (v := .int 8) (by rfl) g8 ⟨_, rfl⟩)))))) (pss_one (ps_ret pe_bl)) pss_nil)
    (pss_one (ps_ret (pe_callB (cr_all rfl) (by rfl) gA boot_all (pa_cons (pe_lc (own := [("letter", 1)]) (g := gName 1) (tt := tYes) rfl scIsName.nd (pi_str (pv 0)) (blkOk_by (N := ["thing", "letter"]) (sc := defScope sIsName) (by decide +kernel))
      (fun _ _ _ _ _ => pg_name (i := 1) scIsName.nd rfl (Or.inl rfl)) (fun _ _ _ _ _ => pts_nil) (fun _ _ _ _ _ => pe_cmpR op_in_sign (pv 1) (pe_glob (v := .str letters) (by rfl) gL ⟨_, rfl⟩) (by rfl))) pa_nil))))), ?_⟩)
  · obtain ⟨x, rfl, _⟩ := h
    rfl
  · obtain ⟨x, rfl, h⟩ := h
    rcases h with ⟨z, rfl, hz, q⟩ | ⟨t, ty, kt, q⟩
    · refine ⟨_, rfl, .str z, .ty "str", .type "str", .type "str", true, rfl, .ty _, .base (.str _), kit_ty (by decide +kernel), true, rfl, ?_⟩
      refine iteF ?_
      refine ⟨_, rfl, .str z, z.length, rfl, ⟨hz, rfl⟩, _, _, rfl, rfl, _, rfl, ?_⟩
      refine ite2 (fun h1 => ?_) (fun h1 => ?_)
      · refine ⟨_, _, rfl, rfl, _, rfl, ?_⟩
        refine ite2 (fun h2 => ?_) (fun h2 => ?_)
        · have h2' : (!decide ((z.length : Int) ≤ 8)) = true := h2
          have q1 := q H Ext.rfl'
          have e : nameB z = false := by
            unfold nameB
            rw [show decide ((z.length : Int) ≤ 8) = false by simpa using h2', Bool.false_and, Bool.and_false]
          rw [e] at q1
          exact q1
        · have e2 : decide ((z.length : Int) ≤ 8) = true := by simpa using h2
          have e1 : decide ((1 : Int) ≤ z.length) = true := h1
          refine ⟨_, rfl, _, rfl, fun D hD => lc_it (walk_str (z := z)) (fun i H' => Ext H H' ∧ H' D = some (.lst (((signB z).take i).map V.bl))) ⟨Ext.upd hD, upd_same⟩ (fun _ _ _ _ => True.intro) ?_ ?_⟩
          · intro i x H1 H2 hi ⟨x1, l1⟩ hy
            obtain ⟨rfl, c, hc, rfl⟩ := hy
            refine ⟨rfl, ?_⟩
            refine lcYes ?_
            refine ⟨_, rfl, c, letters, rfl, rfl, _, l1, ?_, ?_, ?_⟩
            · rw [List.length_map, List.length_take]
              exact Nat.lt_of_le_of_lt (Nat.min_le_left _ _) (Nat.lt_of_lt_of_le hi hz)
            · exact x1.over hD
            · rw [upd_same, ← sign_snoc hc, List.map_append]
              rfl
          · intro H1 ⟨x1, l1⟩
            refine ⟨D, signB z, rfl, ?_, ?_⟩
            · have e : (signB z).take z.cps.size = signB z := by
                rw [List.take_of_length_le]
                unfold signB
                rw [List.length_map, Array.length_toList]
                exact Nat.le_refl _
              rw [e] at l1
              exact SqL.of l1
            · have e : nameB z = (signB z).all id := by
                unfold nameB
                rw [e1, e2, Bool.true_and, Bool.true_and]
              rw [← e]
              exact q H1 x1
      · have e1 : decide ((1 : Int) ≤ z.length) = false := by simpa using h1
        have e : nameB z = false := by
          unfold nameB
          rw [e1, Bool.false_and]
        have q1 := q H Ext.rfl'
        rw [e] at q1
        exact ⟨_, rfl, q1⟩
    · refine ⟨_, rfl, x, .ty "str", t, .type "str", false, rfl, .ty _, ty, kt, false, rfl, ?_⟩
      exact q _ Ext.rfl'
end
end My

namespace My
open PySem PySem.Spec PyProof.Rows L2
theorem scWrongName : FnScope ["things", "at", "thing"] ["things"] (defScope sWrongName) := ⟨rfl, rfl, rfl, by decide +kernel, rfl, by decide +kernel, by decide +kernel⟩
/-- what may be told to is_name -/
def Thing (K : PySem.W.Frag) (H : Hp) (x : V) : Prop := (∃ z, x = .str z ∧ z.length ≤ sizeLine) ∨ ((∀ z, x ≠ .str z) ∧ ∃ t, TyX K H x t ∧ PySem.W.kitOne K t (.type "str") = some false)
theorem Thing.ext {K : PySem.W.Frag} {H H' : Hp} {x : V} (h : Thing K H x) (e : Ext H H') : Thing K H' x := by
  rcases h with h | ⟨n, t, ty, k⟩
  · exact .inl h
  · exact .inr ⟨n, t, ty.ext e, k⟩
def nameV : V → Bool
  | .str z => nameB z
  | _ => false
theorem nameV_flat {x : V} (h : nameV x = true) : flatV x = true := by
  cases x <;> first | rfl | exact absurd (show false = true from h) Bool.false_ne_true
/-- the i-th is no name or stood before -/
def badAt (xs : List V) (i : Nat) : Bool := match xs[i]? with
  | some y => !nameV y || inV y (xs.take i)
  | none => false
def SeqAt2 (K : PySem.W.Frag) (H : Hp) (a : Addr) (xs : List V) : Prop := SqL K H a xs ∨ SqT K H a xs
theorem SeqAt2.ext {K : PySem.W.Frag} {H H' : Hp} {a : Addr} {xs : List V} (h : SeqAt2 K H a xs) (e : Ext H H') : SeqAt2 K H' a xs := h.elim (fun z => .inl (z.ext e)) fun z => .inr (z.ext e)
/-- the first wrong one's place | None -/
def spWrongName (K : PySem.W.Frag) : Sp := fun vs H Q _ => ∃ a xs, vs = [.ref a] ∧ SeqAt2 K H a xs ∧ (∀ y ∈ xs, Thing K H y) ∧ (∀ H', Ext H H' → (∀ i, i < xs.length → badAt xs i = false) → Q .non H') ∧
  ∀ i H', Ext H H' → i < xs.length → badAt xs i = true → (∀ j, j < i → badAt xs j = false) → Q (.int (i : Nat)) H'
theorem cut_take {xs : List V} {i : Nat} (h : i < xs.length) : cutV xs none (some ((i : Nat) : Int)) = xs.take i := by
  unfold cutV
  rw [HT.sIx_none, HT.sIx_nat, Nat.min_eq_left (Nat.le_of_lt h), Nat.sub_zero, List.drop_zero]
theorem flat_take {xs : List V} {i : Nat} (hb : ∀ j, j < i → badAt xs j = false) : (xs.take i).all flatV = true := by
  rw [List.all_eq_true]
  intro y hy
  obtain ⟨j, hj, e⟩ := List.getElem_of_mem hy
  rw [List.length_take] at hj
  have h2 : xs[j]? = some y := by
    rw [List.getElem_take] at e
    rw [← e]
    exact List.getElem?_eq_getElem _
  have h3 := hb j (Nat.lt_of_lt_of_le hj (Nat.min_le_left _ _))
  unfold badAt at h3
  rw [h2] at h3
  have h4 : nameV y = true := by
    cases h5 : nameV y with
    | true => rfl
    | false =>
      rw [show (match some y with | some y => !nameV y || inV y (xs.take j) | none => false) = (!nameV y || inV y (xs.take j)) from rfl, h5] at h3
      exact absurd h3 (by simp)
  exact nameV_flat h4
section
variable {P : Program} {w : World} {K : PySem.W.Frag} {mg : Str → Option Value} {base : Heap} {f fN : Addr} {fd fdN : FuncData}
theorem ok_wrongName (Fn : FnP K "wrong_name" sWrongName f fd) (FN : FnOk P w K mg base CX0 1 fN fdN ["thing"] (spIsName K)) (gN : mg "is_name" = some (.ref fN)) (kN : PySem.W.keepIn K (.ref fN) = true) (bN : Binds K fdN ["thing"] []) (gE : mg "enumerate" = none) :
    FnOk P w K mg base CX0 2 f fd ["things"] (spWrongName K) := by
  refine Fn.ok scWrongName (fun vs H Q E h => ?_) (fun cdv A outer s H vs Q E hr h => ⟨_, PSs.nox
    (pss_cons (ps_for PassesOwn.never rfl (pi_enumS (by rfl) gE (pa_cons (pv 0) pa_nil)) (pg_tup rfl (pgs_cons (pg_name (i := 1) scWrongName.nd rfl (Or.inl rfl)) (pgs_cons (pg_name (i := 2) scWrongName.nd rfl (Or.inl rfl)) pgs_nil)))
      (pss_one (ps_if (PW.pt (pw_or (pt_not (pt_val (pe_call FN hr (by rfl) gN kN bN .nil pass0 (pa_cons (pv 2) pa_nil))))
        (pw_or1 (pt_cmpR op_in_seq (pv 2) (pe_slice (sl_list.or sl_tupA) (pv 0) po_none (po_some (pv 1))) (by rfl))))) (pss_one (ps_ret (pv 1))) pss_nil)))
    (pss_one (ps_ret pe_non))), ?_⟩)
  · obtain ⟨a, xs, rfl, _⟩ := h
    rfl
  · obtain ⟨a, xs, rfl, sq, th, q0, q1⟩ := h
    refine ⟨_, rfl, a, xs, rfl, ?_⟩
    rcases sq with sq | sq
    · refine .inl ⟨sq, ?_⟩
      refine for_it (walk_enum (xs := xs)) (fun i σ H' => Ext H H' ∧ (∃ u v, σ = [some (.ref a), u, v]) ∧ ∀ j, j < i → badAt xs j = false) ⟨Ext.rfl', ⟨none, none, rfl⟩, fun j hj => absurd hj (Nat.not_lt_zero _)⟩ (fun i σ H' _ p => sq.ext p.1) ?_ ?_
      · intro i x σ H1 H2 hi p y
        obtain ⟨x1, ⟨u, v, rfl⟩, hb⟩ := p
        obtain ⟨T, y1, y2, rfl, hT, rfl, e1, e2⟩ := y
        cases e1
        have e2 : xs[i]? = some y2 := e2
        have x2 : Ext H (upd H1 T (.tup [.int i, y2])) := x1.upd' hT
        refine ⟨T, _, rfl, SqT.of upd_same, rfl, _, _, rfl, _, _, rfl, rfl, ?_⟩
        have hmem : y2 ∈ xs := List.mem_of_getElem? e2
        have notbad : badAt xs i = false → ∀ j, j < i + 1 → badAt xs j = false := fun h j hj => by
          rcases Nat.lt_or_eq_of_le (Nat.le_of_lt_succ hj) with z | z
          · exact hb j z
          · rw [z]; exact h
        have eb : badAt xs i = (!nameV y2 || inV y2 (xs.take i)) := by
          unfold badAt
          rw [e2]
        have bad : badAt xs i = true → ∀ H', Ext H H' → Q (.int (i : Nat)) H' := fun h H' z => q1 i H' z hi h hb
        rcases th y2 hmem with ⟨z, rfl, hz⟩ | ⟨hns, t, ty, kt⟩
        · refine ⟨_, rfl, _, rfl, .inl ⟨z, rfl, hz, fun H3 x3 => ?_⟩⟩
          refine ⟨nameB z, rfl, ?_⟩
          have x13 : Ext H H3 := x2.trans x3
          cases hn : nameB z with
          | false =>
            exact ⟨_, rfl, bad (by rw [eb]; show (!nameB z || _) = true; rw [hn]; rfl) H3 x13⟩
          | true =>
            have fl := flat_take hb
            have cont : ∀ H4, Ext H H4 → (if inV (.str z) (xs.take i) = true then (∃ v, ([some (.ref a), some (.int (i : Nat)), some (.str z)] : L2.St)[1]? = some (some v) ∧ Q v H4) else Ext H H4 ∧ (∃ u v, ([some (.ref a), some (.int (i : Nat)), some (.str z)] : L2.St) = [some (.ref a), u, v]) ∧ ∀ j, j < i + 1 → badAt xs j = false) := fun H4 x4 => by
              cases hi2 : inV (.str z) (xs.take i) with
              | true => exact ⟨_, rfl, bad (by rw [eb, hi2, Bool.or_true]) H4 x4⟩
              | false => exact ⟨x4, ⟨_, _, rfl⟩, notbad (by rw [eb, hi2]; show (!nameB z || false) = false; rw [hn]; rfl)⟩
            refine ⟨_, rfl, _, rfl, _, rfl, _, rfl, .inl ⟨a, xs, rfl, sq.ext x13, fun p hp => ?_⟩⟩
            rw [cut_take hi]
            refine ⟨p, _, rfl, .inl (SqL.of upd_same), rfl, fl, _, rfl, ?_⟩
            exact cont _ (x13.upd' hp)
        · refine ⟨_, rfl, _, rfl, .inr ⟨t, ty.ext x2, kt, fun H3 x3 => ?_⟩⟩
          refine ⟨false, rfl, ?_⟩
          exact ⟨_, rfl, bad (by
            rw [eb]
            have e : nameV y2 = false := by
              cases y2 <;> first | rfl | exact absurd rfl (hns _)
            rw [e]; rfl) H3 (x2.trans x3)⟩
      · intro σ H1 p
        exact q0 H1 p.1 p.2.2
    · refine .inr ⟨sq, ?_⟩
      refine for_it (walk_enumT (xs := xs)) (fun i σ H' => Ext H H' ∧ (∃ u v, σ = [some (.ref a), u, v]) ∧ ∀ j, j < i → badAt xs j = false) ⟨Ext.rfl', ⟨none, none, rfl⟩, fun j hj => absurd hj (Nat.not_lt_zero _)⟩ (fun i σ H' _ p => sq.ext p.1) ?_ ?_
      · intro i x σ H1 H2 hi p y
        obtain ⟨x1, ⟨u, v, rfl⟩, hb⟩ := p
        obtain ⟨T, y1, y2, rfl, hT, rfl, e1, e2⟩ := y
        cases e1
        have e2 : xs[i]? = some y2 := e2
        have x2 : Ext H (upd H1 T (.tup [.int i, y2])) := x1.upd' hT
        refine ⟨T, _, rfl, SqT.of upd_same, rfl, _, _, rfl, _, _, rfl, rfl, ?_⟩
        have hmem : y2 ∈ xs := List.mem_of_getElem? e2
        have notbad : badAt xs i = false → ∀ j, j < i + 1 → badAt xs j = false := fun h j hj => by
          rcases Nat.lt_or_eq_of_le (Nat.le_of_lt_succ hj) with z | z
          · exact hb j z
          · rw [z]; exact h
        have eb : badAt xs i = (!nameV y2 || inV y2 (xs.take i)) := by
          unfold badAt
          rw [e2]
        have bad : badAt xs i = true → ∀ H', Ext H H' → Q (.int (i : Nat)) H' := fun h H' z => q1 i H' z hi h hb
        rcases th y2 hmem with ⟨z, rfl, hz⟩ | ⟨hns, t, ty, kt⟩
        · refine ⟨_, rfl, _, rfl, .inl ⟨z, rfl, hz, fun H3 x3 => ?_⟩⟩
          refine ⟨nameB z, rfl, ?_⟩
          have x13 : Ext H H3 := x2.trans x3
          cases hn : nameB z with
          | false =>
            exact ⟨_, rfl, bad (by rw [eb]; show (!nameB z || _) = true; rw [hn]; rfl) H3 x13⟩
          | true =>
            have fl := flat_take hb
            have cont : ∀ H4, Ext H H4 → (if inV (.str z) (xs.take i) = true then (∃ v, ([some (.ref a), some (.int (i : Nat)), some (.str z)] : L2.St)[1]? = some (some v) ∧ Q v H4) else Ext H H4 ∧ (∃ u v, ([some (.ref a), some (.int (i : Nat)), some (.str z)] : L2.St) = [some (.ref a), u, v]) ∧ ∀ j, j < i + 1 → badAt xs j = false) := fun H4 x4 => by
              cases hi2 : inV (.str z) (xs.take i) with
              | true => exact ⟨_, rfl, bad (by rw [eb, hi2, Bool.or_true]) H4 x4⟩
              | false => exact ⟨x4, ⟨_, _, rfl⟩, notbad (by rw [eb, hi2]; show (!nameB z || false) = false; rw [hn]; rfl)⟩
            refine ⟨_, rfl, _, rfl, _, rfl, _, rfl, .inr ⟨a, xs, rfl, sq.ext x13, fun hw => ?_, fun _ p hp => ?_⟩⟩
            · have h2 := hw.2
              rw [HT.sIx_nat, Nat.min_eq_left (Nat.le_of_lt hi)] at h2
              exact absurd hi (by omega)
            rw [cut_take hi]
            refine ⟨p, _, rfl, .inr (SqT.of upd_same), rfl, fl, _, rfl, ?_⟩
            exact cont _ (x13.upd' hp)
        · refine ⟨_, rfl, _, rfl, .inr ⟨t, ty.ext x2, kt, fun H3 x3 => ?_⟩⟩
          refine ⟨false, rfl, ?_⟩
          exact ⟨_, rfl, bad (by
            rw [eb]
            have e : nameV y2 = false := by
              cases y2 <;> first | rfl | exact absurd rfl (hns _)
            rw [e]; rfl) H3 (x2.trans x3)⟩
      · intro σ H1 p
        exact q0 H1 p.1 p.2.2
end
end My

namespace L2
open PySem
theorem tyx_sqL {K : PySem.W.Frag} {H : Hp} {a : Addr} {xs : List V} (h : SqL K H a xs) : TyX K H (.ref a) (.type "list") := by
  rcases h with (h | ⟨o, h⟩) | ⟨o, its, n, h1, h2, _⟩
  · exact .base (.lst h)
  · exact .base (.frz h)
  · exact .kList h1 h2
theorem tyx_sqT {K : PySem.W.Frag} {H : Hp} {a : Addr} {xs : List V} (h : SqT K H a xs) : TyX K H (.ref a) (.type "tuple") := by
  rcases h with (h | ⟨o, h⟩) | ⟨o, its, n, h1, h2, _⟩
  · exact .base (.tup h)
  · exact .fTuple h
  · exact .kTuple h1 h2
end L2
namespace My
open PySem PySem.Spec PyProof.Rows L2
theorem scWrongPart : FnScope ["folders", "things", "at"] ["folders", "things"] (defScope sWrongPart) := ⟨rfl, rfl, rfl, by decide +kernel, rfl, by decide +kernel, by decide +kernel⟩
def optV : Option Nat → V
  | none => .non
  | some i => .int (i : Nat)
def wrongOf (xs : List V) : Option Nat := (List.range xs.length).find? (badAt xs)
def spWN (K : PySem.W.Frag) : Sp := fun vs H Q _ => ∃ a xs, vs = [.ref a] ∧ SeqAt2 K H a xs ∧ (∀ y ∈ xs, Thing K H y) ∧ ∀ H', Ext H H' → Q (optV (wrongOf xs)) H'
theorem wrong_none {xs : List V} (h : ∀ i, i < xs.length → badAt xs i = false) : wrongOf xs = none := List.find?_range_eq_none.mpr fun i hi => by rw [h i hi]; rfl
theorem wrong_some {xs : List V} {i : Nat} (hi : i < xs.length) (h : badAt xs i = true) (h2 : ∀ j, j < i → badAt xs j = false) : wrongOf xs = some i := List.find?_range_eq_some.mpr ⟨h, List.mem_range.mpr hi, fun j hj => by rw [h2 j hj]; rfl⟩
theorem wn_imp {K : PySem.W.Frag} (vs : List V) (H : Hp) (Q : VK) (E : XK) (h : spWN K vs H Q E) : spWrongName K vs H Q E := by
  obtain ⟨a, xs, rfl, sq, th, q⟩ := h
  refine ⟨a, xs, rfl, sq, th, fun H' x h => ?_, fun i H' x hi h h2 => ?_⟩
  · have z := q H' x
    rw [wrong_none h] at z
    exact z
  · have z := q H' x
    rw [wrong_some hi h h2] at z
    exact z
/-- a list or a tuple of things, or neither -/
def Lk (K : PySem.W.Frag) (H : Hp) (x : V) : Option (List V) → Prop
  | some xs => ∃ a, x = .ref a ∧ SeqAt2 K H a xs ∧ ∀ y ∈ xs, Thing K H y
  | none => ∃ t, TyX K H x t ∧ PySem.W.kitAny K t [.type "list", .type "tuple"] = some false
theorem Lk.ext {K : PySem.W.Frag} {H H' : Hp} {x : V} {o : Option (List V)} (h : Lk K H x o) (e : Ext H H') : Lk K H' x o := by
  cases o with
  | none =>
    obtain ⟨t, ty, k⟩ := h
    exact ⟨t, ty.ext e, k⟩
  | some xs =>
    obtain ⟨a, rfl, sq, th⟩ := h
    exact ⟨a, rfl, sq.ext e, fun y hy => (th y hy).ext e⟩
theorem Lk.kit {K : PySem.W.Frag} {H : Hp} {x : V} {o : Option (List V)} (h : Lk K H x o) : ∃ t, TyX K H x t ∧ PySem.W.kitAny K t [.type "list", .type "tuple"] = some o.isSome := by
  cases o with
  | none => exact h
  | some xs =>
    obtain ⟨a, rfl, sq, _⟩ := h
    rcases sq with sq | sq
    · exact ⟨_, tyx_sqL sq, kitAny_cons (b := true) (kit_ty (by decide +kernel)) (fun z => nomatch z) (fun _ => rfl)⟩
    · exact ⟨_, tyx_sqT sq, kitAny_cons (b := false) (kit_ty (by decide +kernel)) (fun _ => kitAny_cons (b := true) (kit_ty (by decide +kernel)) (fun z => nomatch z) (fun _ => rfl)) (fun z => nomatch z)⟩
theorem kit_no {K : PySem.W.Frag} {a : String} (h1 : kitB a "list" = some false) (h2 : kitB a "tuple" = some false) : PySem.W.kitAny K (.type a) [.type "list", .type "tuple"] = some false :=
  kitAny_cons (b := false) (kit_ty h1) (fun _ => kitAny_cons (b := false) (kit_ty h2) (fun _ => kitAny_nil) (fun z => nomatch z)) (fun z => nomatch z)
/-- BadHouse's index | None -/
def partOf (o o' : Option (List V)) : Option Nat := match o with
  | none => some 0
  | some xs => if xs.length = 0 then some 0 else match o' with
    | some ys => wrongOf (xs ++ ys)
    | none => match wrongOf xs with
      | none => some xs.length
      | some i => some i
def spWrongPart (K : PySem.W.Frag) : Sp := fun vs H Q _ => ∃ x y o o', vs = [x, y] ∧ Lk K H x o ∧ Lk K H y o' ∧ (∀ xs ys, o = some xs → o' = some ys → (xs ++ ys).length ≤ sizeLine) ∧ ∀ H', Ext H H' → Q (optV (partOf o o')) H'
section
variable {P : Program} {w : World} {K : PySem.W.Frag} {mg : Str → Option Value} {base : Heap} {f fL fW : Addr} {fd fdL fdW : FuncData}
theorem ok_wrongPart (Fn : FnP K "wrong_part" sWrongPart f fd) (FL : FnOk P w K mg base CX0 1 fL fdL ["thing"] (spIsList K)) (gL : mg "is_list" = some (.ref fL)) (kL : PySem.W.keepIn K (.ref fL) = true) (bL : Binds K fdL ["thing"] [])
    (FW : FnOk P w K mg base CX0 2 fW fdW ["things"] (spWN K)) (gW : mg "wrong_name" = some (.ref fW)) (kW : PySem.W.keepIn K (.ref fW) = true) (bW : Binds K fdW ["things"] []) (gN : mg "len" = none) :
    FnOk P w K mg base CX0 3 f fd ["folders", "things"] (spWrongPart K) := by
  refine Fn.ok scWrongPart (fun vs H Q E h => ?_) (fun cdv A outer s H vs Q E hr h => ⟨_, PSs.nox
    (pss_cons (ps_if (PW.pt (pw_or (pt_not (pt_val (pe_call FL (hr.mono (by decide)) (by rfl) gL kL bL .nil pass0 (pa_cons (pv 0) pa_nil)))) (pw_or1 (pt_cmpR op_eq (pe_callB call_len (by rfl) gN boot_len (pa_cons (pv 0) pa_nil)) pe_int (nomark _))))) (pss_one (ps_ret pe_int)) pss_nil)
    (pss_cons (ps_if (pt_val (pe_call FL (hr.mono (by decide)) (by rfl) gL kL bL .nil pass0 (pa_cons (pv 1) pa_nil))) (pss_one (ps_ret (pe_call FW hr (by rfl) gW kW bW .nil pass0 (pa_cons (pe_lst (StX.pa_star (pv 0) (StX.pa_star (pv 1) pa_nil))) pa_nil)))) pss_nil)
    (pss_cons (ps_set (i := 2) scWrongPart.nd rfl (.inl rfl) (pe_call FW hr (by rfl) gW kW bW .nil pass0 (pa_cons (pv 0) pa_nil)))
    (pss_one (ps_ret (pe_ifExp (pt_cmpR op_isN (pv 2) pe_non (nomark _)) (pe_callB call_len (by rfl) gN boot_len (pa_cons (pv 0) pa_nil)) (pv 2))))))), ?_⟩)
  · obtain ⟨x, y, o, o', rfl, _⟩ := h
    rfl
  · obtain ⟨x, y, o, o', rfl, hx, hy, hz, q⟩ := h
    obtain ⟨tx, tyx, kx⟩ := hx.kit
    refine ⟨x, rfl, x, tx, _, rfl, tyx, kx, fun H1 x1 => ?_⟩
    refine ⟨_, rfl, ?_⟩
    cases o with
    | none => exact q H1 x1
    | some xs =>
      obtain ⟨a, rfl, sq, th⟩ := hx
      have sq1 := sq.ext x1
      refine iteF ?_
      refine ⟨_, rfl, _, xs.length, rfl, ?_, rfl, _, rfl, ?_⟩
      · exact sq1.elim (fun z => .inl ⟨_, z, rfl⟩) fun z => .inr ⟨_, z, rfl⟩
      refine ite2 (fun h0 => ?_) (fun h0 => ?_)
      · have e : partOf (some xs) o' = some 0 := if_pos (by simpa using h0)
        have z := q H1 x1
        rw [e] at z
        exact z
      · have n0 : ¬ xs.length = 0 := by simpa using h0
        obtain ⟨ty, tyy, ky⟩ := (hy.ext x1).kit
        refine ⟨y, rfl, y, ty, _, rfl, tyy, ky, fun H2 x2 => ?_⟩
        refine ⟨_, rfl, ?_⟩
        have sq2 := sq1.ext x2
        have th2 : ∀ z ∈ xs, Thing K H2 z := fun z hz => ((th z hz).ext x1).ext x2
        cases o' with
        | some ys =>
          obtain ⟨b, rfl, sqy, thy⟩ := hy
          have sy2 := (sqy.ext x1).ext x2
          refine iteT ?_
          refine ⟨_, rfl, a, xs, rfl, sq2.symm, _, rfl, b, ys, rfl, sy2.symm, ?_⟩
          have hlen := hz xs ys rfl rfl
          refine ⟨(show (xs ++ (ys ++ [])).length ≤ sizeLine by rw [List.append_nil]; exact hlen), fun p hp => ⟨p, xs ++ ys, rfl, .inl (SqL.of (by rw [upd_same, List.append_nil])), fun z hz => ?_, fun H3 x3 => ?_⟩⟩
          · refine Thing.ext ?_ (Ext.upd hp)
            rcases List.mem_append.mp hz with hz | hz
            · exact th2 z hz
            · exact ((thy z hz).ext x1).ext x2
          · have e : partOf (some xs) (some ys) = wrongOf (xs ++ ys) := if_neg n0
            rw [← e]
            exact q H3 (((x1.trans x2).upd' hp).trans x3)
        | none =>
          refine iteF ?_
          refine ⟨_, rfl, a, xs, rfl, sq2, th2, fun H3 x3 => ?_⟩
          have z := q H3 ((x1.trans x2).trans x3)
          refine ⟨_, rfl, rfl, _, rfl, ?_⟩
          cases hw : wrongOf xs with
          | none =>
            have e : partOf (some xs) none = some xs.length := by
              show (if xs.length = 0 then some 0 else match wrongOf xs with | none => some xs.length | some i => some i) = _
              rw [if_neg n0, hw]
            rw [e] at z
            refine iteT ?_
            exact ⟨_, rfl, _, xs.length, rfl, (sq2.ext x3).elim (fun z => .inl ⟨_, z, rfl⟩) (fun z => .inr ⟨_, z, rfl⟩), z⟩
          | some i =>
            have e : partOf (some xs) none = some i := by
              show (if xs.length = 0 then some 0 else match wrongOf xs with | none => some xs.length | some i => some i) = _
              rw [if_neg n0, hw]
            rw [e] at z
            refine iteF ?_
            exact ⟨_, rfl, z⟩
end
end My

namespace My
open PySem PySem.Spec PyProof.Rows L2
theorem scHInit : FnScope ["self", "folders", "things", "at"] ["self", "folders", "things"] (defScope sHInit) := ⟨rfl, rfl, rfl, by decide +kernel, rfl, by decide +kernel, by decide +kernel⟩
theorem scHLen : FnScope ["self"] ["self"] (defScope sHLen) := ⟨rfl, rfl, rfl, by decide +kernel, rfl, by decide +kernel, by decide +kernel⟩
theorem scHHas : FnScope ["self", "x"] ["self", "x"] (defScope sHHas) := ⟨rfl, rfl, rfl, by decide +kernel, rfl, by decide +kernel, by decide +kernel⟩
theorem scHIter : FnScope ["self"] ["self"] (defScope sHIter) := ⟨rfl, rfl, rfl, by decide +kernel, rfl, by decide +kernel, by decide +kernel⟩
theorem scHEq : FnScope ["self", "other"] ["self", "other"] (defScope sHEq) := ⟨rfl, rfl, rfl, by decide +kernel, rfl, by decide +kernel, by decide +kernel⟩
/-- a house stands at a: its folders, its things -/
def HouseAt (H : Hp) (K : PySem.W.Frag) (C a : Addr) (fo th : List V) : Prop := ∃ dx fs f t n, H a = some (.ins C dx fs) ∧ fs.lookup ("folders" : Str) = some (V.ref f) ∧ fs.lookup ("things" : Str) = some (V.ref t) ∧ fs.lookup ("nodes" : Str) = some (V.ref n) ∧
  SqT K H f fo ∧ SqT K H t th ∧ SqT K H n (fo ++ th)
theorem HouseAt.ext {H H' : Hp} {K : PySem.W.Frag} {C a : Addr} {fo th : List V} (h : HouseAt H K C a fo th) (e : Ext H H') : HouseAt H' K C a fo th := by
  obtain ⟨dx, fs, f, t, n, h1, h2, h3, h4, h5, h6, h7⟩ := h
  exact ⟨dx, fs, f, t, n, e _ _ h1, h2, h3, h4, h5.ext e, h6.ext e, h7.ext e⟩
/-- what the written part says of the class -/
structure HouC (K : PySem.W.Frag) (C : Addr) : Prop where
  cl : Cls K C
  nf : NoAttr K C "folders"
  nt : NoAttr K C "things"
  nn : NoAttr K C "nodes"
  ha : PySem.W.findIn K (.ref C) "__class__" = some (some (.builtin "object.__class__"))
  hn : PySem.W.specialIn K (.builtin "object.__class__") "__get__" = some (some (.builtin "getset_descriptor.__get__"))
  htk : PySem.W.takesIn K (.builtin "object.__class__") = some true
  hm : PySem.W.mroIn K C (.type "object") = some true
/-- all but what stands at a stays -/
def But (H H' : Hp) (a : Addr) : Prop := ∀ b u, b ≠ a → H b = some u → H' b = some u
theorem ext_but {H H' : Hp} {a : Addr} (e : Ext H H') : But H H' a := fun b u _ k => e b u k
theorem But.trans {H H1 H2 : Hp} {a : Addr} (x : But H H1 a) (y : But H1 H2 a) : But H H2 a := fun b u n k => y b u n (x b u n k)
theorem But.upd {H H1 : Hp} {a : Addr} {o : HO} (x : But H H1 a) : But H (L2.upd H1 a o) a := fun b u n k => by
  rw [upd_ne n]
  exact x b u n k
theorem sqT_but {K : PySem.W.Frag} {H H' : Hp} {a C dx f : Addr} {fs : List (Str × V)} {xs : List V} (h : SqT K H f xs) (b : But H H' a) (ha : H a = some (.ins C dx fs)) : SqT K H' f xs := by
  rcases h with (h | ⟨o, h⟩) | h
  · exact .inl (.inl (b _ _ (ne_of h ha (fun z => nomatch z)) h))
  · exact .inl (.inr ⟨o, b _ _ (ne_of h ha (fun z => nomatch z)) h⟩)
  · exact .inr h
theorem sqL_but {K : PySem.W.Frag} {H H' : Hp} {a C dx f : Addr} {fs : List (Str × V)} {xs : List V} (h : SqL K H f xs) (b : But H H' a) (ha : H a = some (.ins C dx fs)) : SqL K H' f xs := by
  rcases h with (h | ⟨o, h⟩) | h
  · exact .inl (.inl (b _ _ (ne_of h ha (fun z => nomatch z)) h))
  · exact .inl (.inr ⟨o, b _ _ (ne_of h ha (fun z => nomatch z)) h⟩)
  · exact .inr h
/-- tuple(a) -/
theorem tup_of {K : PySem.W.Frag} {H : Hp} {a : Addr} {xs : List V} {Q : VK} (sq : SeqAt2 K H a xs) (q : ∀ t H', Ext H H' → SqT K H' t xs → Q (.ref t) H') :
    ∃ p ys, [V.ref a] = [.ref p] ∧ ((SqL K H p ys ∧ ∀ l, H l = none → Q (.ref l) (L2.upd H l (.tup ys))) ∨ (SqT K H p ys ∧ Q (.ref p) H)) := by
  rcases sq with sq | sq
  · exact ⟨a, xs, rfl, .inl ⟨sq, fun l hl => q l _ (Ext.upd hl) (SqT.of upd_same)⟩⟩
  · exact ⟨a, xs, rfl, .inr ⟨sq, q a H Ext.rfl' sq⟩⟩
/-- a + b, tuples -/
theorem cat_of {K : PySem.W.Frag} {H : Hp} {a b : Addr} {xs ys : List V} {Q : VK} (h1 : SqT K H a xs) (h2 : SqT K H b ys) (hz : (xs ++ ys).length ≤ sizeLine) (q : ∀ t H', Ext H H' → SqT K H' t (xs ++ ys) → Q (.ref t) H') : rCatA K (.ref a) (.ref b) H Q := by
  refine ⟨a, b, xs, ys, rfl, rfl, h1, h2, by rw [← List.length_append]; exact hz, fun e => ?_, fun _ e => ?_, fun _ _ p hp => q p _ (Ext.upd hp) (SqT.of upd_same)⟩
  · subst e
    exact q b H Ext.rfl' h2
  · subst e
    exact q a H Ext.rfl' (by rw [List.append_nil]; exact h1)
def rTup (K : PySem.W.Frag) : List V → Hp → VK → Prop := fun xs H Q => ∃ a zs, xs = [.ref a] ∧ SeqAt2 K H a zs ∧ ∀ t H', Ext H H' → SqT K H' t zs → Q (.ref t) H'
theorem call_tup {X : Cx} : CallR X (.type "tuple") (rTup X.K) := by
  intro pins s σ H xs us Q I rv h
  obtain ⟨a, zs, rfl, sq, q⟩ := h
  exact call_tuple_of pins s σ H _ us Q I rv (tup_of sq q)
def rCat (K : PySem.W.Frag) : R2 := fun x y H Q => ∃ a b xs ys, x = .ref a ∧ y = .ref b ∧ SqT K H a xs ∧ SqT K H b ys ∧ (xs ++ ys).length ≤ sizeLine ∧ ∀ t H', Ext H H' → SqT K H' t (xs ++ ys) → Q (.ref t) H'
theorem op_cat {X : Cx} : OpR X (binaryOp .Add) (rCat X.K) := by
  intro pins s σ H x y v u Q I rx ry h
  obtain ⟨a, b, xs, ys, rfl, rfl, h1, h2, hz, q⟩ := h
  exact op_catA pins s σ H _ _ v u Q I rx ry (cat_of h1 h2 hz q)
/-- House.__init__ -/
def spHInit (K : PySem.W.Frag) (C CB : Addr) : Sp := fun vs H Q E => ∃ a dx x y o o', vs = [.ref a, x, y] ∧ H a = some (.ins C dx []) ∧ Lk K H x o ∧ Lk K H y o' ∧ (∀ xs ys, o = some xs → o' = some ys → (xs ++ ys).length ≤ sizeLine) ∧
  (∀ xs ys H', o = some xs → o' = some ys → partOf o o' = none → But H H' a → HouseAt H' K C a xs ys → Q .non H') ∧
  ∀ i d H', partOf o o' = some i → Ext H H' → H d = none → H' d = some (.xd [(("index" : Str), V.int (i : Nat))]) → E (.ref CB) (some d) H'
theorem part_some {o o' : Option (List V)} (h : partOf o o' = none) : ∃ xs ys, o = some xs ∧ o' = some ys := by
  cases o with
  | none => cases h
  | some xs =>
    cases o' with
    | some ys => exact ⟨xs, ys, rfl, rfl⟩
    | none =>
      unfold partOf at h
      split at h
      · cases h
      · rename_i z
        cases z
        split at h
        · cases h
        · split at h
          · rename_i z
            cases z
          · split at h <;> cases h
section
variable {P : Program} {w : World} {K : PySem.W.Frag} {mg : Str → Option Value} {base : Heap} {f fW C CB : Addr} {fd fdW : FuncData} {dvs : List V}
theorem ok_hInit (Fn : FunD K "__init__" "House.__init__" (defArgs sHInit) (defBody sHInit) (defScope sHInit) dvs [] f fd) (T : HouC K C) (FW : FnOk P w K mg base CX0 3 fW fdW ["folders", "things"] (spWrongPart K)) (gW : mg "wrong_part" = some (.ref fW)) (kW : PySem.W.keepIn K (.ref fW) = true) (bW : Binds K fdW ["folders", "things"] [])
    (EB : Er P w K mg base "BadHouse" "index" CB) (gT : mg "tuple" = none) :
    FnOk P w K mg base (L2.CX P w) 4 f fd ["self", "folders", "things"] (spHInit K C CB) := by
  obtain ⟨fI, fdI, TB, FB, bB, _⟩ := EB
  refine Fn.ok scHInit (fun vs H Q E h => ?_) (fun cdv A outer s H vs Q E hr h => ⟨_,
    (pss_cons (ps_set (i := 3) scHInit.nd rfl (.inl rfl) (pe_call FW hr (by rfl) gW kW bW .nil pass0 (pa_cons (pv 1) (pa_cons (pv 2) pa_nil))))
    (pss_cons (ps_if (pt_cmpR op_notN (pv 3) pe_non (nomark _)) (pss_one (ps_raise rfl (takes_of rfl rfl rfl rfl) (pmk_oex TB.oex TB.iC TB.tI FB (hr.mono (by decide)) bB .nil pass0 (by rfl) TB.gl (pa_cons (pv 3) pa_nil)))) pss_nil)
    (pss_cons (ps_fld (pv 0) (pe_callTy call_tup (by rfl) gT (by decide +kernel) (pa_cons (pv 1) pa_nil)) rfl)
    (pss_cons (ps_fld (pv 0) (pe_callTy call_tup (by rfl) gT (by decide +kernel) (pa_cons (pv 2) pa_nil)) rfl)
    (pss_one (ps_fld (pv 0) (pe_op op_cat (pe_fld (pv 0) rfl) (pe_fld (pv 0) rfl)) rfl)))))), ?_⟩)
  · obtain ⟨a, dx, x, y, o, o', rfl, _⟩ := h
    rfl
  · obtain ⟨a, dx, x, y, o, o', rfl, ha, hx, hy, hz, qn, qe⟩ := h
    refine ⟨_, rfl, _, rfl, x, y, o, o', rfl, hx, hy, hz, fun H1 x1 => ?_⟩
    refine ⟨_, rfl, rfl, _, rfl, ?_⟩
    cases hp : partOf o o' with
    | some i =>
      refine iteT ?_
      refine ⟨_, rfl, Nat.le_of_ble_eq_true rfl, fun e he => ?_⟩
      refine ⟨e, _, rfl, upd_same, fun d hd ne => ⟨rfl, d, [("index", optV (some i))], upd_same, ?_, ?_, ?_⟩⟩
      · rw [upd_ne ne, upd_same]
      · rw [upd_ne ne] at hd
        exact hd
      · rw [upd_ne ne] at hd
        refine qe i d _ hp (fun b u k => ?_) ?_ upd_same
        · have k1 := x1 b u k
          rw [upd_ne (ne_of_none k1 hd), del_ne (ne_of_none k1 he), upd_ne (ne_of_none k1 he), upd_ne (ne_of_none k1 hd), upd_ne (ne_of_none k1 he)]
          exact k1
        · cases hh : H d with
          | none => rfl
          | some u => exact absurd (x1 d u hh) (by rw [hd]; exact fun z => nomatch z)
    | none =>
      refine iteF ?_
      obtain ⟨xs, ys, rfl, rfl⟩ := part_some hp
      obtain ⟨ax, rfl, sqx, _⟩ := hx
      obtain ⟨ay, rfl, sqy, _⟩ := hy
      have hz' := hz xs ys rfl rfl
      refine ⟨_, rfl, ax, xs, rfl, sqx.ext x1, fun t2 H2 x2 s2 => ?_⟩
      have a2 : H2 a = some (.ins C dx []) := x2 _ _ (x1 _ _ ha)
      refine ⟨_, rfl, a, C, dx, _, rfl, a2, T.cl, T.nf, Nat.le_of_ble_eq_true rfl, ?_⟩
      obtain ⟨H3, hH3⟩ : ∃ H3, H3 = L2.upd H2 a (.ins C dx (putF "folders" (.ref t2) [])) := ⟨_, rfl⟩
      rw [← hH3]
      have a3 : H3 a = some (.ins C dx (putF "folders" (.ref t2) [])) := by rw [hH3, upd_same]
      have b3 : But H2 H3 a := by
        rw [hH3]
        exact But.upd (ext_but Ext.rfl')
      have b03 : But H H3 a := (ext_but (x1.trans x2)).trans b3
      have sqy3 : SeqAt2 K H3 ay ys := sqy.elim (fun z => .inl (sqL_but z b03 ha)) fun z => .inr (sqT_but z b03 ha)
      refine ⟨_, rfl, ay, ys, rfl, sqy3, fun t4 H4 x4 s4 => ?_⟩
      refine ⟨_, rfl, a, C, dx, _, rfl, x4 _ _ a3, T.cl, T.nt, Nat.le_of_ble_eq_true rfl, ?_⟩
      obtain ⟨H5, hH5⟩ : ∃ H5, H5 = L2.upd H4 a (.ins C dx (putF "things" (.ref t4) (putF "folders" (.ref t2) []))) := ⟨_, rfl⟩
      rw [← hH5]
      have a5 : H5 a = some (.ins C dx (putF "things" (.ref t4) (putF "folders" (.ref t2) []))) := by rw [hH5, upd_same]
      have b5 : But H4 H5 a := by
        rw [hH5]
        exact But.upd (ext_but Ext.rfl')
      have s2' : SqT K H5 t2 xs := sqT_but (sqT_but s2 (b3.trans (ext_but x4)) a2) b5 (x4 _ _ a3)
      have s4' : SqT K H5 t4 ys := sqT_but s4 b5 (x4 _ _ a3)
      refine ⟨_, rfl, a, C, dx, _, _, rfl, a5, T.cl, T.nf, rfl, _, rfl, a, C, dx, _, _, rfl, a5, T.cl, T.nt, rfl, t2, t4, xs, ys, rfl, rfl, s2', s4', hz', fun t6 H6 x6 s6 => ?_⟩
      refine ⟨_, rfl, a, C, dx, _, rfl, x6 _ _ a5, T.cl, T.nn, Nat.le_of_ble_eq_true rfl, ?_⟩
      obtain ⟨H7, hH7⟩ : ∃ H7, H7 = L2.upd H6 a (.ins C dx (putF "nodes" (.ref t6) (putF "things" (.ref t4) (putF "folders" (.ref t2) [])))) := ⟨_, rfl⟩
      rw [← hH7]
      have b7 : But H6 H7 a := by
        rw [hH7]
        exact But.upd (ext_but Ext.rfl')
      have a6 := x6 _ _ a5
      refine qn xs ys H7 rfl rfl hp (((b03.trans (ext_but x4)).trans b5).trans ((ext_but x6).trans b7)) ?_
      exact ⟨dx, _, t2, t4, t6, by rw [hH7, upd_same], rfl, rfl, rfl, sqT_but (s2'.ext x6) b7 a6, sqT_but (s4'.ext x6) b7 a6, sqT_but s6 b7 a6⟩
end
end My

namespace My
open PySem PySem.Spec PyProof.Rows L2
/-! ### tuples and lists of texts as data -/
theorem dpAll_str {K : PySem.W.Frag} {H : Hp} : ∀ zs : List Str, DpAll K H (zs.map V.str) (zs.map PyData.str)
  | [] => .nil
  | z :: zs => .cons (.str z) (dpAll_str zs)
def OkS (zs : List Str) : Prop := ∀ z, z ∈ zs → PyData.strOk z = true
theorem canLay_str : ∀ zs : List Str, OkS zs → PyData.canLayAll0 (zs.map PyData.str) = true
  | [], _ => rfl
  | z :: zs, h => by
    show (PyData.strOk z && PyData.canLayAll0 (zs.map PyData.str)) = true
    rw [canLay_str zs fun y hy => h y (List.mem_cons_of_mem _ hy), h z List.mem_cons_self]
    rfl
theorem depths_str : ∀ zs : List Str, PyData.depthAll (zs.map PyData.str) ≤ 1
  | [] => Nat.zero_le _
  | z :: zs => Nat.max_le.mpr ⟨Nat.le_of_ble_eq_true rfl, depths_str zs⟩
theorem shaped_strT (zs : List Str) (h0 : OkS zs) : SeqAt.shaped (.tuple (zs.map PyData.str)) = true := by
  refine Bool.and_eq_true_iff.mpr ⟨canLay_str zs h0, decide_eq_true ?_⟩
  have h := depths_str zs
  show PyData.depthAll (zs.map PyData.str) + 1 ≤ 64
  omega
theorem shaped_strL (zs : List Str) (h0 : OkS zs) : SeqAt.shaped (.list (zs.map PyData.str)) = true := by
  refine Bool.and_eq_true_iff.mpr ⟨canLay_str zs h0, decide_eq_true ?_⟩
  have h := depths_str zs
  show PyData.depthAll (zs.map PyData.str) + 1 ≤ 64
  omega
theorem eqvAll_str : ∀ zs ws : List Str, PyData.eqvAll (zs.map PyData.str) (ws.map PyData.str) = decide (zs = ws)
  | [], [] => rfl
  | [], _ :: _ => rfl
  | _ :: _, [] => rfl
  | z :: zs, w :: ws => by
    show (PyData.eqv (.str z) (.str w) && PyData.eqvAll (zs.map PyData.str) (ws.map PyData.str)) = _
    rw [eqvAll_str zs ws]
    show ((z == w) && decide (zs = ws)) = _
    by_cases h : z = w
    · subst h
      simp
    · simp [h]
theorem eqv_strT (zs ws : List Str) : PyData.eqv (.tuple (zs.map PyData.str)) (.tuple (ws.map PyData.str)) = decide (zs = ws) := eqvAll_str zs ws
/-- a house of names -/
def Hou (H : Hp) (K : PySem.W.Frag) (C a : Addr) (fo th : List Str) : Prop := HouseAt H K C a (fo.map V.str) (th.map V.str) ∧ OkS fo ∧ OkS th
theorem Hou.ext {H H' : Hp} {K : PySem.W.Frag} {C a : Addr} {fo th : List Str} (h : Hou H K C a fo th) (e : Ext H H') : Hou H' K C a fo th := ⟨HouseAt.ext h.1 e, h.2⟩
theorem Hou.ins {H : Hp} {K : PySem.W.Frag} {C a : Addr} {fo th : List Str} (h : Hou H K C a fo th) : ∃ dx fs, H a = some (.ins C dx fs) := by
  obtain ⟨⟨dx, fs, _, _, _, h1, _⟩, _⟩ := h
  exact ⟨dx, fs, h1⟩
def spHLen (K : PySem.W.Frag) (C : Addr) : Sp := fun vs H Q _ => ∃ a fo th, vs = [.ref a] ∧ Hou H K C a fo th ∧ Q (.int ((fo ++ th).length : Nat)) H
def spHEq (K : PySem.W.Frag) (C : Addr) : Sp := fun vs H Q _ => ∃ a fo th y, vs = [.ref a, y] ∧ Hou H K C a fo th ∧ ((∃ t, TyX K H y t ∧ PySem.W.kitOne K t (.ref C) = some false ∧ Q (.bl false) H) ∨
  ∃ b fo2 th2, y = .ref b ∧ Hou H K C b fo2 th2 ∧ Q (.bl (decide (fo = fo2) && decide (th = th2))) H)
def spHHas (K : PySem.W.Frag) (C : Addr) : Sp := fun vs H Q _ => ∃ a fo th y, vs = [.ref a, y] ∧ Hou H K C a fo th ∧ ((flatV y = true ∧ Q (.bl (inV y ((fo ++ th).map V.str))) H) ∨ (NoText K H y ∧ Q (.bl false) H) ∨
  ∃ b fo2 th2, y = .ref b ∧ Hou H K C b fo2 th2 ∧ ∀ H', Ext H H' → Q (.bl false) H')
theorem tyH {K : PySem.W.Frag} {H : Hp} {C a : Addr} {fo th : List Str} (T : HouC K C) (h : Hou H K C a fo th) : TyX K H (.ref a) (.ref C) := by
  obtain ⟨dx, fs, e⟩ := h.ins
  exact .base (.ins e T.cl T.ha T.hn T.htk T.hm)
section
variable {P : Program} {w : World} {K : PySem.W.Frag} {mg : Str → Option Value} {base : Heap} {f fE C : Addr} {fd fdE : FuncData}
theorem ok_hLen (Fn : FunD K "__len__" "House.__len__" (defArgs sHLen) (defBody sHLen) (defScope sHLen) [] [] f fd) (T : HouC K C) (gN : mg "len" = none) : FnOk P w K mg base CX0 1 f fd ["self"] (spHLen K C) := by
  refine Fn.ok scHLen (fun vs H Q E h => ?_) (fun cdv A outer s H vs Q E hr h => ⟨_, PSs.nox (pss_one (ps_ret (pe_callB call_len (by rfl) gN boot_len (pa_cons (pe_fld (pv 0) rfl) pa_nil)))), ?_⟩)
  · obtain ⟨a, fo, th, rfl, _⟩ := h
    rfl
  · obtain ⟨a, fo, th, rfl, ⟨⟨dx, fs, f, t, n, h1, h2, h3, h4, h5, h6, h7⟩, ok1, ok2⟩, q⟩ := h
    refine ⟨_, rfl, a, C, dx, fs, _, rfl, h1, T.cl, T.nn, h4, _, _, rfl, .inr ⟨_, h7, rfl⟩, ?_⟩
    rw [← List.map_append, List.length_map]
    exact q
theorem ok_hIter (Fn : FunD K "__iter__" "House.__iter__" (defArgs sHIter) (defBody sHIter) (defScope sHIter) [] [] f fd) (T : HouC K C) (gI : mg "iter" = none) : FnOk P w K mg base CX0 1 f fd ["self"] (spIter K C "nodes" base.objs.size) := by
  refine Fn.ok scHIter (fun vs H Q E h => ?_) (fun cdv A outer s H vs Q E hr h => ⟨_, PSs.nox (pss_one (ps_ret (pe_callB call_iterT (by rfl) gI boot_iter (pa_cons (pe_fld (pv 0) rfl) pa_nil)))), ?_⟩)
  · obtain ⟨a, _, _, _, _, rfl, _⟩ := h
    rfl
  · obtain ⟨a, dx, fs, l, zs, rfl, h1, h2, h3, q⟩ := h
    exact ⟨_, rfl, a, C, dx, fs, _, rfl, h1, T.cl, T.nn, h2, l, zs, rfl, h3, q⟩
theorem ok_hEq (Fn : FunD K "__eq__" "House.__eq__" (defArgs sHEq) (defBody sHEq) (defScope sHEq) [] [] f fd) (T : HouC K C) (gI : mg "isinstance" = none) (gH : mg "House" = some (.ref C)) (kC : PySem.W.kitOne K (.ref C) (.ref C) = some true) :
    FnOk P w K mg base CX0 1 f fd ["self", "other"] (spHEq K C) := by
  refine Fn.ok scHEq (fun vs H Q E h => ?_) (fun cdv A outer s H vs Q E hr h => ⟨_, PSs.nox (pss_one (ps_ret
    (pe_and (pe_callB call_isi (by rfl) gI boot_isinstance (pa_cons (pv 1) (pa_cons (pe_glob (v := .ref C) (by rfl) gH rfl) pa_nil)))
    (pe_and (pe_cmpR (op_eqD hr.units) (pe_fld (pv 0) rfl) (pe_fld (pv 1) rfl) (nomark _))
    (pe_one (pe_cmpR (op_eqD hr.units) (pe_fld (pv 0) rfl) (pe_fld (pv 1) rfl) (nomark _))))))), ?_⟩)
  · obtain ⟨a, _, _, _, rfl, _⟩ := h
    rfl
  · obtain ⟨a, fo, th, y, rfl, ho, h⟩ := h
    rcases h with ⟨t, ty, kt, q⟩ | ⟨b, fo2, th2, rfl, ho2, q⟩
    · refine ⟨_, rfl, y, .ref C, t, .ref C, false, rfl, .own C, ty, kt, false, rfl, ?_⟩
      exact q
    · refine ⟨_, rfl, .ref b, .ref C, .ref C, .ref C, true, rfl, .own C, tyH T ho2, kC, true, rfl, ?_⟩
      refine iteT ?_
      obtain ⟨⟨dx, fs, f, t, n, h1, h2, h3, h4, h5, h6, h7⟩, ok1, ok2⟩ := ho
      obtain ⟨⟨dx', fs', f', t', n', g1, g2, g3, g4, g5, g6, g7⟩, pk1, pk2⟩ := ho2
      refine ⟨_, rfl, a, C, dx, fs, _, rfl, h1, T.cl, T.nf, h2, _, rfl, b, C, dx', fs', _, rfl, g1, T.cl, T.nf, g2, _, _, .tup h5 (dpAll_str fo), .tup g5 (dpAll_str fo2), shaped_strT fo ok1, shaped_strT fo2 pk1, _, rfl, ?_⟩
      rw [eqv_strT]
      refine ite2 (fun e => ?_) (fun e => ?_)
      · refine ⟨_, rfl, a, C, dx, fs, _, rfl, h1, T.cl, T.nt, h3, _, rfl, b, C, dx', fs', _, rfl, g1, T.cl, T.nt, g3, _, _, .tup h6 (dpAll_str th), .tup g6 (dpAll_str th2), shaped_strT th ok2, shaped_strT th2 pk2, ?_⟩
        rw [eqv_strT]
        rw [e, Bool.true_and] at q
        exact q
      · have e' : decide (fo = fo2) = false := by simpa using e
        rw [e', Bool.false_and] at q
        exact q
theorem ok_hHas (Fn : FunD K "__contains__" "House.__contains__" (defArgs sHHas) (defBody sHHas) (defScope sHHas) [] [] f fd) (T : HouC K C) (nf : PySem.W.subIn K (.ref C) (.type "str") = some false) (Me : OwnM K C "__eq__" fE)
    (FE : FnOk P w K mg base CX0 1 fE fdE ["self", "other"] (spHEq K C)) (bE : Binds K fdE ["self", "other"] []) (kS : PySem.W.kitOne K (.type "str") (.ref C) = some false) : FnOk P w K mg base CX0 3 f fd ["self", "x"] (spHHas K C) := by
  refine Fn.ok scHHas (fun vs H Q E h => ?_) (fun cdv A outer s H vs Q E hr h => ⟨_, PSs.nox (pss_one (ps_ret
    (pe_cmpR (OpR.or op_in_seq (OpR.or (op_inN (Nat.lt_of_le_of_lt (Nat.add_le_add_left (by decide : 1 ≤ 64) _) hr.units)) (op_inI (EI := E0) hr Me nf FE bE pass0))) (pv 1) (pe_fld (pv 0) rfl) (by rfl)))), ?_⟩)
  · obtain ⟨a, _, _, _, rfl, _⟩ := h
    rfl
  · obtain ⟨a, fo, th, y, rfl, ho, h⟩ := h
    have ho' := ho
    obtain ⟨⟨dx, fs, f, t, n, h1, h2, h3, h4, h5, h6, h7⟩, ok1, ok2⟩ := ho
    rw [← List.map_append] at h7
    refine ⟨_, rfl, _, rfl, a, C, dx, fs, _, rfl, h1, T.cl, T.nn, h4, ?_⟩
    rcases h with ⟨fy, q⟩ | ⟨ny, q⟩ | ⟨b, fo2, th2, rfl, ho2, q⟩
    · exact .inl ⟨n, _, rfl, .inr h7, fy, by rw [List.all_map]; exact List.all_eq_true.mpr fun _ _ => rfl, q⟩
    · exact .inr (.inl ⟨n, fo ++ th, rfl, h7, ny, q⟩)
    · obtain ⟨dx', fs', g1⟩ := ho2.ins
      refine .inr (.inr ⟨n, fo ++ th, b, dx', fs', rfl, h7, rfl, g1, fun z H1 _ x1 => ?_, q⟩)
      exact ⟨b, fo2, th2, .str z, rfl, ho2.ext x1, .inl ⟨_, .base (.str z), kS, rfl, Ext.rfl'⟩⟩
end
end My

namespace My
open PySem PySem.Spec PyProof.Rows L2
/-! ### names -/
def oddNm : List Str := ["zz", "zzz", "zy", "zr", "zs", "zt", "zu", "zv"]
def Nm (z : Str) : Prop := nameB z = true ∧ z.length ≠ 4 ∧ z ≠ "zq" ∧ z.length ≤ 8 ∧ PyData.strOk z = true ∧ ∀ b ∈ oddNm, z ≠ b
instance (z : Str) : Decidable (Nm z) := by unfold Nm; exact inferInstance
def az : Str := "abcdefghijklmnopqrstuvwxy"
def ap : Str := "abcdefghijklmnop"
def spares : List Str := ap.cps.toList.map fun c => ("z" : Str) ++ (⟨#[c]⟩ : Str) ++ ("q" : Str)
theorem spares_nm : ∀ z ∈ spares, Nm z := by decide +kernel
theorem spares_nd : spares.Nodup := by decide +kernel
theorem spares_len : spares.length = 16 := by decide +kernel
theorem nodup_sub : ∀ (as bs : List Str), as.Nodup → (∀ x, x ∈ as → x ∈ bs) → as.length ≤ bs.length
  | [], bs, _, _ => Nat.zero_le _
  | a :: as, bs, nd, h => by
    obtain ⟨na, nd'⟩ := List.nodup_cons.mp nd
    have ha := h a List.mem_cons_self
    have ih := nodup_sub as (bs.erase a) nd' fun x hx => (List.mem_erase_of_ne (fun e => by rw [e] at hx; exact na hx)).mpr (h x (List.mem_cons_of_mem _ hx))
    rw [List.length_erase_of_mem ha] at ih
    have : 0 < bs.length := List.length_pos_of_mem ha
    rw [List.length_cons]
    omega
theorem inV_str (z : Str) (zs : List Str) : inV (.str z) (zs.map V.str) = decide (z ∈ zs) := by
  unfold inV
  rw [List.any_map, Bool.eq_iff_iff, List.any_eq_true, decide_eq_true_iff]
  constructor
  · rintro ⟨x, hx, e⟩
    have e' : x = z := eq_of_beq e
    exact e' ▸ hx
  · intro h
    exact ⟨z, h, beq_self_eq_true z⟩
/-- the first of the spare ones that is not found as yet -/
def freshOf (w : Str) (zs : List Str) : List Str := (w :: spares).filter fun z => !decide (z ∈ zs)
theorem fresh_ne {w : Str} {zs : List Str} (h : zs.length < 16) : ∃ z r, freshOf w zs = z :: r := by
  cases e : freshOf w zs with
  | cons z r => exact ⟨z, r, rfl⟩
  | nil =>
    exfalso
    have hall : ∀ x, x ∈ spares → x ∈ zs := fun x hx => by
      have h1 := List.filter_eq_nil_iff.mp e x (List.mem_cons_of_mem _ hx)
      simpa using h1
    have := nodup_sub spares zs spares_nd hall
    rw [spares_len] at this
    omega
theorem fresh_mem {w z : Str} {zs r : List Str} (h : freshOf w zs = z :: r) (hw : Nm w) : Nm z ∧ z ∉ zs := by
  have hm : z ∈ freshOf w zs := by rw [h]; exact List.mem_cons_self
  obtain ⟨h1, h2⟩ := List.mem_filter.mp hm
  refine ⟨?_, by simpa using h2⟩
  rcases List.mem_cons.mp h1 with rfl | h1
  · exact hw
  · exact spares_nm z h1
/-- a word of signs from a to y -/
theorem joinL_one : ∀ cs : List Nat, TL.joinL [] (cs.map fun c => [c]) = cs
  | [] => rfl
  | [_] => rfl
  | c :: d :: r => by
    show [c] ++ ([] ++ TL.joinL [] ((d :: r).map fun c => [c])) = _
    rw [joinL_one (d :: r)]
    rfl
theorem join_one (cs : List Nat) : (Txt.join "" (cs.map fun c => (⟨#[c]⟩ : Str))).cps.toList = cs := by
  rw [TL.join_eq]
  have h := TL.tl_join "" (cs.map fun c => (⟨#[c]⟩ : Str))
  rw [List.map_map] at h
  exact h.trans (joinL_one cs)
theorem word_nm {z : Str} {cs : List Nat} (e : z.cps.toList = cs) (hc : ∀ c, c ∈ cs → c ∈ az.cps.toList) (hn : cs.length ∈ [1, 1, 2, 3, 8]) : Nm z := by
  have len : z.length = cs.length := by
    show z.cps.size = _
    rw [← Array.length_toList, e]
  have all : ∀ c, c ∈ cs → c ∈ letters.cps.toList ∧ c < 122 := fun c h => by
    have h1 := hc c h
    have key : ∀ c, c ∈ az.cps.toList → c ∈ letters.cps.toList ∧ c < 122 := by decide +kernel
    exact key c h1
  have l18 : 1 ≤ cs.length ∧ cs.length ≤ 8 ∧ cs.length ≠ 4 := by
    simp only [List.mem_cons, List.not_mem_nil, or_false] at hn
    omega
  refine ⟨?_, by rw [len]; exact l18.2.2, fun h => ?_, by rw [len]; exact l18.2.1, ?_, fun b hb h => ?_⟩
  · unfold nameB
    rw [decide_eq_true (by rw [len]; omega), decide_eq_true (by rw [len]; omega), Bool.true_and, Bool.true_and, List.all_eq_true]
    intro b hb
    unfold signB at hb
    obtain ⟨c, hc', rfl⟩ := List.mem_map.mp hb
    rw [e] at hc'
    exact decide_eq_true (all c hc').1
  · have h122 : (122 : Nat) ∈ cs := by
      rw [← e, h]
      decide +kernel
    exact absurd (all 122 h122).2 (Nat.lt_irrefl _)
  · show z.cps.all _ = true
    rw [← Array.all_toList, e, List.all_eq_true]
    intro c h
    exact decide_eq_true (Nat.lt_trans (all c h).2 (by decide))
  · have h122 : (122 : Nat) ∈ cs := by
      rw [← e, h]
      exact (show ∀ b ∈ oddNm, (122 : Nat) ∈ b.cps.toList by decide +kernel) b hb
    exact absurd (all 122 h122).2 (Nat.lt_irrefl _)
theorem sum_one : ∀ cs : List Nat, (((cs.map fun c => (⟨#[c]⟩ : Str))).map (·.length)).sum = cs.length
  | [] => rfl
  | c :: r => by
    show 1 + (((r.map fun c => (⟨#[c]⟩ : Str))).map (·.length)).sum = _
    rw [sum_one r, List.length_cons, Nat.add_comm]
theorem pool_ext {H H' : Hp} {p : Addr} {n : Int} (h : Pool H p n) (e : Ext H H') : Pool H' p n := by
  obtain ⟨g, m, c, h1, h2⟩ := h
  exact ⟨g, m, c, e _ _ h1, h2⟩
theorem pool_at {H H' : Hp} {p : Addr} {n : Int} (h : Pool H p n) (e : H' p = H p) : Pool H' p n := by
  obtain ⟨g, m, c, h1, h2⟩ := h
  exact ⟨g, m, c, by rw [e]; exact h1, h2⟩
theorem pool_ne {H : Hp} {p l : Addr} {n : Int} (h : Pool H p n) (e : H l = none) : l ≠ p := fun z => by
  obtain ⟨g, m, c, h1, _⟩ := h
  rw [z, h1] at e
  cases e
theorem But.ext {H H1 H2 : Hp} {a : Addr} (b : But H H1 a) (e : Ext H1 H2) : But H H2 a := b.trans (ext_but e)
/-- names: unlike, none of four signs, none zq -/
def Nms (zs : List Str) : Prop := zs.Nodup ∧ ∀ z, z ∈ zs → Nm z
structure HouseTxt (P : Program) (w : World) (K : PySem.W.Frag) (mg : Str → Option Value) (C CB : Addr) where
  T : HouC K C
  gH : mg "House" = some (.ref C)
  kCC : PySem.W.kitOne K (.ref C) (.ref C) = some true
  ne : PySem.W.findIn K (.ref C) "__ne__" = some (some (.builtin "object.__ne__"))
  noStr : PySem.W.subIn K (.ref C) (.type "str") = some false
  nb : ∀ T, T ∈ ["NoneType", "list", "tuple", "int", "str"] → PySem.W.notFirst K C (.type T) = true ∧ PySem.W.kitOne K (.type T) (.ref C) = some false
  fI : Addr
  fdI : FuncData
  M : Mk K C fI
  I : ∀ base, FnOk P w K mg base (L2.CX P w) 4 fI fdI ["self", "folders", "things"] (spHInit K C CB)
  bI : Binds K fdI ["self", "folders", "things"] []
  uD : Value
  bD : Binds K fdI ["self", "folders", "things"] [uD]
  aD : Addr
  eD : uD = .ref aD
  tD : ∀ H, SqT K H aD []
  fL : Addr
  fdL : FuncData
  mL : OwnM K C "__len__" fL
  L : ∀ base, FnOk P w K mg base CX0 1 fL fdL ["self"] (spHLen K C)
  bL : Binds K fdL ["self"] []
  fS : Addr
  fdS : FuncData
  mS : OwnM K C "__contains__" fS
  S : ∀ base, FnOk P w K mg base CX0 3 fS fdS ["self", "x"] (spHHas K C)
  bS : Binds K fdS ["self", "x"] []
  fW : Addr
  fdW : FuncData
  mW : OwnM K C "__iter__" fW
  W : ∀ base : Heap, FnOk P w K mg base CX0 1 fW fdW ["self"] (spIter K C "nodes" base.objs.size)
  bW : Binds K fdW ["self"] []
  fE : Addr
  fdE : FuncData
  mE : OwnM K C "__eq__" fE
  E : ∀ base, FnOk P w K mg base CX0 1 fE fdE ["self", "other"] (spHEq K C)
  bE : Binds K fdE ["self", "other"] []
/-! ### lists of truths as data -/
theorem dpAll_bl {K : PySem.W.Frag} {H : Hp} : ∀ bs : List Bool, DpAll K H (bs.map V.bl) (bs.map PyData.bool)
  | [] => .nil
  | b :: bs => .cons (.bl b) (dpAll_bl bs)
theorem canLay_bl : ∀ bs : List Bool, PyData.canLayAll0 (bs.map PyData.bool) = true
  | [] => rfl
  | b :: bs => by
    show (PyData.canLay0 (.bool b) && PyData.canLayAll0 (bs.map PyData.bool)) = true
    rw [canLay_bl bs]
    rfl
theorem depths_bl : ∀ bs : List Bool, PyData.depthAll (bs.map PyData.bool) ≤ 1
  | [] => Nat.zero_le _
  | b :: bs => by
    have h := depths_bl bs
    show max (PyData.depth (.bool b)) (PyData.depthAll (bs.map PyData.bool)) ≤ 1
    exact Nat.max_le.mpr ⟨by decide +revert, h⟩
theorem shaped_bl (bs : List Bool) : SeqAt.shaped (.list (bs.map PyData.bool)) = true := by
  refine Bool.and_eq_true_iff.mpr ⟨canLay_bl bs, decide_eq_true ?_⟩
  have h := depths_bl bs
  show PyData.depthAll (bs.map PyData.bool) + 1 ≤ 64
  omega
theorem inV_no {y : V} (h : ∀ z, eqV (.str z) y = false) (zs : List Str) : inV y (zs.map V.str) = false := by
  unfold inV
  rw [List.any_map, List.any_eq_false]
  intro z _ e
  have e' : eqV (.str z) y = true := e
  rw [h z] at e'
  cases e'
/-! ### lists of lists as data -/
theorem canLay_ds : ∀ ds : List PyData, (∀ d, d ∈ ds → d.canLay0 = true ∧ d.depth ≤ 2) → PyData.canLayAll0 ds = true ∧ PyData.depthAll ds ≤ 2
  | [], _ => ⟨rfl, Nat.zero_le _⟩
  | d :: ds, h => by
    obtain ⟨h1, h2⟩ := canLay_ds ds fun x hx => h x (List.mem_cons_of_mem _ hx)
    obtain ⟨h3, h4⟩ := h d List.mem_cons_self
    refine ⟨?_, Nat.max_le.mpr ⟨h4, h2⟩⟩
    show (d.canLay0 && PyData.canLayAll0 ds) = true
    rw [h1, h3]
    rfl
theorem shaped_ds (ds : List PyData) (h : ∀ d, d ∈ ds → d.canLay0 = true ∧ d.depth ≤ 2) : SeqAt.shaped (.list ds) = true := by
  obtain ⟨h1, h2⟩ := canLay_ds ds h
  refine Bool.and_eq_true_iff.mpr ⟨h1, decide_eq_true ?_⟩
  show PyData.depthAll ds + 1 ≤ 64
  omega
theorem flat_tup (zs : List Str) (h : OkS zs) : (PyData.tuple (zs.map PyData.str)).canLay0 = true ∧ (PyData.tuple (zs.map PyData.str)).depth ≤ 2 := ⟨canLay_str zs h, Nat.succ_le_succ (depths_str zs)⟩
theorem flat_lst (zs : List Str) (h : OkS zs) : (PyData.list (zs.map PyData.str)).canLay0 = true ∧ (PyData.list (zs.map PyData.str)).depth ≤ 2 := ⟨canLay_str zs h, Nat.succ_le_succ (depths_str zs)⟩
theorem dpAll_rep {K : PySem.W.Frag} {H : Hp} {d : PyData} : ∀ ws : List V, (∀ x, x ∈ ws → Dp K H x d) → DpAll K H ws (List.replicate ws.length d)
  | [], _ => .nil
  | x :: ws, h => .cons (h x List.mem_cons_self) (dpAll_rep ws fun y hy => h y (List.mem_cons_of_mem _ hy))
theorem flat_rep {α : Type} (n : Nat) (x : α) : (List.replicate n [x]).flatten = List.replicate n x := by
  induction n with
  | zero => rfl
  | succ n ih => rw [List.replicate_succ, List.flatten_cons, ih]; rfl
def Nok (zs : List Str) : Prop := zs.Nodup ∧ ∀ z, z ∈ zs → nameB z = true ∧ PyData.strOk z = true ∧ z.length ≤ sizeLine
theorem Nms.ok {zs : List Str} (h : Nms zs) : Nok zs := ⟨h.1, fun z hz => ⟨(h.2 z hz).1, (h.2 z hz).2.2.2.2.1, Nat.le_trans (h.2 z hz).2.2.2.1 (by rw [sizeLine_eq]; decide)⟩⟩
theorem Nok.perm {zs ws : List Str} (h : Nok zs) (p : ws.Perm zs) : Nok ws := ⟨p.nodup_iff.mpr h.1, fun z hz => h.2 z (p.mem_iff.mp hz)⟩
theorem Nok.zq {zs : List Str} (h : Nms zs) : Nok ("zq" :: zs) := by
  refine ⟨List.nodup_cons.mpr ⟨fun z => (h.2 _ z).2.2.1 rfl, h.1⟩, fun z hz => ?_⟩
  rcases List.mem_cons.mp hz with rfl | hz
  · decide +kernel
  · exact h.ok.2 z hz
theorem wrong_ok {zs : List Str} (h : Nok zs) : wrongOf (zs.map V.str) = none := by
  refine wrong_none fun i hi => ?_
  rw [List.length_map] at hi
  unfold badAt
  rw [List.getElem?_map, List.getElem?_eq_getElem hi]
  show (!nameB zs[i] || inV (.str zs[i]) ((zs.map V.str).take i)) = false
  rw [(h.2 _ (List.getElem_mem hi)).1, ← List.map_take, inV_str]
  have nd := h.1
  rw [← List.take_append_drop i zs, List.nodup_append] at nd
  have hd : zs[i] ∈ zs.drop i := by
    rw [List.drop_eq_getElem_cons hi]
    exact List.mem_cons_self
  rw [decide_eq_false fun hm => nd.2.2 _ hm _ hd rfl]
  rfl
theorem part_ok {fo th : List Str} (h : Nok (fo ++ th)) (hf : fo ≠ []) : partOf (some (fo.map V.str)) (some (th.map V.str)) = none := by
  have hl : ¬ (fo.map V.str).length = 0 := by
    rw [List.length_map]
    exact fun e => hf (List.eq_nil_of_length_eq_zero e)
  show (if (fo.map V.str).length = 0 then some 0 else wrongOf (fo.map V.str ++ th.map V.str)) = none
  rw [if_neg hl, ← List.map_append, wrong_ok h]
theorem things_ok {K : PySem.W.Frag} {H : Hp} {zs : List Str} (h : ∀ z, z ∈ zs → z.length ≤ sizeLine) : ∀ y, y ∈ zs.map V.str → Thing K H y := fun y hy => by
  obtain ⟨z, hz, rfl⟩ := List.mem_map.mp hy
  exact .inl ⟨z, rfl, h z hz⟩
/-- House(..) of good names -/
theorem mk_at {K : PySem.W.Frag} {C CB a b x' dx : Addr} {H : Hp} {fo th : List Str} {R : Hp → Prop} {E : XK} (sf : SeqAt2 K H a (fo.map V.str)) (st : SeqAt2 K H b (th.map V.str)) (ok : Nok (fo ++ th)) (hf : fo ≠ []) (hl : (fo ++ th).length ≤ sizeLine)
    (h1 : H x' = none) (h2 : H dx = none) (h3 : dx ≠ x') (q : ∀ H', Ext H H' → Hou H' K C x' fo th → R H') : spHInit K C CB [.ref x', .ref a, .ref b] (L2.upd (L2.upd H dx (.own x')) x' (.ins C dx [])) (fun v H2 => v = .non ∧ R H2) E := by
  have xn : Ext H (L2.upd (L2.upd H dx (.own x')) x' (.ins C dx [])) := fun c u k => by
    rw [upd_ne (ne_of_none k h1), upd_ne (ne_of_none k h2)]
    exact k
  have okf : ∀ z, z ∈ fo → _ := fun z hz => ok.2 z (List.mem_append_left _ hz)
  have okt : ∀ z, z ∈ th → _ := fun z hz => ok.2 z (List.mem_append_right _ hz)
  refine ⟨x', dx, _, _, some (fo.map V.str), some (th.map V.str), rfl, upd_same, ⟨a, rfl, sf.ext xn, things_ok fun z hz => (okf z hz).2.2⟩, ⟨b, rfl, st.ext xn, things_ok fun z hz => (okt z hz).2.2⟩, fun xs ys e1 e2 => ?_, fun xs ys H' e1 e2 _ bt hs => ⟨rfl, ?_⟩, fun i d H' e => ?_⟩
  · cases e1
    cases e2
    rw [← List.map_append, List.length_map]
    exact hl
  · cases e1
    cases e2
    refine q H' (fun c u k => bt c u (ne_of_none k h1) (xn c u k)) ⟨hs, fun z hz => (okf z hz).2.1, fun z hz => (okt z hz).2.1⟩
  · rw [part_ok ok hf] at e
    cases e
theorem HouseTxt.vD {P : Program} {w : World} {K : PySem.W.Frag} {mg : Str → Option Value} {C CB : Addr} (Z : HouseTxt P w K mg C CB) : Vals [V.ref Z.aD] [Z.uD] := .cons Z.eD .nil
theorem sqT_upd {K : PySem.W.Frag} {H : Hp} {l f : Addr} {ys zs xs : List V} (h : SqT K H f xs) (hl : H l = some (.lst ys)) : SqT K (L2.upd H l (.lst zs)) f xs := by
  rcases h with (h | ⟨o, h⟩) | h
  · exact .inl (.inl (by rw [upd_ne (ne_of h hl (fun z => nomatch z))]; exact h))
  · exact .inl (.inr ⟨o, by rw [upd_ne (ne_of h hl (fun z => nomatch z))]; exact h⟩)
  · exact .inr h
theorem hou_upd {H : Hp} {K : PySem.W.Frag} {C b l : Addr} {fo th : List Str} {ys zs : List V} (h : Hou H K C b fo th) (hl : H l = some (.lst ys)) : Hou (L2.upd H l (.lst zs)) K C b fo th := by
  obtain ⟨⟨dx, fs, f, t, n, h1, h2, h3, h4, h5, h6, h7⟩, ok⟩ := h
  exact ⟨⟨dx, fs, f, t, n, by rw [upd_ne (ne_of h1 hl (fun z => nomatch z))]; exact h1, h2, h3, h4, sqT_upd h5 hl, sqT_upd h6 hl, sqT_upd h7 hl⟩, ok⟩
def Has (P : Program) (w : World) (K : PySem.W.Frag) (mg : Str → Option Value) (base : Heap) (k : Nat) (x : Str) (ps : List Str) (sp : Sp) : Prop :=
  ∃ (f : Addr) (fd : FuncData), FnOk P w K mg base CX0 k f fd ps sp ∧ mg x = some (.ref f) ∧ PySem.W.keepIn K (.ref f) = true ∧ Binds K fd ps []
theorem pe_has {X : Cx} {k : Nat} {x : Str} {ps : List Str} {sp : Sp} {e : Expr} {es : List Expr} {t : TA} {p pos : Pos} (h : Has X.prog X.w X.K X.mg X.base k x ps sp) (hr : Room k X.A) (ha : PA X (e :: es) t) (hg : Gl X x := by rfl)
    (hdb : (x == ("__debug__" : Str)) = false := by decide) (h1 : starEach (e :: es) X.env = (false, eval e X.env) :: starEach es X.env := by rfl) (h2 : (backTo pos (starEach es X.env)).any (·.1) = false := by rfl) :
    PE X (.Call (.Name x p) (e :: es) [] pos) (tCall sp [] E0 t) := by
  obtain ⟨f, fd, F, m, kp, b⟩ := h
  exact pe_call F hr hg m kp b .nil pass0 ha hdb h1 h2
/-- list(a) -/
def rLst (K : PySem.W.Frag) : List V → Hp → VK → Prop := fun xs H Q => ∃ a zs, xs = [.ref a] ∧ SqL K H a zs ∧ ∀ l, H l = none → Q (.ref l) (L2.upd H l (.lst zs))
theorem call_lst {X : Cx} : CallR X (.type "list") (rLst X.K) := by
  intro pins s σ H xs us Q I rv h
  obtain ⟨a, zs, rfl, sq, q⟩ := h
  exact call_list_of pins s σ H _ us Q I rv ⟨a, zs, rfl, .inl sq, q⟩
theorem pool_mono {H : Hp} {p : Addr} {n m : Int} (h : Pool H p n) (e : n ≤ m) : Pool H p m := by
  obtain ⟨g, mm, c, h1, h2, h3, h4, h5, h6⟩ := h
  exact ⟨g, mm, c, h1, h2, h3, h4, h5, by omega⟩
theorem pool_upd {H : Hp} {p l : Addr} {o : HO} {n : Int} (h : Pool H p n) (e : l ≠ p) : Pool (L2.upd H l o) p n := pool_at h (upd_ne (Ne.symm e))
theorem cutV_take {xs : List V} {k : Nat} (h : k ≤ xs.length) : cutV xs none (some ((k : Nat) : Int)) = xs.take k := by
  unfold cutV
  rw [HT.sIx_none, HT.sIx_nat, Nat.min_eq_left h, Nat.sub_zero, List.drop_zero]
theorem cutV_drop {xs : List V} {k : Nat} (h : k ≤ xs.length) : cutV xs (some ((k : Nat) : Int)) none = xs.drop k := by
  unfold cutV
  rw [HT.sIx_none, HT.sIx_nat, Nat.min_eq_left h, List.take_of_length_le (by rw [List.length_drop]; exact Nat.le_refl _)]
end My

namespace My
open PySem PySem.Spec PyProof.Rows L2
abbrev nNames : List Str := ["_law_pool_here", "_law_many", "_law_found", "_law_k", "_law_size", "_law_word", "_law_spare", "_law_j", "_law_letter", "_law_each"]
theorem scNames : FnScope nNames ["_law_pool_here", "_law_many"] (defScope sNames) := ⟨rfl, rfl, rfl, by decide +kernel, rfl, by decide +kernel, by decide +kernel⟩
def spNames (K : PySem.W.Frag) : Sp := fun vs H Q _ => ∃ (p : Addr) (m : Nat) (n : Int), vs = [.ref p, .int (m : Int)] ∧ m ≤ 12 ∧ Pool H p n ∧ n < 1000000 ∧
  ∀ l zs H', But H H' p → Pool H' p (n + 9 * m) → H' l = some (.lst (zs.map V.str)) → H l = none → zs.length = m → Nms zs → Q (.ref l) H'
section
variable {P : Program} {w : World} {K : PySem.W.Frag} {mg : Str → Option Value} {base : Heap} {f fT : Addr} {fd fdT : FuncData}
theorem ok_names (Fn : FnP K "_law_names" sNames f fd) (FT : FnOk P w K mg base CX0 1 fT fdT ["_law_pool_here", "_law_many"] spTake) (gT : mg "_law_take" = some (.ref fT)) (kT : PySem.W.keepIn K (.ref fT) = true) (bT : Binds K fdT ["_law_pool_here", "_law_many"] []) (gR : mg "range" = none) :
    FnOk P w K mg base CX0 2 f fd ["_law_pool_here", "_law_many"] (spNames K) := by
  refine Fn.ok scNames (fun vs H Q E h => ?_) (fun cdv A outer s H vs Q E hr h => ⟨_, PSs.nox
    (pss_cons (ps_set (i := 2) scNames.nd rfl (.inr rfl) (pe_lst pa_nil))
    (pss_cons (ps_for PassesOwn.never rfl (pi_range1 (by rfl) gR (pa_cons (pv 1) pa_nil)) (pg_name (i := 3) scNames.nd rfl (Or.inl rfl))
      (pss_cons (ps_set (i := 4) scNames.nd rfl (.inl rfl) (pe_ix ix_list (pe_lst (pa_cons pe_int (pa_cons pe_int (pa_cons pe_int (pa_cons pe_int (pa_cons pe_int pa_nil)))))) (pe_call FT hr (by rfl) gT kT bT .nil pass0 (pa_cons (pv 0) (pa_cons pe_int pa_nil))) (fun _ _ => rfl)))
      (pss_cons (ps_set (i := 5) scNames.nd rfl (.inl rfl) (pe_bm PySem.F.plainAttrs_str PySem.F.slot_str_join PySem.F.type_str_join mt_join pe_str (pa_cons (pe_lc (own := [("_law_j", 7)]) (g := gName 7) (tt := tYes) rfl scNames.nd (pi_range1 (by rfl) gR (pa_cons (pv 4) pa_nil)) (blkOk_by (N := nNames) (sc := defScope sNames) (by decide +kernel))
          (fun _ _ _ _ _ => pg_name (i := 7) scNames.nd rfl (Or.inl rfl)) (fun _ _ _ _ _ => pts_nil) (fun _ _ _ _ _ => pe_ix ix_str pe_str (pe_call FT (hr.mono (by decide)) (by rfl) gT kT bT .nil pass0 (pa_cons (pv 0) (pa_cons pe_int pa_nil))) (fun _ _ => rfl))) pa_nil)))
      (pss_cons (ps_set (i := 6) scNames.nd rfl (.inl rfl) (pe_op L2.op_cat (pe_lst (pa_cons (pv 5) pa_nil)) (pe_lc (own := [("_law_letter", 8)]) (g := gName 8) (tt := tYes) rfl scNames.nd (pi_str pe_str) (blkOk_by (N := nNames) (sc := defScope sNames) (by decide +kernel))
          (fun _ _ _ _ _ => pg_name (i := 8) scNames.nd rfl (Or.inl rfl)) (fun _ _ _ _ _ => pts_nil) (fun _ _ _ _ _ => pe_op op_add_str (pe_op op_add_str pe_str (pv 8)) pe_str))))
      (pss_one (ps_expr (pe_bm PySem.F.plainAttrs_list PySem.F.slot_list_append PySem.F.type_list_append mt_append (pv 2) (pa_cons (pe_ix ix_list (pe_lc (own := [("_law_each", 9)]) (g := gName 9) (tt := tTest (tOp (rIn K true) (tVar 9) (tVar 2))) rfl scNames.nd (pi_list (pv 6)) (blkOk_by (N := nNames) (sc := defScope sNames) (by decide +kernel))
          (fun _ _ _ _ _ => pg_name (i := 9) scNames.nd rfl (Or.inl rfl)) (fun _ _ _ _ _ => pts_one (pt_cmpR op_notIn_seq (pv 9) (pv 2) (by rfl))) (fun _ _ _ _ _ => pv 9)) pe_int (fun _ _ => rfl)) pa_nil))))))))
    (pss_one (ps_ret (pv 2))))), ?_⟩)
  · obtain ⟨p, m, n, rfl, _⟩ := h
    rfl
  · obtain ⟨p, m, n, rfl, hm, hp, hn, q⟩ := h
    refine ⟨Nat.zero_le _, fun l hl => ?_⟩
    refine ⟨_, rfl, (m : Int), rfl, Int.le_trans (by decide) (Int.natCast_nonneg m), Int.lt_of_le_of_lt (Int.ofNat_le.mpr hm) (by decide), for_range (lo := 0) (n := m) (fun k σ H' => ∃ v3 v4 v5 v6 zs, σ = [some (.ref p), some (.int (m : Int)), some (.ref l), v3, v4, v5, v6, none, none, none] ∧ But H H' p ∧ Pool H' p (n + 9 * k) ∧ H' l = some (.lst (zs.map V.str)) ∧ zs.length = k ∧ Nms zs) ?_ ?_ ?_⟩
    · exact ⟨none, none, none, none, [], rfl, fun b u _ e => by rw [upd_ne (ne_of_none e hl)]; exact e, by
        obtain ⟨g, mm, c, h1, h2⟩ := hp
        refine ⟨g, mm, c, by rw [upd_ne (ne_of_none h1 hl)]; exact h1, ?_⟩
        rw [show n + 9 * ((0 : Nat) : Int) = n by omega]
        exact h2, upd_same, rfl, List.nodup_nil, fun z hz => by cases hz⟩
    · rintro k σ H1 hk ⟨v3, v4, v5, v6, zs, rfl, b1, p1, l1, len1, ns1⟩
      refine ⟨Nat.le_of_ble_eq_true rfl, fun l2 hl2 => ?_⟩
      have lp : l ≠ p := pool_ne hp hl
      obtain ⟨Ha, hHa⟩ : ∃ Ha, Ha = L2.upd H1 l2 (.lst [.int 1, .int 1, .int 2, .int 3, .int 8]) := ⟨_, rfl⟩
      rw [← hHa]
      have xa : Ext H1 Ha := by
        rw [hHa]
        exact Ext.upd hl2
      have l2a : Ha l2 = some (.lst [.int 1, .int 1, .int 2, .int 3, .int 8]) := by rw [hHa, upd_same]
      have l2p : l2 ≠ p := pool_ne p1 hl2
      refine ⟨_, rfl, p, 5, _, rfl, by decide, by decide, pool_ext p1 xa, by omega, fun r o r0 r1 gp => ?_⟩
      obtain ⟨Hb, hHb⟩ : ∃ Hb, Hb = L2.upd Ha p o := ⟨_, rfl⟩
      rw [← hHb] at gp
      rw [← hHb]
      have bb : But Ha Hb p := by
        rw [hHb]
        exact But.upd (ext_but Ext.rfl')
      have lb : Hb l = some (.lst (zs.map V.str)) := bb _ _ lp (xa _ _ l1)
      obtain ⟨j, rfl⟩ := Int.eq_ofNat_of_zero_le r0
      have hj : j < 5 := by omega
      obtain ⟨sz, hsz, hin⟩ : ∃ sz : Nat, ([.int 1, .int 1, .int 2, .int 3, .int 8] : List V)[j]? = some (.int (sz : Int)) ∧ sz ∈ [1, 1, 2, 3, 8] := by
        match j, hj with
        | 0, _ => exact ⟨1, rfl, by decide⟩
        | 1, _ => exact ⟨1, rfl, by decide⟩
        | 2, _ => exact ⟨2, rfl, by decide⟩
        | 3, _ => exact ⟨3, rfl, by decide⟩
        | 4, _ => exact ⟨8, rfl, by decide⟩
      have hsz8 : sz ≤ 8 := by
        simp only [List.mem_cons, List.not_mem_nil, or_false] at hin
        omega
      refine ⟨l2, _, _, _, rfl, rfl, SqL.of (bb _ _ l2p l2a), atI_nat hsz, ?_⟩
      refine ⟨rfl, _, rfl, (sz : Int), rfl, Int.le_trans (by decide) (Int.natCast_nonneg sz), Int.lt_of_le_of_lt (Int.ofNat_le.mpr hsz8) (by decide), fun D hD => lc_it (walk_range (lo := 0) (n := sz))
        (fun i H' => But Hb H' p ∧ Pool H' p (n + 9 * k + 1 + i) ∧ ∃ cs : List Nat, cs.length = i ∧ (∀ c, c ∈ cs → c ∈ az.cps.toList) ∧ H' D = some (.lst (cs.map fun c => V.str ⟨#[c]⟩)))
        ⟨ext_but (Ext.upd hD), pool_ext (by rw [show n + 9 * (k : Int) + 1 + ((0 : Nat) : Int) = n + 9 * k + 1 by omega]; exact gp) (Ext.upd hD), [], rfl, (fun c hc => by cases hc), upd_same⟩ (fun _ _ _ _ => True.intro) ?_ ?_⟩
      · rintro i x H2 H3 hi ⟨b2, p2, cs, hcs, hall, ld⟩ ⟨rfl, rfl⟩
        refine ⟨rfl, ?_⟩
        refine lcYes ?_
        have Dp : D ≠ p := pool_ne gp hD
        refine ⟨_, rfl, p, 25, _, rfl, by decide, by decide, p2, by omega, fun r o r0 r1 gp => ?_⟩
        obtain ⟨c1, rfl⟩ := Int.eq_ofNat_of_zero_le r0
        have hc1 : c1 < az.cps.toList.length := by
          rw [show az.cps.toList.length = 25 by decide +kernel]
          omega
        refine ⟨az, _, az.cps.toList[c1], rfl, rfl, Nat.le_of_ble_eq_true (by decide +kernel), atI_nat (List.getElem?_eq_getElem hc1), cs.map (fun c => V.str ⟨#[c]⟩), ?_, ?_, ?_⟩
        · rw [upd_ne Dp]
          exact ld
        · rw [List.length_map, hcs, sizeLine_eq]
          omega
        · refine ⟨?_, ?_, cs ++ [az.cps.toList[c1]], by rw [List.length_append, hcs]; rfl, fun c hc => ?_, by rw [upd_same, List.map_append]; rfl⟩
          · intro b u hb hu
            rw [upd_ne (ne_of_none hu hD), upd_ne hb]
            exact b2 b u hb hu
          · refine pool_at (n := n + 9 * k + 1 + ((i + 1 : Nat) : Int)) (H := L2.upd H3 p o) ?_ (upd_ne (Ne.symm Dp))
            rw [show n + 9 * (k : Int) + 1 + ((i + 1 : Nat) : Int) = n + 9 * k + 1 + (i : Int) + 1 by omega]
            exact gp
          · rcases List.mem_append.mp hc with hc | hc
            · exact hall c hc
            · rw [List.mem_singleton.mp hc]
              exact List.getElem_mem hc1
      rintro H4 ⟨b4, p4, cs, hcs, hall, ld⟩
      have l4 : H4 l = some (.lst (zs.map V.str)) := b4 _ _ lp lb
      refine ⟨_, D, cs.map fun c => (⟨#[c]⟩ : Str), rfl, rfl, .inl (SqL.of (by rw [ld, List.map_map]; rfl)), by rw [sum_one, hcs]; show sz + _ * 0 ≤ _; omega, ?_⟩
      have hw : Nm (Txt.join "" (cs.map fun c => (⟨#[c]⟩ : Str))) := word_nm (join_one cs) hall (by rw [hcs]; exact hin)
      obtain ⟨wd, hwd⟩ : ∃ wd, wd = Txt.join "" (cs.map fun c => (⟨#[c]⟩ : Str)) := ⟨_, rfl⟩
      rw [← hwd] at hw
      rw [← hwd]
      have lD : H4 D = some (.lst (cs.map fun c => V.str ⟨#[c]⟩)) := ld
      refine ⟨_, rfl, Nat.le_of_ble_eq_true rfl, fun l5 hl5 => ?_⟩
      obtain ⟨H5, hH5⟩ : ∃ H5, H5 = L2.upd H4 l5 (.lst [.str wd]) := ⟨_, rfl⟩
      rw [← hH5]
      have x5 : Ext H4 H5 := by
        rw [hH5]
        exact Ext.upd hl5
      have l55 : H5 l5 = some (.lst [.str wd]) := by rw [hH5, upd_same]
      refine ⟨ap, rfl, fun D2 hD2 => lc_it (walk_str (z := ap)) (fun i H' => Ext H5 H' ∧ H' D2 = some (.lst ((spares.take i).map V.str))) ⟨Ext.upd hD2, upd_same⟩ (fun _ _ _ _ => True.intro) ?_ ?_⟩
      · rintro i x H6 H7 hi ⟨x6, l6⟩ ⟨rfl, c, hc, rfl⟩
        refine ⟨rfl, ?_⟩
        refine lcYes ?_
        refine ⟨_, rfl, _, _, rfl, rfl, Nat.le_of_ble_eq_true rfl, _, _, rfl, rfl, Nat.le_of_ble_eq_true rfl, _, l6, ?_, ?_⟩
        · rw [List.length_map, List.length_take]
          exact Nat.lt_of_le_of_lt (Nat.min_le_right _ _) (by rw [spares_len]; exact Nat.le_of_ble_eq_true rfl)
        · refine ⟨x6.over hD2, ?_⟩
          have e : spares[i]? = some (("z" : Str) ++ (⟨#[c]⟩ : Str) ++ ("q" : Str)) := by
            unfold spares
            rw [List.getElem?_map, Array.getElem?_toList, hc]
            rfl
          rw [upd_same, List.take_add_one, e, List.map_append]
          rfl
      rintro H6 ⟨x6, l6⟩
      have etk : spares.take ap.cps.size = spares := List.take_of_length_le (by rw [spares_len]; decide +kernel)
      rw [etk] at l6
      refine ⟨l5, D2, _, _, rfl, rfl, x6 _ _ l55, l6, by rw [List.length_map, spares_len]; exact Nat.le_of_ble_eq_true rfl, fun l7 hl7 => ?_⟩
      obtain ⟨H7, hH7⟩ : ∃ H7, H7 = L2.upd H6 l7 (.lst ([V.str wd] ++ spares.map V.str)) := ⟨_, rfl⟩
      rw [← hH7]
      have x7 : Ext H6 H7 := by
        rw [hH7]
        exact Ext.upd hl7
      have l77 : H7 l7 = some (.lst ((wd :: spares).map V.str)) := by rw [hH7, upd_same]; rfl
      have x47 : Ext H4 H7 := (x5.trans x6).trans x7
      have l17 : H7 l = some (.lst (zs.map V.str)) := x47 _ _ l4
      have fz : (zs.map V.str).all flatV = true := by rw [List.all_map]; exact List.all_eq_true.mpr fun _ _ => rfl
      refine ⟨_, rfl, .inl ⟨rfl, _, SqL.of l17⟩, ?_⟩
      refine ⟨_, rfl, l7, rfl, ⟨_, SqL.of l77⟩, fun D3 hD3 => lc_it (walk_list (xs := (wd :: spares).map V.str)) (fun i H' => Ext H7 H' ∧ H' D3 = some (.lst ((((wd :: spares).take i).filter fun z => !decide (z ∈ zs)).map V.str)))
        ⟨Ext.upd hD3, upd_same⟩ (fun i H' _ z => SqL.of (z.1 _ _ l77)) ?_ ?_⟩
      · rintro i x H8 H9 hi ⟨x8, l8⟩ ⟨rfl, hx⟩
        obtain ⟨z, hz, rfl⟩ : ∃ z, (wd :: spares)[i]? = some z ∧ x = V.str z := by
          rw [List.getElem?_map] at hx
          cases e : (wd :: spares)[i]? with
          | none =>
            rw [e] at hx
            cases hx
          | some z =>
            rw [e] at hx
            exact ⟨z, rfl, (Option.some.inj hx).symm⟩
        have l18 := x8 _ _ l17
        refine ⟨rfl, ?_⟩
        refine ⟨_, rfl, _, rfl, l, _, rfl, .inl (SqL.of l18), rfl, fz, _, rfl, ?_⟩
        rw [if_pos rfl, inV_str]
        have tk : (wd :: spares).take (i + 1) = (wd :: spares).take i ++ [z] := by rw [List.take_add_one, hz]; rfl
        by_cases hin2 : z ∈ zs
        · rw [decide_eq_true hin2]
          refine iteF ?_
          refine ⟨x8, ?_⟩
          have ef : [z].filter (fun z => !decide (z ∈ zs)) = [] := by simp [hin2]
          rw [tk, List.filter_append, ef, List.append_nil]
          exact l8
        · rw [decide_eq_false hin2]
          refine iteT ?_
          refine ⟨_, rfl, _, l8, ?_, x8.over hD3, ?_⟩
          · rw [List.length_map]
            refine Nat.lt_of_le_of_lt (List.length_filter_le _ _) ?_
            rw [List.length_take]
            refine Nat.lt_of_le_of_lt (Nat.min_le_right _ _) ?_
            rw [List.length_cons, spares_len]
            exact Nat.le_of_ble_eq_true rfl
          · have ef : [z].filter (fun z => !decide (z ∈ zs)) = [z] := by simp [hin2]
            rw [upd_same, tk, List.filter_append, ef, List.map_append]
            rfl
      rintro H8 ⟨x8, l8⟩
      rw [List.length_map, List.take_length] at l8
      obtain ⟨z, r, hzr⟩ := fresh_ne (w := wd) (zs := zs) (by omega)
      obtain ⟨hz1, hz2⟩ := fresh_mem hzr hw
      have l8' : H8 D3 = some (.lst ((z :: r).map V.str)) := by rw [← hzr]; exact l8
      have l18 := x8 _ _ l17
      refine ⟨D3, _, ((0 : Nat) : Int), .str z, rfl, rfl, SqL.of l8', atI_nat rfl, ?_⟩
      refine ⟨l, _, _, rfl, rfl, l18, by rw [List.length_map, len1, sizeLine_eq]; omega, ?_⟩
      have x48 : Ext H4 H8 := x47.trans x8
      refine ⟨_, _, _, _, zs ++ [z], rfl, ?_, ?_, by rw [upd_same, List.map_append]; rfl, by rw [List.length_append, len1]; rfl, ?_, ?_⟩
      · intro b u hb hu
        rw [upd_ne (ne_of_none hu hl)]
        exact (((b1.ext xa).trans bb).trans b4).ext x48 b u hb hu
      · refine pool_at (H := H8) ?_ (upd_ne (Ne.symm lp))
        obtain ⟨g, mm, c, h1, h2, h3, h4, h5, h6⟩ := pool_ext p4 x48
        exact ⟨g, mm, c, h1, h2, h3, h4, h5, by omega⟩
      · rw [List.nodup_append]
        refine ⟨ns1.1, by simp, fun a ha b hb e => ?_⟩
        rw [List.mem_singleton.mp hb] at e
        rw [e] at ha
        exact hz2 ha
      · intro y hy
        rcases List.mem_append.mp hy with hy | hy
        · exact ns1.2 y hy
        · rw [List.mem_singleton.mp hy]
          exact hz1
    · rintro σ H1 ⟨v3, v4, v5, v6, zs, rfl, b1, p1, l1, len1, ns1⟩
      exact ⟨_, rfl, q l zs H1 b1 p1 l1 hl len1 ns1⟩
end
end My

namespace My
open PySem PySem.Spec PyProof.Rows L2
theorem scHouse : FnScope ["_law_pool_here", "_law_most", "_law_more", "_law_many", "_law_few", "_law_words"] ["_law_pool_here", "_law_most", "_law_more"] (defScope sHouse) := ⟨rfl, rfl, rfl, by decide +kernel, rfl, by decide +kernel, by decide +kernel⟩
def spHouse : Sp := fun vs H Q _ => ∃ (p : Addr) (n : Int) (mo mr : Nat), vs = [.ref p, .int (mo : Int), .int (mr : Int)] ∧ 1 ≤ mo ∧ mo ≤ 4 ∧ 1 ≤ mr ∧ mr ≤ 3 ∧ Pool H p n ∧ n < 900000 ∧
  ∀ t l1 l2 fo th H', But H H' p → Pool H' p (n + 80) → H' t = some (.tup [.ref l1, .ref l2]) → H' l1 = some (.lst (fo.map V.str)) → H' l2 = some (.lst (th.map V.str)) → l1 ≠ l2 → H l1 = none → H l2 = none →
    1 ≤ fo.length → fo.length ≤ mo → th.length ≤ mr → 2 ≤ fo.length + th.length → Nms (fo ++ th) → Q (.ref t) H'
section
variable {P : Program} {w : World} {K : PySem.W.Frag} {mg : Str → Option Value} {base : Heap} {f fT fN : Addr} {fd fdT fdN : FuncData}
theorem ok_house (Fn : FnP K "_law_house" sHouse f fd) (FT : FnOk P w K mg base CX0 1 fT fdT ["_law_pool_here", "_law_many"] spTake) (gT : mg "_law_take" = some (.ref fT)) (kT : PySem.W.keepIn K (.ref fT) = true) (bT : Binds K fdT ["_law_pool_here", "_law_many"] [])
    (FN : FnOk P w K mg base CX0 2 fN fdN ["_law_pool_here", "_law_many"] (spNames K)) (gN : mg "_law_names" = some (.ref fN)) (kN : PySem.W.keepIn K (.ref fN) = true) (bN : Binds K fdN ["_law_pool_here", "_law_many"] []) (gM : mg "max" = none) :
    FnOk P w K mg base CX0 3 f fd ["_law_pool_here", "_law_most", "_law_more"] spHouse := by
  refine Fn.ok scHouse (fun vs H Q E h => ?_) (fun cdv A outer s H vs Q E hr h => ⟨_, PSs.nox
    (pss_cons (ps_set (i := 3) scHouse.nd rfl (.inl rfl) (pe_op op_add pe_int (pe_call FT (hr.mono (by decide)) (by rfl) gT kT bT .nil pass0 (pa_cons (pv 0) (pa_cons (pv 1) pa_nil)))))
    (pss_cons (ps_set (i := 4) scHouse.nd rfl (.inl rfl) (pe_callB (call_max2 rfl) (by rfl) gM boot_max (pa_cons (pe_call FT (hr.mono (by decide)) (by rfl) gT kT bT .nil pass0 (pa_cons (pv 0) (pa_cons (pe_op op_add (pv 2) pe_int) pa_nil))) (pa_cons (pe_op op_sub pe_int (pv 3)) pa_nil))))
    (pss_cons (ps_set (i := 5) scHouse.nd rfl (.inl rfl) (pe_call FN hr (by rfl) gN kN bN .nil pass0 (pa_cons (pv 0) (pa_cons (pe_op op_add (pv 3) (pv 4)) pa_nil))))
    (pss_one (ps_ret (pe_tup (pa_cons (pe_slice sl_list (pv 5) po_none (po_some (pv 3))) (pa_cons (pe_slice sl_list (pv 5) (po_some (pv 3)) po_none) pa_nil)))))))), ?_⟩)
  · obtain ⟨p, n, mo, mr, rfl, _⟩ := h
    rfl
  · obtain ⟨p, n, mo, mr, rfl, mo1, mo4, mr1, mr3, hp, hn, q⟩ := h
    refine ⟨_, rfl, _, rfl, p, mo, n, rfl, by omega, by omega, hp, by omega, fun r o r0 r1 gp => ?_⟩
    obtain ⟨H1, hH1⟩ : ∃ H1, H1 = L2.upd H p o := ⟨_, rfl⟩
    rw [← hH1] at gp
    rw [← hH1]
    have b1 : But H H1 p := by
      rw [hH1]
      exact But.upd (ext_but Ext.rfl')
    obtain ⟨r', rfl⟩ := Int.eq_ofNat_of_zero_le r0
    refine ⟨_, _, rfl, rfl, ?_⟩
    refine ⟨_, rfl, _, rfl, _, _, rfl, rfl, p, _, _, rfl, by omega, by omega, gp, by omega, fun r2 o2 r20 r21 gp2 => ?_⟩
    obtain ⟨H2, hH2⟩ : ∃ H2, H2 = L2.upd H1 p o2 := ⟨_, rfl⟩
    rw [← hH2] at gp2
    rw [← hH2]
    have b2 : But H H2 p := b1.trans (by
      rw [hH2]
      exact But.upd (ext_but Ext.rfl'))
    obtain ⟨r2', rfl⟩ := Int.eq_ofNat_of_zero_le r20
    refine ⟨_, rfl, _, _, rfl, rfl, _, _, rfl, ?_⟩
    -- the numbers
    obtain ⟨few, hfew, hf1, hf2⟩ : ∃ few : Nat, (if (2 - (1 + (r' : Int))) > (r2' : Int) then (2 - (1 + (r' : Int))) else (r2' : Int)) = (few : Int) ∧ few ≤ mr ∧ 2 ≤ (1 + r') + few := by
      by_cases c : (2 - (1 + (r' : Int))) > (r2' : Int)
      · rw [if_pos c]
        exact ⟨1 - r', by omega, by omega, by omega⟩
      · rw [if_neg c]
        exact ⟨r2', rfl, by omega, by omega⟩
    refine ⟨_, rfl, _, rfl, _, rfl, _, _, rfl, rfl, p, 1 + r' + few, _, by rw [hfew]; rfl, by omega, gp2, by omega, fun l zs H3 b3 p3 l3 ln3 len3 nms3 => ?_⟩
    have b03 : But H H3 p := b2.trans b3
    have lp : l ≠ p := pool_ne gp2 ln3
    have hk : 1 + r' ≤ (zs.map V.str).length := by
      rw [List.length_map, len3]
      omega
    have hH : ∀ {b : Addr}, H3 b = none → H b = none := fun {b} h => by
      cases hh : H b with
      | none => rfl
      | some u =>
        by_cases e : b = p
        · obtain ⟨_, _, _, h1, _⟩ := p3
          rw [e, h1] at h
          cases h
        · rw [b03 b u e hh] at h
          cases h
    have ei : (1 : Int) + (r' : Int) = ((1 + r' : Nat) : Int) := by omega
    refine ⟨_, rfl, _, rfl, _, rfl, l, _, rfl, SqL.of l3, fun l4 hl4 => ?_⟩
    refine ⟨_, rfl, _, rfl, _, rfl, l, _, rfl, SqL.of (Ext.upd hl4 _ _ l3), fun l5 hl5 => ?_⟩
    refine ⟨Nat.le_of_ble_eq_true rfl, fun t ht => ?_⟩
    rw [ei, cutV_take hk, cutV_drop hk] at ht
    rw [ei, cutV_take hk] at hl5
    rw [ei, cutV_take hk, cutV_drop hk]
    obtain ⟨H4, hH4⟩ : ∃ H4, H4 = L2.upd H3 l4 (.lst ((zs.map V.str).take (1 + r'))) := ⟨_, rfl⟩
    rw [← hH4] at hl5 ht
    rw [← hH4]
    have x4 : Ext H3 H4 := by
      rw [hH4]
      exact Ext.upd hl4
    obtain ⟨H5, hH5⟩ : ∃ H5, H5 = L2.upd H4 l5 (.lst ((zs.map V.str).drop (1 + r'))) := ⟨_, rfl⟩
    rw [← hH5] at ht
    rw [← hH5]
    have x5 : Ext H4 H5 := by
      rw [hH5]
      exact Ext.upd hl5
    have x6 : Ext H5 (L2.upd H5 t (.tup [.ref l4, .ref l5])) := Ext.upd ht
    have l44 : H4 l4 = some (.lst ((zs.take (1 + r')).map V.str)) := by rw [hH4, upd_same, List.map_take]
    have l55 : H5 l5 = some (.lst ((zs.drop (1 + r')).map V.str)) := by rw [hH5, upd_same, List.map_drop]
    have ne : l4 ≠ l5 := ne_of_none l44 hl5
    have h5n : H3 l5 = none := by
      rw [hH4, upd_ne (Ne.symm ne)] at hl5
      exact hl5
    refine q t l4 l5 (zs.take (1 + r')) (zs.drop (1 + r')) _ (b03.ext ((x4.trans x5).trans x6)) (pool_mono (pool_ext p3 ((x4.trans x5).trans x6)) (by omega)) upd_same (x6 _ _ (x5 _ _ l44)) (x6 _ _ l55) ne (hH hl4) (hH h5n) ?_ ?_ ?_ ?_ ?_
    · rw [List.length_take]
      omega
    · rw [List.length_take]
      omega
    · rw [List.length_drop]
      omega
    · rw [List.length_take, List.length_drop]
      omega
    · rw [List.take_append_drop]
      exact nms3
end
end My

namespace L2
open PySem PySem.Spec PyProof.Rows
theorem PG.or {X : Cx} {t : Expr} {g g' : TG} (h : PG X t g) (h' : PG X t g') : PG X t (fun v σ H Q => g v σ H Q ∨ g' v σ H Q) :=
  ⟨fun pins s σ H v u Q I rv q => q.elim (h.run pins s σ H v u Q I rv) (h'.run pins s σ H v u Q I rv)⟩
theorem opK {X : Cx} {f : Value → Value → Sem Value} {r : PySem.W.Frag → R2} {K : PySem.W.Frag} (e : X.K = K) (h : OpR X f (r X.K)) : OpR X f (r K) := e ▸ h
theorem ixK {X : Cx} {r : PySem.W.Frag → R2} {K : PySem.W.Frag} (e : X.K = K) (h : IxR X (r X.K)) : IxR X (r K) := e ▸ h
theorem caK {X : Cx} {v : Value} {r : PySem.W.Frag → List V → Hp → VK → Prop} {K : PySem.W.Frag} (e : X.K = K) (h : CallR X v (r X.K)) : CallR X v (r K) := e ▸ h
theorem peK {X : Cx} {x : Expr} {r : PySem.W.Frag → TE} {K : PySem.W.Frag} (e : X.K = K) (h : PE X x (r X.K)) : PE X x (r K) := e ▸ h
end L2
namespace My
open PySem PySem.Spec PyProof.Rows L2
/-- an unpacking of a list or a tuple -/
def gSeq (K : PySem.W.Frag) (n : Nat) (t : TGs) : TG := fun v σ H Q => ∃ a xs, v = .ref a ∧ SeqAt2 K H a xs ∧ xs.length = n ∧ t xs σ H Q
theorem pg_seq {X : Cx} {pos : Pos} {es : List Expr} {k : Nat} {t : TGs} {n : Nat} (hc : X.calm = true) (h : PGs X es t) (h1 : (assignEach es X.env).length = n := by rfl) (h2 : List.findIdx? (fun x => x.fst) (assignEach es X.env) = none := by rfl) : PG X (Expr.Tuple es k pos) (gSeq X.K n t) :=
  ⟨fun pins s σ H v u Q I rv q => (PG.or (pg_tup hc h h1 h2) (pg_unl hc h h1 h2)).run pins s σ H v u Q I rv (by
    obtain ⟨a, xs, e, sq, l, q⟩ := q
    exact sq.elim (fun z => .inr ⟨a, xs, e, z, l, q⟩) fun z => .inl ⟨a, xs, e, z, l, q⟩)⟩
/-! ### facts -/
def wordsS : List Str := ["below", "not", "line"]
/-- what may stand in a fact: flat, or a list, a tuple, a dict -/
def Itm (K : PySem.W.Frag) (H : Hp) (x : V) : Prop := flatV x = true ∨ NoText K H x
theorem NoText.ext {K : PySem.W.Frag} {H H' : Hp} {x : V} (h : NoText K H x) (e : Ext H H') : NoText K H' x := by
  rcases h with ⟨a, xs, rfl, h | h⟩ | ⟨a, kvs, rfl, h⟩
  · exact .inl ⟨a, xs, rfl, .inl (h.ext e)⟩
  · exact .inl ⟨a, xs, rfl, .inr (h.ext e)⟩
  · exact .inr ⟨a, kvs, rfl, e _ _ h⟩
theorem Itm.ext {K : PySem.W.Frag} {H H' : Hp} {x : V} (h : Itm K H x) (e : Ext H H') : Itm K H' x := h.elim .inl fun z => .inr (NoText.ext z e)
theorem noText_inV {K : PySem.W.Frag} {H : Hp} {x : V} (h : NoText K H x) (zs : List Str) : inV x (zs.map V.str) = false := by
  refine inV_no (fun z => ?_) zs
  rcases h with ⟨a, xs, rfl, _⟩ | ⟨a, kvs, rfl, _⟩ <;> rfl
theorem eqV_strE {z : Str} {y : V} (h : eqV (.str z) y = true) : y = .str z := by
  cases y with
  | str w =>
    have e : z = w := eq_of_beq h
    rw [e]
  | _ => exact absurd (show false = true from h) Bool.false_ne_true
theorem inV_mem {y : V} {zs : List Str} (h : inV y (zs.map V.str) = true) : ∃ z, z ∈ zs ∧ y = .str z := by
  unfold inV at h
  rw [List.any_eq_true] at h
  obtain ⟨x, hx, e⟩ := h
  obtain ⟨z, hz, rfl⟩ := List.mem_map.mp hx
  exact ⟨z, hz, eqV_strE e⟩
theorem flat_strs (zs : List Str) : (zs.map V.str).all flatV = true := by
  rw [List.all_map]
  exact List.all_eq_true.mpr fun _ _ => rfl
/-- x in, not in a tuple of texts -/
def rInW (K : PySem.W.Frag) (neg : Bool) : R2 := fun x y H Q => ∃ (p : Addr) (zs : List Str), y = .ref p ∧ SqT K H p (zs.map V.str) ∧ Itm K H x ∧ Q (.bl (neg ^^ inV x (zs.map V.str))) H
theorem op_notInW {X : Cx} (hu : X.A.units + 1 < cLine) : OpR X (compareOp .NotIn) (rInW X.K true) := by
  intro pins s σ H x y v u Q I rx ry h
  obtain ⟨p, zs, rfl, sq, it, q⟩ := h
  rw [show (true ^^ inV x (zs.map V.str)) = !inV x (zs.map V.str) by cases inV x (zs.map V.str) <;> rfl] at q
  refine (OpR.or op_notIn_seq (OpR.notIn (op_inN hu))) pins s σ H x _ v u Q I rx ry ?_
  rcases it with fl | nt
  · exact .inl ⟨p, _, rfl, .inr sq, fl, flat_strs _, q⟩
  · rw [noText_inV nt] at q
    exact .inr ⟨p, zs, rfl, sq, nt, false, rfl, q⟩
theorem op_inW {X : Cx} (hu : X.A.units + 1 < cLine) : OpR X (compareOp .In) (rInW X.K false) := by
  intro pins s σ H x y v u Q I rx ry h
  obtain ⟨p, zs, rfl, sq, it, q⟩ := h
  rw [show (false ^^ inV x (zs.map V.str)) = inV x (zs.map V.str) by cases inV x (zs.map V.str) <;> rfl] at q
  refine (OpR.or op_in_seq (op_inN hu)) pins s σ H x _ v u Q I rx ry ?_
  rcases it with fl | nt
  · exact .inl ⟨p, _, rfl, .inr sq, fl, flat_strs _, q⟩
  · rw [noText_inV nt] at q
    exact .inr ⟨p, zs, rfl, sq, nt, q⟩
/-- x in, not in a house -/
def rInH (K : PySem.W.Frag) (C : Addr) (neg : Bool) : R2 := fun x y H Q => ∃ h fo th, y = .ref h ∧ Hou H K C h fo th ∧ Itm K H x ∧ Q (.bl (neg ^^ inV x ((fo ++ th).map V.str))) H
theorem op_inH {X : Cx} {C CB : Addr} (Z : HouseTxt X.prog X.w X.K X.mg C CB) (hr : Room 3 X.A) : OpR X (compareOp .In) (rInH X.K C false) := by
  intro pins s σ H x y v u Q I rx ry h
  obtain ⟨a, fo, th, rfl, ho, it, q⟩ := h
  rw [show (false ^^ inV x ((fo ++ th).map V.str)) = inV x ((fo ++ th).map V.str) by cases inV x ((fo ++ th).map V.str) <;> rfl] at q
  obtain ⟨dx, fs, hi⟩ := ho.ins
  refine (op_inO (EI := E0) hr Z.mS (Z.S _) Z.bS pass0) pins s σ H x _ v u Q I rx ry ⟨a, dx, fs, rfl, hi, a, fo, th, x, rfl, ho, ?_⟩
  rcases it with fl | nt
  · exact .inl ⟨fl, _, rfl, q⟩
  · rw [noText_inV nt] at q
    exact .inr (.inl ⟨nt, _, rfl, q⟩)
theorem op_notInH {X : Cx} {C CB : Addr} (Z : HouseTxt X.prog X.w X.K X.mg C CB) (hr : Room 3 X.A) : OpR X (compareOp .NotIn) (rInH X.K C true) := by
  intro pins s σ H x y v u Q I rx ry h
  obtain ⟨a, fo, th, rfl, ho, it, q⟩ := h
  refine (OpR.notIn (op_inH Z hr)) pins s σ H x _ v u Q I rx ry ⟨a, fo, th, rfl, ho, it, _, rfl, ?_⟩
  rw [Bool.false_xor]
  rw [Bool.true_xor] at q
  exact q
def factB (fo th : List Str) (w o p : V) : Bool := inV w (wordsS.map V.str) && (inV o ((fo ++ th).map V.str) && (inV p ((fo ++ th).map V.str) && (!decide (o = p) && (decide (w = .str "line") || inV p (fo.map V.str)))))
/-- whether x is a fact -/
def FactOf (K : PySem.W.Frag) (H : Hp) (fo th : List Str) (x : V) (b : Bool) : Prop := (b = false ∧ ∃ t, TyX K H x t ∧ PySem.W.kitAny K t [.type "list", .type "tuple"] = some false) ∨
  (b = false ∧ ∃ a xs, x = .ref a ∧ SeqAt2 K H a xs ∧ xs.length ≠ 3) ∨ ∃ a w o p, x = .ref a ∧ SeqAt2 K H a [w, o, p] ∧ Itm K H w ∧ Itm K H o ∧ Itm K H p ∧ b = factB fo th w o p
theorem FactOf.ext {K : PySem.W.Frag} {H H' : Hp} {fo th : List Str} {x : V} {b : Bool} (h : FactOf K H fo th x b) (e : Ext H H') : FactOf K H' fo th x b := by
  rcases h with ⟨h0, t, h1, h2⟩ | ⟨h0, a, xs, h1, h2, h3⟩ | ⟨a, w, o, p, h1, h2, h3, h4, h5, h6⟩
  · exact .inl ⟨h0, t, h1.ext e, h2⟩
  · exact .inr (.inl ⟨h0, a, xs, h1, h2.ext e, h3⟩)
  · exact .inr (.inr ⟨a, w, o, p, h1, h2.ext e, h3.ext e, h4.ext e, h5.ext e, h6⟩)
theorem seq_kit {K : PySem.W.Frag} {H : Hp} {a : Addr} {xs : List V} (h : SeqAt2 K H a xs) : ∃ t, TyX K H (.ref a) t ∧ PySem.W.kitAny K t [.type "list", .type "tuple"] = some true := by
  rcases h with h | h
  · exact ⟨_, tyx_sqL h, by rfl⟩
  · exact ⟨_, tyx_sqT h, by rfl⟩
def spIsFact (K : PySem.W.Frag) (C : Addr) : Sp := fun vs H Q _ => ∃ h x fo th b, vs = [.ref h, x] ∧ Hou H K C h fo th ∧ FactOf K H fo th x b ∧ ∀ H', Ext H H' → Q (.bl b) H'
abbrev nm_is_fact : List Str := ["house", "thing", "word", "one", "other"]
theorem sc_is_fact : FnScope nm_is_fact ["house", "thing"] (defScope s_is_fact) := ⟨rfl, rfl, rfl, by decide +kernel, rfl, by decide +kernel, by decide +kernel⟩
section
variable {P : Program} {w : World} {K : PySem.W.Frag} {mg : Str → Option Value} {base : Heap} {f C CB : Addr} {fd : FuncData}
theorem ok_isFact (Fn : FnP K "is_fact" s_is_fact f fd) (Z : HouseTxt P w K mg C CB) (his_list : Has P w K mg base 1 "is_list" ["thing"] (spIsList K)) (gB_len : mg "len" = none) {aW : Addr} (gW : mg "WORDS" = some (.ref aW)) (tW : ∀ H, SqT K H aW (wordsS.map V.str)) :
    FnOk P w K mg base CX0 5 f fd ["house", "thing"] (spIsFact K C) := by
  refine Fn.ok sc_is_fact (fun vs H Q E h => ?_) (fun cdv A outer s H vs Q E hr h => ⟨_, PSs.nox
    (pss_cons (ps_if (PW.pt (pw_or (pt_not (pt_val (pe_has his_list (hr.mono (by decide)) (pa_cons (pv 1) pa_nil)))) (pw_or1 (pt_cmpR op_ne (pe_callB call_len (by rfl) gB_len boot_len (pa_cons (pv 1) pa_nil)) pe_int (nomark _))))) (pss_one (ps_ret pe_bl)) pss_nil)
      (pss_cons (ps_asg (pv 1) (pg_seq rfl (pgs_cons (pg_name (i := 2) sc_is_fact.nd rfl (Or.inl rfl)) (pgs_cons (pg_name (i := 3) sc_is_fact.nd rfl (Or.inl rfl)) (pgs_cons (pg_name (i := 4) sc_is_fact.nd rfl (Or.inl rfl)) pgs_nil)))))
      (pss_cons (ps_if (PW.pt (pw_or (pt_cmpR (op_notInW (hu_of hr)) (pv 2) (pe_glob (v := .ref aW) (by rfl) gW rfl) (by rfl)) (pw_or (pt_cmpR (op_notInH Z (hr.mono (by decide))) (pv 3) (pv 0) (by rfl)) (pw_or1 (pt_cmpR (op_notInH Z (hr.mono (by decide))) (pv 4) (pv 0) (by rfl)))))) (pss_one (ps_ret pe_bl)) pss_nil)
      (pss_one (ps_ret (pe_and (pe_cmpR op_ne (pv 3) (pv 4) (nomark _)) (pe_one (pe_or (pe_cmpR op_eq (pv 2) pe_str (nomark _)) (pe_one (pe_cmpR op_in_seq (pv 4) (pe_fld (pv 0) rfl) (by rfl))))))))))), ?_⟩)
  · obtain ⟨h, x, fo, th, b, rfl, _⟩ := h
    rfl
  · obtain ⟨ho, x, fo, th, b, rfl, hou, hx, q⟩ := h
    have hx0 := hx
    rcases hx with ⟨rfl, t, ty, kt⟩ | ⟨rfl, a, xs, rfl, sq, nl⟩ | ⟨a, v1, v2, v3, rfl, sq, i1, i2, i3, rfl⟩
    · refine ⟨_, rfl, x, t, false, rfl, ty, kt, fun H1 x1 => ?_⟩
      exact ⟨false, rfl, q H1 x1⟩
    · obtain ⟨t, ty, kt⟩ := seq_kit sq
      refine ⟨_, rfl, _, t, true, rfl, ty, kt, fun H1 x1 => ?_⟩
      have sq1 := sq.ext x1
      refine ⟨true, rfl, _, rfl, _, xs.length, rfl, ?_, ?_⟩
      · exact sq1.elim (fun z => .inl ⟨_, z, rfl⟩) fun z => .inr ⟨_, z, rfl⟩
      refine ⟨rfl, _, rfl, ?_⟩
      refine ite2 (fun _ => q H1 x1) fun hn => absurd ?_ hn
      have : ¬ (V.int (xs.length : Nat) = V.int 3) := fun e => nl (by injection e with e; omega)
      rw [decide_eq_false this]
      rfl
    · obtain ⟨t, ty, kt⟩ := seq_kit sq
      refine ⟨_, rfl, _, t, true, rfl, ty, kt, fun H1 x1 => ?_⟩
      have sq1 := sq.ext x1
      refine ⟨true, rfl, _, rfl, _, 3, rfl, ?_, ?_⟩
      · exact sq1.elim (fun z => .inl ⟨_, z, rfl⟩) fun z => .inr ⟨_, z, rfl⟩
      refine ⟨rfl, _, rfl, ?_⟩
      refine iteNS rfl ?_
      have j1 := i1.ext x1
      have j2 := i2.ext x1
      have j3 := i3.ext x1
      have hou1 := hou.ext x1
      refine ⟨_, rfl, a, _, rfl, sq1, rfl, ?_⟩
      have qF : ∀ H2, Ext H1 H2 → factB fo th v1 v2 v3 = false → Q (.bl false) H2 := fun H2 x2 e => by
        have z := q H2 (x1.trans x2)
        rw [e] at z
        exact z
      refine ⟨_, _, rfl, _, _, rfl, _, _, rfl, rfl, ?_⟩
      -- the word
      refine ⟨_, rfl, aW, wordsS, rfl, tW H1, j1, _, rfl, ?_⟩
      refine ite2 (fun e => qF H1 Ext.rfl' ?_) fun e => ?_
      · have e' : inV v1 (wordsS.map V.str) = false := by simpa using e
        unfold factB
        rw [e', Bool.false_and]
      have e1 : inV v1 (wordsS.map V.str) = true := by simpa using e
      refine ⟨_, rfl, _, rfl, ho, fo, th, rfl, hou1, j2, _, rfl, ?_⟩
      refine ite2 (fun e => qF H1 Ext.rfl' ?_) fun e => ?_
      · have e' : inV v2 ((fo ++ th).map V.str) = false := by simpa using e
        unfold factB
        rw [e1, e', Bool.false_and]
        rfl
      have e2 : inV v2 ((fo ++ th).map V.str) = true := by simpa using e
      refine ⟨_, rfl, _, rfl, ho, fo, th, rfl, hou1, j3, _, rfl, ?_⟩
      refine ite2 (fun e => qF H1 Ext.rfl' ?_) fun e => ?_
      · have e' : inV v3 ((fo ++ th).map V.str) = false := by simpa using e
        unfold factB
        rw [e1, e2, e', Bool.false_and]
        rfl
      have e3 : inV v3 ((fo ++ th).map V.str) = true := by simpa using e
      obtain ⟨z1, _, rfl⟩ := inV_mem e1
      obtain ⟨z2, _, rfl⟩ := inV_mem e2
      obtain ⟨z3, _, rfl⟩ := inV_mem e3
      have ef : factB fo th (.str z1) (.str z2) (.str z3) = (!decide (V.str z2 = V.str z3) && (decide (V.str z1 = .str "line") || inV (.str z3) (fo.map V.str))) := by
        unfold factB
        rw [e1, e2, e3, Bool.true_and, Bool.true_and, Bool.true_and]
      rw [ef] at q
      refine ⟨_, rfl, _, rfl, rfl, _, rfl, ?_⟩
      refine ite2 (fun e => ?_) fun e => ?_
      · refine ⟨_, rfl, rfl, _, rfl, ?_⟩
        rw [e, Bool.true_and] at q
        refine ite2 (fun e' => ?_) fun e' => ?_
        · rw [e', Bool.true_or] at q
          exact q H1 x1
        · have e'' : decide (V.str z1 = .str "line") = false := by simpa using e'
          rw [e'', Bool.false_or] at q
          obtain ⟨⟨dx, fs, f, t, n, h1, h2, h3, h4, h5, h6, h7⟩, ok1, ok2⟩ := hou1
          exact ⟨_, rfl, _, rfl, ho, C, dx, fs, _, rfl, h1, Z.T.cl, Z.T.nf, h2, f, _, rfl, .inr h5, rfl, flat_strs _, q H1 x1⟩
      · have e'' : (!decide (V.str z2 = V.str z3)) = false := by simpa using e
        rw [e'', Bool.false_and] at q
        exact q H1 x1
end
end My

namespace My
open PySem PySem.Spec PyProof.Rows L2
/-! ### a fact as it is told -/
/-- the nodes of a line in the order of the house -/
def ordS (ns : List Str) (a b : Str) : List Str := ns.filter fun n => decide (n = a) || decide (n = b)
theorem ord_two : ∀ {ns : List Str} {a b : Str}, ns.Nodup → a ∈ ns → b ∈ ns → a ≠ b → ∃ c d, ordS ns a b = [c, d] ∧ ((c = a ∧ d = b) ∨ (c = b ∧ d = a))
  | [], a, b, _, ha, _, _ => by cases ha
  | n :: ns, a, b, nd, ha, hb, ne => by
    obtain ⟨nn, nd'⟩ := List.nodup_cons.mp nd
    have one : ∀ (x : Str), x ∈ ns → ∀ y, y ∉ ns → ordS ns x y = [x] ∧ ordS ns y x = [x] := by
      intro x hx y hy
      clear ha hb ne nn nd
      induction ns with
      | nil => cases hx
      | cons m ms ih =>
        obtain ⟨nm, ndm⟩ := List.nodup_cons.mp nd'
        have hym : m ≠ y := fun e => hy (by rw [e]; exact List.mem_cons_self)
        have hy' : y ∉ ms := fun e => hy (List.mem_cons_of_mem _ e)
        have none_ : ∀ u v : Str, u ∉ ms → v ∉ ms → ordS ms u v = [] := fun u v hu hv => by
          unfold ordS
          rw [List.filter_eq_nil_iff]
          intro k hk
          have h1 : k ≠ u := fun e => hu (e ▸ hk)
          have h2 : k ≠ v := fun e => hv (e ▸ hk)
          simp [h1, h2]
        rcases List.mem_cons.mp hx with rfl | hx'
        · have z1 := none_ x y nm hy'
          have z2 := none_ y x hy' nm
          unfold ordS at z1 z2 ⊢
          rw [List.filter_cons, List.filter_cons, z1, z2]
          simp
        · have hmx : m ≠ x := fun e => nm (e ▸ hx')
          obtain ⟨i1, i2⟩ := ih ndm hx' hy'
          unfold ordS at i1 i2 ⊢
          rw [List.filter_cons, List.filter_cons, i1, i2]
          simp [hmx, hym]
    rcases List.mem_cons.mp ha with rfl | ha'
    · have hb' : b ∈ ns := (List.mem_cons.mp hb).resolve_left fun e => ne e.symm
      have z := (one b hb' a nn).2
      refine ⟨a, b, ?_, .inl ⟨rfl, rfl⟩⟩
      unfold ordS at z ⊢
      rw [List.filter_cons, z]
      simp
    · rcases List.mem_cons.mp hb with rfl | hb'
      · have z := (one a ha' b nn).1
        refine ⟨b, a, ?_, .inr ⟨rfl, rfl⟩⟩
        unfold ordS at z ⊢
        rw [List.filter_cons, z]
        simp
      · have h1 : n ≠ a := fun e => nn (e ▸ ha')
        have h2 : n ≠ b := fun e => nn (e ▸ hb')
        obtain ⟨c, d, e, h⟩ := ord_two nd' ha' hb' ne
        refine ⟨c, d, ?_, h⟩
        unfold ordS at e ⊢
        rw [List.filter_cons, e]
        simp [h1, h2]
/-- a fact of strings -/
def IsF (fo th : List Str) (w a b : Str) : Prop := w ∈ wordsS ∧ a ∈ fo ++ th ∧ b ∈ fo ++ th ∧ a ≠ b ∧ (w = "line" ∨ b ∈ fo)
theorem fact_is {fo th : List Str} {w o p : V} (h : factB fo th w o p = true) : ∃ z a b, w = .str z ∧ o = .str a ∧ p = .str b ∧ IsF fo th z a b := by
  unfold factB at h
  obtain ⟨h1, h⟩ := Bool.and_eq_true_iff.mp h
  obtain ⟨h2, h⟩ := Bool.and_eq_true_iff.mp h
  obtain ⟨h3, h⟩ := Bool.and_eq_true_iff.mp h
  obtain ⟨h4, h5⟩ := Bool.and_eq_true_iff.mp h
  obtain ⟨z, hz, rfl⟩ := inV_mem h1
  obtain ⟨a, ha, rfl⟩ := inV_mem h2
  obtain ⟨b, hb, rfl⟩ := inV_mem h3
  refine ⟨z, a, b, rfl, rfl, rfl, hz, ha, hb, fun e => ?_, ?_⟩
  · subst e
    simp at h4
  · rcases Bool.or_eq_true_iff.mp h5 with h | h
    · have := of_decide_eq_true h
      injection this with e
      exact .inl e
    · obtain ⟨c, hc, e⟩ := inV_mem h
      injection e with e
      exact .inr (e ▸ hc)
theorem is_fact {fo th : List Str} {z a b : Str} (h : IsF fo th z a b) : factB fo th (.str z) (.str a) (.str b) = true := by
  obtain ⟨h1, h2, h3, h4, h5⟩ := h
  unfold factB
  rw [inV_str, inV_str, inV_str, inV_str, decide_eq_true h1, decide_eq_true h2, decide_eq_true h3]
  have : decide (V.str a = V.str b) = false := decide_eq_false fun e => h4 (by injection e)
  rw [this]
  rcases h5 with rfl | h5
  · simp
  · rw [decide_eq_true h5]
    simp
/-- the fact as told -/
def toldS (ns : List Str) (w a b : Str) : List Str := if w = "line" then "line" :: ordS ns a b else [w, a, b]
theorem told_three {fo th : List Str} {w a b : Str} (nd : (fo ++ th).Nodup) (h : IsF fo th w a b) : ∃ c d, toldS (fo ++ th) w a b = [w, c, d] ∧ ((c = a ∧ d = b) ∨ (w = "line" ∧ c = b ∧ d = a)) := by
  unfold toldS
  by_cases e : w = "line"
  · rw [if_pos e]
    obtain ⟨c, d, h1, h2⟩ := ord_two nd h.2.1 h.2.2.1 h.2.2.2.1
    refine ⟨c, d, by rw [h1, e], h2.imp id fun z => ⟨e, z⟩⟩
  · rw [if_neg e]
    exact ⟨a, b, rfl, .inl ⟨rfl, rfl⟩⟩
def spAsTold (K : PySem.W.Frag) (C : Addr) : Sp := fun vs H Q _ => ∃ h x fo th w a b, vs = [.ref h, .ref x] ∧ Hou H K C h fo th ∧ (fo ++ th).Nodup ∧ (fo ++ th).length < sizeLine ∧ IsF fo th w a b ∧ SeqAt2 K H x [.str w, .str a, .str b] ∧
  ∀ t H', Ext H H' → H' t = some (.tup ((toldS (fo ++ th) w a b).map V.str)) → Q (.ref t) H'
abbrev nm_as_told : List Str := ["house", "fact", "word", "one", "other", "first", "second", "node"]
theorem sc_as_told : FnScope nm_as_told ["house", "fact"] (defScope s_as_told) := ⟨rfl, rfl, rfl, by decide +kernel, rfl, by decide +kernel, by decide +kernel⟩
section
variable {P : Program} {w : World} {K : PySem.W.Frag} {mg : Str → Option Value} {base : Heap} {f C CB : Addr} {fd : FuncData}
theorem ok_asTold (Fn : FnP K "as_told" s_as_told f fd) (Z : HouseTxt P w K mg C CB) : FnOk P w K mg base CX0 1 f fd ["house", "fact"] (spAsTold K C) := by
  refine Fn.ok sc_as_told (fun vs H Q E h => ?_) (fun cdv A outer s H vs Q E hr h => ⟨_, PSs.nox
    (pss_cons (ps_asg (pv 1) (pg_seq rfl (pgs_cons (pg_name (i := 2) sc_as_told.nd rfl (Or.inl rfl)) (pgs_cons (pg_name (i := 3) sc_as_told.nd rfl (Or.inr rfl)) (pgs_cons (pg_name (i := 4) sc_as_told.nd rfl (Or.inr rfl)) pgs_nil)))))
      (pss_cons (ps_if (pt_cmpR op_ne (pv 2) pe_str (nomark _)) (pss_one (ps_ret (pe_tup (pa_cons (pv 2) (pa_cons (pv 3) (pa_cons (pv 4) pa_nil)))))) pss_nil)
      (pss_cons (ps_asg (pe_lc (own := [("node", 7)]) (g := (gName 7)) rfl sc_as_told.nd (pi_tup (pe_fld (pv 0) rfl)) (blkOk_by (N := nm_as_told) (sc := defScope s_as_told) (by decide +kernel)) (fun _ _ _ _ _ => (pg_name (i := 7) sc_as_told.nd rfl (Or.inl rfl))) (fun _ _ _ _ _ => pts_one (pt_cmpR (opK (r := fun K => rIn K false) (K := K) rfl op_in_seq) (pv 7) (pe_tup (pa_cons (pv 3) (pa_cons (pv 4) pa_nil))) (by rfl))) (fun _ _ _ _ _ => (pv 7))) (pg_unl rfl (pgs_cons (pg_name (i := 5) sc_as_told.nd rfl (Or.inl rfl)) (pgs_cons (pg_name (i := 6) sc_as_told.nd rfl (Or.inl rfl)) pgs_nil))))
      (pss_one (ps_ret (pe_tup (pa_cons (pv 2) (pa_cons (pv 5) (pa_cons (pv 6) pa_nil))))))))), ?_⟩)
  · obtain ⟨h, x, fo, th, w, a, b, rfl, _⟩ := h
    rfl
  · obtain ⟨ho, x, fo, th, wo, a, b, rfl, hou, nd, hz, hf, sq, q⟩ := h
    refine ⟨_, rfl, x, _, rfl, sq, rfl, ?_⟩
    refine ⟨_, _, rfl, _, _, rfl, _, _, rfl, rfl, ?_⟩
    refine ⟨_, rfl, rfl, _, rfl, ?_⟩
    unfold toldS at q
    refine ite2 (fun e => ?_) fun e => ?_
    · have e' : wo ≠ "line" := fun z => by
        subst z
        exact absurd e (by decide)
      rw [if_neg e'] at q
      refine ⟨_, rfl, _, rfl, _, rfl, Nat.le_of_ble_eq_true rfl, fun t ht => q t _ (Ext.upd ht) upd_same⟩
    · have e' : wo = "line" := by
        have z : V.str wo = V.str "line" := by simpa using e
        injection z
      rw [if_pos e'] at q
      subst e'
      obtain ⟨⟨dx, fs, f, t, n, h1, h2, h3, h4, h5, h6, h7⟩, ok1, ok2⟩ := hou
      refine ⟨_, rfl, ho, C, dx, fs, _, rfl, h1, Z.T.cl, Z.T.nn, h4, n, rfl, ⟨_, h7⟩, fun D hD => ?_⟩
      have enodes : fo.map V.str ++ th.map V.str = (fo ++ th).map V.str := (List.map_append ..).symm
      refine lc_tup (K := K) (a := n) (xs := (fo ++ th).map V.str) (fun i H' => Ext H H' ∧ H' D = some (.lst ((ordS ((fo ++ th).take i) a b).map V.str))) ⟨Ext.upd hD, upd_same⟩ (fun i H' _ p => by rw [← enodes]; exact h7.ext p.1) ?_ ?_
      · intro i v H1 hv ⟨x1, l1⟩
        obtain ⟨z, hz', rfl⟩ : ∃ z, (fo ++ th)[i]? = some z ∧ V.str z = v := by
          rw [List.getElem?_map] at hv
          cases hh : (fo ++ th)[i]? with
          | none => rw [hh] at hv; cases hv
          | some z => rw [hh] at hv; injection hv with hv; exact ⟨z, rfl, hv⟩
        have il : i < (fo ++ th).length := (List.getElem?_eq_some_iff.mp hz').1
        have tk : (fo ++ th).take (i + 1) = (fo ++ th).take i ++ [z] := by
          rw [List.take_add_one, hz']
          rfl
        refine ⟨rfl, _, rfl, _, rfl, _, rfl, Nat.le_of_ble_eq_true rfl, fun T hT => ⟨T, _, rfl, .inr (SqT.of upd_same), rfl, rfl, _, rfl, ?_⟩⟩
        have x2 : Ext H (upd H1 T (.tup [.str a, .str b])) := x1.upd' hT
        have l2 : (upd H1 T (.tup [.str a, .str b])) D = some (.lst ((ordS ((fo ++ th).take i) a b).map V.str)) := Ext.upd hT _ _ l1
        have ein : inV (.str z) [.str a, .str b] = (decide (z = a) || decide (z = b)) := by
          have := inV_str z [a, b]
          rw [show ([.str a, .str b] : List V) = [a, b].map V.str from rfl, this]
          simp
        refine ite2 (fun e => ?_) fun e => ?_
        · have e' : (decide (z = a) || decide (z = b)) = true := by rw [← ein]; exact e
          refine ⟨_, rfl, _, l2, ?_, ?_, ?_⟩
          · rw [List.length_map]
            refine Nat.lt_of_le_of_lt (List.length_filter_le _ _) ?_
            rw [List.length_take]
            omega
          · exact x2.over hD
          · rw [upd_same, tk]
            unfold ordS
            rw [List.filter_append, List.map_append, List.filter_cons, if_pos e']
            rfl
        · have e' : ¬ (decide (z = a) || decide (z = b)) = true := by rw [← ein]; exact e
          refine ⟨x2, ?_⟩
          rw [l2, tk]
          unfold ordS
          rw [List.filter_append, List.filter_cons, if_neg e', List.filter_nil, List.append_nil]
      · intro H1 ⟨x1, l1⟩
        rw [List.length_map, List.take_length] at l1
        obtain ⟨c, d, ecd, _⟩ := ord_two nd hf.2.1 hf.2.2.1 hf.2.2.2.1
        rw [ecd] at l1 q
        refine ⟨D, _, rfl, SqL.of l1, rfl, _, _, rfl, _, _, rfl, rfl, ?_⟩
        exact ⟨_, rfl, _, rfl, _, rfl, Nat.le_of_ble_eq_true rfl, fun t ht => q t _ (x1.upd' ht) upd_same⟩
end
end My

namespace My
open PySem PySem.Spec PyProof.Rows L2
/-! ### what is against a fact -/
/-- rows of texts, each a tuple -/
def Rows (K : PySem.W.Frag) (H : Hp) : List V → List (List Str) → Prop
  | [], [] => True
  | x :: xs, r :: rs => (∃ t, x = .ref t ∧ SqT K H t (r.map V.str)) ∧ Rows K H xs rs
  | _, _ => False
theorem Rows.ext {K : PySem.W.Frag} {H H' : Hp} (e : Ext H H') : ∀ {xs : List V} {rs : List (List Str)}, Rows K H xs rs → Rows K H' xs rs
  | [], [], _ => True.intro
  | _ :: _, _ :: _, ⟨⟨t, e1, h⟩, hr⟩ => ⟨⟨t, e1, h.ext e⟩, Rows.ext e hr⟩
  | [], _ :: _, h => h.elim
  | _ :: _, [], h => h.elim
theorem Rows.len {K : PySem.W.Frag} {H : Hp} : ∀ {xs : List V} {rs : List (List Str)}, Rows K H xs rs → xs.length = rs.length
  | [], [], _ => rfl
  | _ :: _, _ :: _, ⟨_, hr⟩ => congrArg (· + 1) (Rows.len hr)
  | [], _ :: _, h => h.elim
  | _ :: _, [], h => h.elim
theorem Rows.app {K : PySem.W.Frag} {H : Hp} : ∀ {xs ys : List V} {rs ss : List (List Str)}, Rows K H xs rs → Rows K H ys ss → Rows K H (xs ++ ys) (rs ++ ss)
  | [], _, [], _, _, h => h
  | _ :: _, _, _ :: _, _, ⟨h1, h2⟩, h => ⟨h1, Rows.app h2 h⟩
  | [], _, _ :: _, _, h, _ => h.elim
  | _ :: _, _, [], _, h, _ => h.elim
theorem Rows.at_ {K : PySem.W.Frag} {H : Hp} : ∀ {xs : List V} {rs : List (List Str)} {i : Nat} {x : V}, Rows K H xs rs → xs[i]? = some x → ∃ t r, x = .ref t ∧ SqT K H t (r.map V.str) ∧ rs[i]? = some r
  | _ :: _, r :: _, 0, _, ⟨⟨t, e1, h⟩, _⟩, e => by
    injection e with e
    subst e
    exact ⟨t, r, e1, h, rfl⟩
  | _ :: xs, _ :: rs, i + 1, x, ⟨_, h⟩, e => Rows.at_ (xs := xs) (rs := rs) h e
  | [], [], _, _, _, e => by cases e
  | [], _ :: _, _, _, h, _ => h.elim
  | _ :: _, [], _, _, h, _ => h.elim
/-- a list of rows -/
def RowsAt (K : PySem.W.Frag) (H : Hp) (l : Addr) (rs : List (List Str)) : Prop := ∃ xs, H l = some (.lst xs) ∧ Rows K H xs rs
theorem RowsAt.ext {K : PySem.W.Frag} {H H' : Hp} {l : Addr} {rs : List (List Str)} (h : RowsAt K H l rs) (e : Ext H H') : RowsAt K H' l rs := by
  obtain ⟨xs, h1, h2⟩ := h
  exact ⟨xs, e _ _ h1, h2.ext e⟩
theorem Rows.upd {K : PySem.W.Frag} {H : Hp} {l : Addr} {ys zs : List V} (hl : H l = some (.lst ys)) : ∀ {xs : List V} {rs : List (List Str)}, Rows K H xs rs → Rows K (L2.upd H l (.lst zs)) xs rs
  | [], [], _ => True.intro
  | _ :: _, _ :: _, ⟨⟨t, e1, h⟩, hr⟩ => ⟨⟨t, e1, sqT_upd h hl⟩, Rows.upd hl hr⟩
  | [], _ :: _, h => h.elim
  | _ :: _, [], h => h.elim
def agS (fo : List Str) (w c d : Str) : List (List Str) := if w = "below" then [["not", c, d]] else if w = "not" then [["below", c, d]] else (([(c, d), (d, c)] : List (Str × Str)).filter fun p => decide (p.2 ∈ fo)).map fun p => ["not", p.1, p.2]
/-- the same of a fact as it stands -/
def agF (fo th : List Str) (w a b : Str) : List (List Str) := match toldS (fo ++ th) w a b with
  | [w, c, d] => agS fo w c d
  | _ => []
def spAgainst (K : PySem.W.Frag) (C CF : Addr) : Sp := fun vs H Q E => ∃ h x fo th, vs = [.ref h, x] ∧ Hou H K C h fo th ∧ (fo ++ th).Nodup ∧ (fo ++ th).length < sizeLine ∧
  ((FactOf K H fo th x false ∧ ∀ d H', Ext H H' → H d = none → H' d = some (.xd [(("index" : Str), V.int 0)]) → E (.ref CF) (some d) H') ∨
  (∃ r w a b, x = .ref r ∧ SeqAt2 K H r [.str w, .str a, .str b] ∧ IsF fo th w a b ∧ ∀ l H', Ext H H' → H l = none → RowsAt K H' l (agF fo th w a b) → Q (.ref l) H'))
abbrev nm_against : List Str := ["house", "fact", "word", "one", "other", "node", "folder"]
theorem sc_against : FnScope nm_against ["house", "fact"] (defScope s_against) := ⟨rfl, rfl, rfl, by decide +kernel, rfl, by decide +kernel, by decide +kernel⟩
section
variable {P : Program} {w : World} {K : PySem.W.Frag} {mg : Str → Option Value} {base : Heap} {f C CB CF : Addr} {fd : FuncData}
theorem ok_against (Fn : FnP K "against" s_against f fd) (Z : HouseTxt P w K mg C CB) (EB : Er P w K mg base "BadFact" "index" CF) (his_fact : Has P w K mg base 5 "is_fact" ["house", "thing"] (spIsFact K C)) (has_told : Has P w K mg base 1 "as_told" ["house", "fact"] (spAsTold K C)) :
    FnOk P w K mg base (L2.CX P w) 6 f fd ["house", "fact"] (spAgainst K C CF) := by
  obtain ⟨fI, fdI, TB, FB, bB, _⟩ := EB
  refine Fn.ok sc_against (fun vs H Q E h => ?_) (fun cdv A outer s H vs Q E hr h => ⟨_,
    (pss_cons (ps_if (pt_not (pt_val (pe_has his_fact (hr.mono (by decide)) (pa_cons (pv 0) (pa_cons (pv 1) pa_nil))))) (pss_one (ps_raise rfl (takes_of rfl rfl rfl rfl) (pmk_oex TB.oex TB.iC TB.tI FB (hr.mono (by decide)) bB .nil pass0 (by rfl) TB.gl (pa_cons pe_int pa_nil)))) pss_nil)
      (pss_cons (ps_asg (pe_has has_told (hr.mono (by decide)) (pa_cons (pv 0) (pa_cons (pv 1) pa_nil))) (pg_tup rfl (pgs_cons (pg_name (i := 2) sc_against.nd rfl (Or.inl rfl)) (pgs_cons (pg_name (i := 3) sc_against.nd rfl (Or.inl rfl)) (pgs_cons (pg_name (i := 4) sc_against.nd rfl (Or.inl rfl)) pgs_nil)))))
      (pss_cons (ps_if (pt_cmpR op_eq (pv 2) pe_str (nomark _)) (pss_one (ps_ret (pe_lst (pa_cons (pe_tup (pa_cons pe_str (pa_cons (pv 3) (pa_cons (pv 4) pa_nil)))) pa_nil)))) pss_nil)
      (pss_cons (ps_if (pt_cmpR op_eq (pv 2) pe_str (nomark _)) (pss_one (ps_ret (pe_lst (pa_cons (pe_tup (pa_cons pe_str (pa_cons (pv 3) (pa_cons (pv 4) pa_nil)))) pa_nil)))) pss_nil)
      (pss_one (ps_ret (pe_lc (own := [("node", 5), ("folder", 6)]) (g := (gTup K 2 (gCons (gName 5) (gCons (gName 6) gNil)))) rfl sc_against.nd (pi_tup (pe_tup (pa_cons (pe_tup (pa_cons (pv 3) (pa_cons (pv 4) pa_nil))) (pa_cons (pe_tup (pa_cons (pv 4) (pa_cons (pv 3) pa_nil))) pa_nil)))) (blkOk_by (N := nm_against) (sc := defScope s_against) (by decide +kernel)) (fun _ _ _ _ _ => (pg_tup rfl (pgs_cons (pg_name (i := 5) sc_against.nd rfl (Or.inl rfl)) (pgs_cons (pg_name (i := 6) sc_against.nd rfl (Or.inl rfl)) pgs_nil)))) (fun _ _ _ _ _ => pts_one (pt_cmpR (opK (r := fun K => rIn K false) (K := K) rfl op_in_seq) (pv 6) (peK (r := fun K => tFld K (tVar 0) "folders") (K := K) rfl (pe_fld (pv 0) rfl)) (by rfl))) (fun _ _ _ _ _ => (pe_tup (pa_cons pe_str (pa_cons (pv 5) (pa_cons (pv 6) pa_nil)))))))))))), ?_⟩)
  · obtain ⟨h, x, fo, th, rfl, _⟩ := h
    rfl
  · obtain ⟨ho, x, fo, th, rfl, hou, nd, hz, hh⟩ := h
    rcases hh with ⟨hf, qE⟩ | ⟨r, wd, a1, a2, rfl, sq, isf, qN⟩
    · refine ⟨_, rfl, _, rfl, ho, x, fo, th, false, rfl, hou, hf, fun H1 x1 => ?_⟩
      refine ⟨false, rfl, ?_⟩
      refine ⟨Nat.le_of_ble_eq_true rfl, fun e he => ?_⟩
      refine ⟨e, _, rfl, upd_same, fun d hd ne => ⟨rfl, d, [("index", .int 0)], upd_same, ?_, ?_, ?_⟩⟩
      · rw [upd_ne ne, upd_same]
      · rw [upd_ne ne] at hd
        exact hd
      · rw [upd_ne ne] at hd
        refine qE d _ (fun b u k => ?_) ?_ upd_same
        · have k1 := x1 b u k
          rw [upd_ne (ne_of_none k1 hd), del_ne (ne_of_none k1 he), upd_ne (ne_of_none k1 he), upd_ne (ne_of_none k1 hd), upd_ne (ne_of_none k1 he)]
          exact k1
        · cases hh : H d with
          | none => rfl
          | some u => exact absurd (x1 d u hh) (by rw [hd]; exact fun z => nomatch z)
    · refine ⟨_, rfl, _, rfl, ho, _, fo, th, true, rfl, hou, .inr (.inr ⟨r, _, _, _, rfl, sq, .inl rfl, .inl rfl, .inl rfl, (is_fact isf).symm⟩), fun H1 x1 => ?_⟩
      refine ⟨true, rfl, ?_⟩
      have hou1 := hou.ext x1
      refine ⟨_, rfl, _, rfl, ho, r, fo, th, wd, a1, a2, rfl, hou1, nd, hz, isf, sq.ext x1, fun t H2 x2 ht => ?_⟩
      obtain ⟨c, d, et, hcd⟩ := told_three nd isf
      rw [et] at ht
      have x02 : Ext H H2 := x1.trans x2
      refine ⟨t, _, rfl, SqT.of ht, rfl, _, _, rfl, _, _, rfl, _, _, rfl, rfl, ?_⟩
      have q2 : ∀ l H', Ext H H' → H l = none → RowsAt K H' l (agS fo wd c d) → Q (.ref l) H' := fun l H' x n rr => qN l H' x n (by
        unfold agF
        rw [et]
        exact rr)
      have noneH : ∀ p, H2 p = none → H p = none := fun p hp => by
        cases hh : H p with
        | none => rfl
        | some u => exact absurd (x02 p u hh) (by rw [hp]; exact fun z => nomatch z)
      refine ⟨_, rfl, rfl, _, rfl, ?_⟩
      have one : ∀ nw : Str, (∀ l H', Ext H H' → H l = none → RowsAt K H' l [[nw, c, d]] → Q (.ref l) H') → ∀ p, H2 p = none → ∀ l, upd H2 p (.tup [.str nw, .str c, .str d]) l = none → Q (.ref l) (upd (upd H2 p (.tup [.str nw, .str c, .str d])) l (.lst [.ref p])) := fun nw q p hp l hl => by
        have xp := Ext.upd (o := .tup [.str nw, .str c, .str d]) hp
        have xl := Ext.upd (o := .lst [.ref p]) hl
        refine q l _ (x02.trans (xp.trans xl)) ?_ ⟨_, upd_same, ⟨p, rfl, (SqT.of (K := K) (xs := [.str nw, .str c, .str d]) (by rw [upd_same])).ext xl⟩, True.intro⟩
        exact noneH l (by
          have : l ≠ p := fun e => by rw [e, upd_same] at hl; cases hl
          rw [upd_ne this] at hl
          exact hl)
      refine ite2 (fun e => ?_) fun e => ?_
      · have e' : wd = "below" := by
          have z := of_decide_eq_true e
          injection z
        unfold agS at q2
        rw [if_pos e'] at q2
        refine ⟨_, rfl, _, rfl, Nat.le_of_ble_eq_true rfl, fun p hp => ⟨Nat.le_of_ble_eq_true rfl, fun l hl => one "not" q2 p hp l hl⟩⟩
      have e' : wd ≠ "below" := fun z => e (decide_eq_true (by rw [z]))
      refine ⟨_, rfl, rfl, _, rfl, ?_⟩
      refine ite2 (fun e2 => ?_) fun e2 => ?_
      · have e2' : wd = "not" := by
          have z := of_decide_eq_true e2
          injection z
        unfold agS at q2
        rw [if_neg e', if_pos e2'] at q2
        refine ⟨_, rfl, _, rfl, Nat.le_of_ble_eq_true rfl, fun p hp => ⟨Nat.le_of_ble_eq_true rfl, fun l hl => one "below" q2 p hp l hl⟩⟩
      have e2' : wd ≠ "not" := fun z => e2 (decide_eq_true (by rw [z]))
      unfold agS at q2
      rw [if_neg e', if_neg e2'] at q2
      refine ⟨_, rfl, _, rfl, Nat.le_of_ble_eq_true rfl, fun p1 hp1 => ⟨_, rfl, _, rfl, Nat.le_of_ble_eq_true rfl, fun p2 hp2 => ⟨Nat.le_of_ble_eq_true rfl, fun p3 hp3 => ?_⟩⟩⟩
      have y1 := Ext.upd (o := .tup [.str c, .str d]) hp1
      have y2 := Ext.upd (o := .tup [.str d, .str c]) hp2
      have y3 := Ext.upd (o := .tup [.ref p1, .ref p2]) hp3
      obtain ⟨H3, hH3⟩ : ∃ H3, H3 = upd (upd (upd H2 p1 (.tup [.str c, .str d])) p2 (.tup [.str d, .str c])) p3 (.tup [.ref p1, .ref p2]) := ⟨_, rfl⟩
      have x23 : Ext H2 H3 := by
        rw [hH3]
        exact y1.trans (y2.trans y3)
      have s1 : SqT K H3 p1 [.str c, .str d] := by
        rw [hH3]
        exact (SqT.of upd_same).ext (y2.trans y3)
      have s2 : SqT K H3 p2 [.str d, .str c] := by
        rw [hH3]
        exact (SqT.of upd_same).ext y3
      have s3 : SqT K H3 p3 [.ref p1, .ref p2] := by
        rw [hH3]
        exact SqT.of upd_same
      rw [← hH3]
      refine ⟨p3, rfl, ⟨_, s3⟩, fun D hD => ?_⟩
      have hou3 := hou1.ext (x2.trans x23)
      refine lc_tup (K := K) (a := p3) (xs := [.ref p1, .ref p2]) (fun i H' => Ext H3 H' ∧ ∃ acc, H' D = some (.lst acc) ∧ acc.length ≤ i ∧ Rows K H' acc (((([(c, d), (d, c)] : List (Str × Str)).take i).filter fun p => decide (p.2 ∈ fo)).map fun p => ["not", p.1, p.2])) ⟨Ext.upd hD, [], upd_same, Nat.zero_le _, True.intro⟩ (fun i H' _ p => s3.ext p.1) ?_ ?_
      · intro i v H4 hv ⟨x4, acc, l4, len4, r4⟩
        obtain ⟨u1, u2, pp, sp, rfl, tk⟩ : ∃ (u1 u2 : Str) (pp : Addr), SqT K H4 pp [.str u1, .str u2] ∧ v = .ref pp ∧ ([(c, d), (d, c)] : List (Str × Str)).take (i + 1) = ([(c, d), (d, c)] : List (Str × Str)).take i ++ [(u1, u2)] := by
          match i, hv with
          | 0, hv => exact ⟨c, d, p1, s1.ext x4, by injection hv with hv; exact hv.symm, rfl⟩
          | 1, hv => exact ⟨d, c, p2, s2.ext x4, by injection hv with hv; exact hv.symm, rfl⟩
          | i + 2, hv => cases hv
        have i2 : i < 2 := (List.getElem?_eq_some_iff.mp hv).1
        refine ⟨pp, _, rfl, sp, rfl, _, _, rfl, _, _, rfl, rfl, rfl, _, rfl, ?_⟩
        obtain ⟨⟨dx, fs, f, t, n, h1, h2, h3, h4, h5, h6, h7⟩, ok1, ok2⟩ := hou3
        refine ⟨_, rfl, ho, C, dx, fs, _, rfl, x4 _ _ h1, Z.T.cl, Z.T.nf, h2, f, _, rfl, .inr (h5.ext x4), rfl, flat_strs _, _, rfl, ?_⟩
        rw [if_neg Bool.false_ne_true, inV_str]
        rw [tk]
        refine ite2 (fun e => ?_) fun e => ?_
        · refine ⟨_, rfl, _, rfl, Nat.le_of_ble_eq_true rfl, fun T hT => ⟨acc, Ext.upd hT _ _ l4, ?_, ?_⟩⟩
          · rw [sizeLine_eq]; omega
          · refine ⟨(x4.upd' hT).over hD, _, upd_same, by rw [List.length_append]; exact Nat.succ_le_succ len4, ?_⟩
            rw [List.filter_append, List.map_append]
            refine Rows.app (Rows.upd (Ext.upd hT _ _ l4) (r4.ext (Ext.upd hT))) ?_
            rw [List.filter_cons, if_pos (show decide ((u1, u2).2 ∈ fo) = true from e)]
            exact ⟨⟨T, rfl, sqT_upd (SqT.of upd_same) (Ext.upd hT _ _ l4)⟩, True.intro⟩
        · refine ⟨x4, acc, l4, Nat.le_succ_of_le len4, ?_⟩
          rw [List.filter_append, List.filter_cons, if_neg (show ¬ decide ((u1, u2).2 ∈ fo) = true from e), List.filter_nil, List.append_nil]
          exact r4
      · intro H4 ⟨x4, acc, l4, _, r4⟩
        refine q2 D H4 (x02.trans (x23.trans x4)) (noneH D ?_) ⟨acc, l4, r4⟩
        cases hh : H2 D with
        | none => rfl
        | some u => exact absurd (x23 D u hh) (by rw [hD]; exact fun z => nomatch z)
end
end My

namespace My
open PySem PySem.Spec PyProof.Rows L2
/-- list(a) of a list or a tuple -/
def rLstS (K : PySem.W.Frag) : List V → Hp → VK → Prop := fun xs H Q => ∃ a zs, xs = [.ref a] ∧ SeqAt2 K H a zs ∧ ∀ l, H l = none → Q (.ref l) (L2.upd H l (.lst zs))
theorem call_lstS {X : Cx} : CallR X (.type "list") (rLstS X.K) := by
  intro pins s σ H xs us Q I rv h
  obtain ⟨a, zs, rfl, sq, q⟩ := h
  exact call_list_of pins s σ H _ us Q I rv ⟨a, zs, rfl, sq, q⟩
/-! ### dicts with text keys -/
abbrev Dic : Type := List (Str × V)
def kd (d : Dic) : List (Key × V) := d.map fun p => (Sum.inr p.1, p.2)
def getD (d : Dic) (z : Str) : Option V := (d.find? fun p => decide (p.1 = z)).map (·.2)
theorem val_kd (z : Str) : ∀ d : Dic, valV (kd d) (Sum.inr z) = getD d z
  | [] => rfl
  | (y, v) :: d => by
    have ih := val_kd z d
    unfold valV getD kd at *
    rw [List.map_cons, List.find?_cons, List.find?_cons]
    by_cases e : y = z
    · subst e
      simp
    · have e2 : ¬ ((Sum.inr y : Key) = Sum.inr z) := fun h => e (by injection h)
      simp only [e, e2, decide_false]
      exact ih
def setD (d : Dic) (z : Str) (v : V) : Dic := if (d.any fun p => decide (p.1 = z)) = true then d.map fun p => if p.1 = z then (p.1, v) else p else d ++ [(z, v)]
theorem any_kd (z : Str) (d : Dic) : ((kd d).any fun kv => decide (kv.1 = Sum.inr z)) = d.any fun p => decide (p.1 = z) := by
  unfold kd
  rw [List.any_map]
  congr 1
  funext p
  show decide ((Sum.inr p.1 : Key) = Sum.inr z) = decide (p.1 = z)
  by_cases e : p.1 = z
  · rw [decide_eq_true e, decide_eq_true (by rw [e])]
  · rw [decide_eq_false e, decide_eq_false fun h => e (by injection h)]
theorem put_kd (d : Dic) (z : Str) (v : V) : putK (kd d) (Sum.inr z) v = kd (setD d z v) := by
  unfold putK setD
  rw [any_kd]
  by_cases h : (d.any fun p => decide (p.1 = z)) = true
  · rw [if_pos h, if_pos h]
    unfold kd
    rw [List.map_map, List.map_map]
    refine List.map_congr_left fun p _ => ?_
    show (if (Sum.inr p.1 : Key) = Sum.inr z then ((Sum.inr p.1 : Key), v) else (Sum.inr p.1, p.2)) = _
    by_cases e : p.1 = z
    · rw [if_pos (by rw [e])]
      simp [e]
    · rw [if_neg fun h => e (by injection h)]
      simp [e]
  · rw [if_neg h, if_neg h]
    unfold kd
    rw [List.map_append]
    rfl
theorem setD_len (d : Dic) (z : Str) (v : V) : (setD d z v).length ≤ d.length + 1 := by
  unfold setD
  split
  · rw [List.length_map]
    exact Nat.le_succ _
  · rw [List.length_append]
    exact Nat.le_refl _
theorem setD_mem {d : Dic} {z : Str} {v : V} {p : Str × V} (h : p ∈ setD d z v) : p ∈ d ∨ p.2 = v := by
  unfold setD at h
  split at h
  · obtain ⟨q, hq, e⟩ := List.mem_map.mp h
    by_cases c : q.1 = z
    · rw [if_pos c] at e
      exact .inr (by rw [← e])
    · rw [if_neg c] at e
      exact .inl (e ▸ hq)
  · rcases List.mem_append.mp h with h | h
    · exact .inl h
    · rw [List.mem_singleton.mp h]
      exact .inr rfl
theorem getD_mem {d : Dic} {z : Str} {v : V} (h : getD d z = some v) : ∃ p, p ∈ d ∧ p.2 = v := by
  unfold getD at h
  cases e : d.find? fun p => decide (p.1 = z) with
  | none => rw [e] at h; cases h
  | some p =>
    rw [e] at h
    injection h with h
    exact ⟨p, List.mem_of_find?_eq_some e, h⟩
/-- the worths: None or folders -/
def DicOk (fo : List Str) (d : Dic) : Prop := ∀ p, p ∈ d → p.2 = .non ∨ ∃ z, z ∈ fo ∧ p.2 = .str z
def Opt (fo : List Str) (v : V) : Prop := v = .non ∨ ∃ z, z ∈ fo ∧ v = .str z
theorem getD_opt {fo : List Str} {d : Dic} (h : DicOk fo d) (z : Str) : Opt fo ((getD d z).getD .non) := by
  cases e : getD d z with
  | none => exact .inl rfl
  | some v =>
    obtain ⟨p, hp, e2⟩ := getD_mem e
    rw [← e2]
    exact h p hp
def stepV (d : Dic) : V → V
  | .str z => (getD d z).getD .non
  | v => v
theorem step_opt {fo : List Str} {d : Dic} (h : DicOk fo d) {v : V} (hv : Opt fo v) : Opt fo (stepV d v) := by
  rcases hv with rfl | ⟨z, _, rfl⟩
  · exact .inl rfl
  · exact getD_opt h z
/-! ### rows as data -/
def rowsD (rs : List (List Str)) : PyData := .list (rs.map fun r => .tuple (r.map PyData.str))
def OkR (rs : List (List Str)) : Prop := ∀ r, r ∈ rs → OkS r
theorem rows_dp {K : PySem.W.Frag} {H : Hp} : ∀ {xs : List V} {rs : List (List Str)}, Rows K H xs rs → DpAll K H xs (rs.map fun r => PyData.tuple (r.map PyData.str))
  | [], [], _ => .nil
  | _ :: _, r :: _, ⟨⟨t, e, h⟩, hr⟩ => by
    subst e
    exact .cons (.tup h (dpAll_str r)) (rows_dp hr)
  | [], _ :: _, h => h.elim
  | _ :: _, [], h => h.elim
theorem rows_shaped {rs : List (List Str)} (h : OkR rs) : SeqAt.shaped (rowsD rs) = true := shaped_ds _ fun d hd => by
  obtain ⟨r, hr, rfl⟩ := List.mem_map.mp hd
  exact flat_tup r (h r hr)
theorem eqvAll_rows : ∀ rs ss : List (List Str), PyData.eqvAll (rs.map fun r => PyData.tuple (r.map PyData.str)) (ss.map fun r => PyData.tuple (r.map PyData.str)) = decide (rs = ss)
  | [], [] => rfl
  | [], _ :: _ => rfl
  | _ :: _, [] => rfl
  | r :: rs, s :: ss => by
    show (PyData.eqv (.tuple (r.map PyData.str)) (.tuple (s.map PyData.str)) && PyData.eqvAll (rs.map fun r => PyData.tuple (r.map PyData.str)) (ss.map fun r => PyData.tuple (r.map PyData.str))) = _
    rw [eqvAll_rows rs ss, eqv_strT]
    by_cases h : r = s
    · subst h
      simp
    · simp [h]
theorem eqv_rows (rs ss : List (List Str)) : PyData.eqv (rowsD rs) (rowsD ss) = decide (rs = ss) := eqvAll_rows rs ss
def Three (rs : List (List Str)) : Prop := ∀ r, r ∈ rs → ∃ w a b, r = [w, a, b]
theorem filter_all {α : Type} (p : α → Bool) : ∀ xs : List α, decide (xs.filter (fun x => !p x) = ([] : List α)) = xs.all p
  | [] => rfl
  | x :: xs => by
    have ih := filter_all p xs
    rw [List.filter_cons, List.all_cons]
    cases h : p x with
    | true => simpa using ih
    | false => simp
theorem kd_len (d : Dic) : (kd d).length = d.length := List.length_map _
theorem ext_none {H H' : Hp} {p : Addr} (e : Ext H H') (h : H' p = none) : H p = none := by
  cases hh : H p with
  | none => rfl
  | some u => exact absurd (e p u hh) (by rw [h]; exact fun z => nomatch z)
theorem strs_at {zs : List Str} {i : Nat} {v : V} (h : (zs.map V.str)[i]? = some v) : ∃ z, zs[i]? = some z ∧ v = .str z := by
  rw [List.getElem?_map] at h
  cases e : zs[i]? with
  | none => rw [e] at h; cases h
  | some z =>
    rw [e] at h
    injection h with h
    exact ⟨z, rfl, h.symm⟩
/-! ### lines in the order of the house -/
theorem ord_app (a b : Str) (xs ys : List Str) : ordS (xs ++ ys) a b = ordS xs a b ++ ordS ys a b := List.filter_append ..
theorem ord_none {ns : List Str} {a b : Str} (ha : a ∉ ns) (hb : b ∉ ns) : ordS ns a b = [] := by
  unfold ordS
  rw [List.filter_eq_nil_iff]
  intro k hk
  have h1 : k ≠ a := fun e => ha (e ▸ hk)
  have h2 : k ≠ b := fun e => hb (e ▸ hk)
  simp [h1, h2]
theorem ord_comm (ns : List Str) (a b : Str) : ordS ns a b = ordS ns b a := by
  unfold ordS
  congr 1
  funext n
  rw [Bool.or_comm]
theorem ord_lt : ∀ {ns : List Str} {a b : Str} {i j : Nat}, ns.Nodup → ns[i]? = some a → ns[j]? = some b → i < j → ordS ns a b = [a, b]
  | n :: ns, a, b, 0, j + 1, nd, ha, hb, _ => by
    obtain ⟨nn, nd'⟩ := List.nodup_cons.mp nd
    injection ha with ha
    subst ha
    have hb' : b ∈ ns := List.mem_of_getElem? hb
    have nb : n ≠ b := fun e => nn (e ▸ hb')
    obtain ⟨c, d, e, h⟩ := ord_two nd List.mem_cons_self (List.mem_cons_of_mem _ hb') nb
    have e0 := e
    unfold ordS at e
    rw [List.filter_cons, if_pos (by simp)] at e
    injection e with e1 e2
    rw [e0]
    rcases h with ⟨h1, h2⟩ | ⟨h1, h2⟩
    · rw [h1, h2]
    · exact absurd (e1.trans h1) nb
  | n :: ns, a, b, i + 1, j + 1, nd, ha, hb, h => by
    obtain ⟨nn, nd'⟩ := List.nodup_cons.mp nd
    have ha' : a ∈ ns := List.mem_of_getElem? (i := i) ha
    have hb' : b ∈ ns := List.mem_of_getElem? (i := j) hb
    have h1 : n ≠ a := fun e => nn (e ▸ ha')
    have h2 : n ≠ b := fun e => nn (e ▸ hb')
    have ih := ord_lt (ns := ns) (i := i) (j := j) nd' ha hb (Nat.lt_of_succ_lt_succ h)
    unfold ordS at ih ⊢
    rw [List.filter_cons, ih]
    simp [h1, h2]
theorem agF_line {fo th : List Str} {a b c d : Str} (h : ordS (fo ++ th) a b = [c, d]) : agF fo th "line" a b = (([(c, d), (d, c)] : List (Str × Str)).filter fun p => decide (p.2 ∈ fo)).map fun p => [("not" : Str), p.1, p.2] := by
  unfold agF toldS
  rw [if_pos rfl, h]
  show agS fo "line" c d = _
  unfold agS
  rw [if_neg (by decide), if_neg (by decide)]
theorem agF_other {fo th : List Str} {w a b : Str} (h : w ≠ "line") : agF fo th w a b = agS fo w a b := by
  unfold agF toldS
  rw [if_neg h]
theorem strs_idx {ns : List Str} {j : Nat} {z : Str} (nd : ns.Nodup) (h : ns[j]? = some z) : ∀ (m : Nat) (z' : V), m < j → (ns.map V.str)[m]? = some z' → eqV z' (.str z) = false := fun m z' hm e => by
  obtain ⟨y, hy, rfl⟩ := strs_at e
  cases hh : eqV (.str y) (.str z) with
  | false => rfl
  | true =>
    have e2 : (V.str z) = .str y := eqV_strE hh
    injection e2 with e2
    subst e2
    obtain ⟨h1, e1⟩ := List.getElem?_eq_some_iff.mp h
    obtain ⟨h2, e3⟩ := List.getElem?_eq_some_iff.mp hy
    have := (List.getElem_inj nd).mp (e1.trans e3.symm)
    omega
theorem ag_three {fo th : List Str} {w a b : Str} (nd : (fo ++ th).Nodup) (h : IsF fo th w a b) : ∀ r, r ∈ agF fo th w a b → ∃ w2 a2 b2, r = [w2, a2, b2] ∧ w2 ∈ wordsS ∧ a2 ∈ fo ++ th ∧ b2 ∈ fo ++ th := fun r hr => by
  obtain ⟨c, d, et, hcd⟩ := told_three nd h
  have hc : c ∈ fo ++ th := by
    rcases hcd with ⟨rfl, rfl⟩ | ⟨_, rfl, rfl⟩
    · exact h.2.1
    · exact h.2.2.1
  have hd : d ∈ fo ++ th := by
    rcases hcd with ⟨rfl, rfl⟩ | ⟨_, rfl, rfl⟩
    · exact h.2.2.1
    · exact h.2.1
  unfold agF at hr
  rw [et] at hr
  have hr : r ∈ agS fo w c d := hr
  unfold agS at hr
  split at hr
  · rw [List.mem_singleton.mp hr]
    exact ⟨_, _, _, rfl, by decide, hc, hd⟩
  · split at hr
    · rw [List.mem_singleton.mp hr]
      exact ⟨_, _, _, rfl, by decide, hc, hd⟩
    · obtain ⟨p, hp, rfl⟩ := List.mem_map.mp hr
      have hp := (List.mem_filter.mp hp).1
      rcases List.mem_cons.mp hp with rfl | hp
      · exact ⟨_, _, _, rfl, by decide, hc, hd⟩
      · rw [List.mem_singleton.mp hp]
        exact ⟨_, _, _, rfl, by decide, hd, hc⟩
theorem ag_len {fo th : List Str} {w a b : Str} (nd : (fo ++ th).Nodup) (h : IsF fo th w a b) : (agF fo th w a b).length ≤ 2 := by
  obtain ⟨c, d, et, _⟩ := told_three nd h
  unfold agF
  rw [et]
  show (agS fo w c d).length ≤ 2
  unfold agS
  split
  · exact Nat.le_of_ble_eq_true rfl
  · split
    · exact Nat.le_of_ble_eq_true rfl
    · rw [List.length_map]
      exact Nat.le_trans (List.length_filter_le _ _) (Nat.le_of_ble_eq_true rfl)
theorem sqT_butL {K : PySem.W.Frag} {H H' : Hp} {p t : Addr} {ys xs : List V} (hp : H p = some (.lst ys)) (b : But H H' p) (h : SqT K H t xs) : SqT K H' t xs := by
  rcases h with (h | ⟨o, h⟩) | h
  · exact .inl (.inl (b _ _ (ne_of h hp (fun z => nomatch z)) h))
  · exact .inl (.inr ⟨o, b _ _ (ne_of h hp (fun z => nomatch z)) h⟩)
  · exact .inr h
theorem Rows.butL {K : PySem.W.Frag} {H H' : Hp} {p : Addr} {ys : List V} (hp : H p = some (.lst ys)) (b : But H H' p) : ∀ {xs : List V} {rs : List (List Str)}, Rows K H xs rs → Rows K H' xs rs
  | [], [], _ => True.intro
  | _ :: _, _ :: _, ⟨⟨t, e1, h⟩, hr⟩ => ⟨⟨t, e1, sqT_butL hp b h⟩, Rows.butL hp b hr⟩
  | [], _ :: _, h => h.elim
  | _ :: _, [], h => h.elim
theorem hou_butL {H H' : Hp} {K : PySem.W.Frag} {C h p : Addr} {fo th : List Str} {ys : List V} (hp : H p = some (.lst ys)) (b : But H H' p) (hh : Hou H K C h fo th) : Hou H' K C h fo th := by
  obtain ⟨⟨dx, fs, f, t, n, h1, h2, h3, h4, h5, h6, h7⟩, k⟩ := hh
  exact ⟨⟨dx, fs, f, t, n, b _ _ (ne_of h1 hp (fun z => nomatch z)) h1, h2, h3, h4, sqT_butL hp b h5, sqT_butL hp b h6, sqT_butL hp b h7⟩, k⟩
theorem Pool.lst {H : Hp} {p : Addr} {n : Int} (h : Pool H p n) : ∃ ys, H p = some (.lst ys) := by
  obtain ⟨g, m, c, h, _⟩ := h
  exact ⟨_, h⟩
theorem ext_but' {H H1 H2 : Hp} {p : Addr} (x : Ext H H1) (h : H p = none) (b : But H1 H2 p) : Ext H H2 := fun a u e => b a u (ne_of_none e h) (x a u e)
theorem cutV_takeA {xs : List V} {k : Nat} : cutV xs none (some ((k : Nat) : Int)) = xs.take k := by
  unfold cutV
  rw [HT.sIx_none, HT.sIx_nat, Nat.sub_zero, List.drop_zero]
  rcases Nat.le_total k xs.length with h | h
  · rw [Nat.min_eq_left h]
  · rw [Nat.min_eq_right h, List.take_of_length_le (Nat.le_refl _), List.take_of_length_le h]
/-! ### what is no fact -/
theorem no_kit {K : PySem.W.Frag} {H : Hp} {fo th : List Str} {x : V} {a : String} (h : TyX K H x (.type a)) (h1 : kitB a "list" = some false) (h2 : kitB a "tuple" = some false) : FactOf K H fo th x false := .inl ⟨rfl, _, h, kit_no h1 h2⟩
theorem no_len {K : PySem.W.Frag} {H : Hp} {fo th : List Str} {a : Addr} {xs : List V} (h : SeqAt2 K H a xs) (n : xs.length ≠ 3) : FactOf K H fo th (.ref a) false := .inr (.inl ⟨rfl, a, xs, rfl, h, n⟩)
theorem no_fact {K : PySem.W.Frag} {H : Hp} {fo th : List Str} {a : Addr} {w o p : V} (h : SeqAt2 K H a [w, o, p]) (h1 : Itm K H w) (h2 : Itm K H o) (h3 : Itm K H p) (e : factB fo th w o p = false) : FactOf K H fo th (.ref a) false := .inr (.inr ⟨a, w, o, p, rfl, h, h1, h2, h3, e.symm⟩)
theorem fb_w {fo th : List Str} {w o p : V} (h : inV w (wordsS.map V.str) = false) : factB fo th w o p = false := by
  unfold factB
  rw [h, Bool.false_and]
theorem fb_o {fo th : List Str} {w o p : V} (h : inV o ((fo ++ th).map V.str) = false) : factB fo th w o p = false := by
  unfold factB
  rw [h, Bool.false_and, Bool.and_false]
theorem fb_p {fo th : List Str} {w o p : V} (h : inV p ((fo ++ th).map V.str) = false) : factB fo th w o p = false := by
  unfold factB
  rw [h, Bool.false_and, Bool.and_false, Bool.and_false]
theorem fb_eq {fo th : List Str} {w o : V} : factB fo th w o o = false := by
  unfold factB
  rw [decide_eq_true (rfl : o = o)]
  simp
theorem fb_fo {fo th : List Str} {w o p : V} (hw : w ≠ .str "line") (h : inV p (fo.map V.str) = false) : factB fo th w o p = false := by
  unfold factB
  rw [h, decide_eq_false hw]
  simp
theorem inV_not {z : Str} {zs : List Str} (h : z ∉ zs) : inV (.str z) (zs.map V.str) = false := by
  rw [inV_str]
  exact decide_eq_false h
theorem inV_non (zs : List Str) : inV .non (zs.map V.str) = false := inV_no (fun _ => rfl) zs
/-- a fact under any L that tells what lies below what -/
def holdsG (L : Str → Str → Bool) (w a b : Str) : Bool := if w = "below" then L a b else if w = "not" then !L a b else L a b || L b a
def holdsGR (L : Str → Str → Bool) : List Str → Bool
  | [w, a, b] => holdsG L w a b
  | _ => true
theorem ag_allG {fo th : List Str} {L : Str → Str → Bool} {w a b : Str} (hL : ∀ x y, y ∉ fo → L x y = false) (nd : (fo ++ th).Nodup) (h : IsF fo th w a b) : (agF fo th w a b).all (holdsGR L) = !holdsG L w a b := by
  have hn : ∀ x y, holdsG L "not" x y = !L x y := fun x y => by
    unfold holdsG
    rw [if_neg (by decide), if_pos rfl]
  by_cases e1 : w = "below"
  · subst e1
    rw [agF_other (by decide)]
    show (holdsG L "not" a b && true) = !holdsG L "below" a b
    rw [hn, Bool.and_true]
    rfl
  by_cases e2 : w = "not"
  · subst e2
    rw [agF_other (by decide), hn, Bool.not_not]
    show (holdsG L "below" a b && true) = L a b
    rw [Bool.and_true]
    rfl
  obtain rfl : w = "line" := by
    have z := h.1
    unfold wordsS at z
    simp at z
    rcases z with z | z | z
    · exact absurd z e1
    · exact absurd z e2
    · exact z
  obtain ⟨c, e, ho, hh⟩ := ord_two nd h.2.1 h.2.2.1 h.2.2.2.1
  rw [agF_line ho]
  have one : ∀ x y : Str, ((([(x, y)] : List (Str × Str)).filter fun p => decide (p.2 ∈ fo)).map fun p => [("not" : Str), p.1, p.2]).all (holdsGR L) = !L x y := fun x y => by
    by_cases m : y ∈ fo
    · rw [List.filter_cons, if_pos (decide_eq_true m)]
      show (holdsG L "not" x y && true) = _
      rw [hn, Bool.and_true]
    · rw [List.filter_cons, if_neg (show ¬ decide ((x, y).2 ∈ fo) = true from fun z => m (of_decide_eq_true z)), hL x y m]
      rfl
  have two : ((([(c, e), (e, c)] : List (Str × Str)).filter fun p => decide (p.2 ∈ fo)).map fun p => [("not" : Str), p.1, p.2]).all (holdsGR L) = (!L c e && !L e c) := by
    rw [← one c e, ← one e c, ← List.all_append, ← List.map_append, ← List.filter_append]
    rfl
  rw [two]
  have hb : holdsG L "line" a b = (L a b || L b a) := by
    unfold holdsG
    rw [if_neg (by decide), if_neg (by decide)]
  rw [hb]
  rcases hh with ⟨rfl, rfl⟩ | ⟨rfl, rfl⟩
  · cases L c e <;> cases L e c <;> rfl
  · cases L c e <;> cases L e c <;> rfl
end My

namespace My
open PySem PySem.Spec PyProof.Rows L2
/-! ### trees as the law keeps them -/
def Keys (ns : List Str) (d : Dic) : Prop := ∀ z, z ∈ ns → (getD d z).isSome = true
theorem getD_set (d : Dic) (z y : Str) (v : V) : getD (setD d z v) y = if y = z then some v else getD d y := by
  rw [← val_kd, ← put_kd, valV_put, val_kd]
  by_cases e : y = z
  · subst e
    rw [if_pos rfl, if_pos rfl]
  · rw [if_neg e, if_neg fun h => e (by injection h)]
theorem Keys.set {ns : List Str} {d : Dic} {z : Str} {v : V} (h : Keys ns d) : Keys (ns ++ [z]) (setD d z v) := fun y hy => by
  rw [getD_set]
  by_cases e : y = z
  · rw [if_pos e]; rfl
  · rw [if_neg e]
    rcases List.mem_append.mp hy with hy | hy
    · exact h y hy
    · exact absurd (List.mem_singleton.mp hy) e
def grN (d : Dic) (node : Str) : Nat → V → V
  | 0, h => h
  | n + 1, h => grN d node n (if h = .non ∨ h = .str node then h else stepV d h)
/-- whether a node would lie in itself -/
def grB (d : Dic) (node f : Str) : Bool := decide (grN d node (d.length + 1) (.str f) = .str node)
def abN (d : Dic) : Nat → V → List Str
  | 0, _ => []
  | n + 1, .str z => z :: abN d n ((getD d z).getD .non)
  | _ + 1, _ => []
/-- the folders above a node -/
def abv (d : Dic) (a : Str) : List Str := abN d d.length ((getD d a).getD .non)
theorem abN_fo {fo : List Str} {d : Dic} (h : DicOk fo d) : ∀ n v, Opt fo v → ∀ z, z ∈ abN d n v → z ∈ fo
  | 0, _, _, z, hz => by cases hz
  | n + 1, v, hv, z, hz => by
    rcases hv with rfl | ⟨y, hy, rfl⟩
    · cases hz
    · rcases List.mem_cons.mp hz with rfl | hz
      · exact hy
      · exact abN_fo h n _ (getD_opt h y) z hz
theorem abN_len (d : Dic) : ∀ n v, (abN d n v).length ≤ n
  | 0, _ => Nat.le_refl _
  | n + 1, v => by
    cases v with
    | str z => exact Nat.succ_le_succ (abN_len d n _)
    | _ => exact Nat.zero_le _
def liesA (d : Dic) (x y : Str) : Bool := decide (y ∈ abv d x)
theorem liesA_no {fo : List Str} {d : Dic} (h : DicOk fo d) (x y : Str) (hy : y ∉ fo) : liesA d x y = false := decide_eq_false fun m => hy (abN_fo h _ _ (getD_opt h x) y m)
/-- a tree of the nodes ns -/
structure Ups (fo ns : List Str) (d : Dic) : Prop where
  ok : DicOk fo d
  keys : Keys ns d
  len : d.length ≤ ns.length
  sub : ∀ z, z ∈ fo → z ∈ ns
def spGoes (K : PySem.W.Frag) : Sp := fun vs H Q _ => ∃ (p : Addr) (d : Dic) (fo : List Str) (node f : Str), vs = [.ref p, .str node, .str f] ∧ H p = some (.dK (kd d)) ∧ DicOk fo d ∧ f ∈ fo ∧ d.length ≤ 100 ∧ Q (.bl (grB d node f)) H
def spAbove (K : PySem.W.Frag) : Sp := fun vs H Q _ => ∃ (p : Addr) (d : Dic) (fo ns : List Str) (node : Str), vs = [.ref p, .str node] ∧ H p = some (.dK (kd d)) ∧ Ups fo ns d ∧ ns.length ≤ 100 ∧ node ∈ ns ∧
  ∀ l H', Ext H H' → H l = none → H' l = some (.lst ((abv d node).map V.str)) → Q (.ref l) H'
def spHolds (K : PySem.W.Frag) : Sp := fun vs H Q _ => ∃ (p t : Addr) (d : Dic) (fo ns : List Str) (wd a f : Str), vs = [.ref p, .ref t] ∧ H p = some (.dK (kd d)) ∧ Ups fo ns d ∧ ns.length ≤ 100 ∧ wd ∈ wordsS ∧ a ∈ ns ∧ f ∈ ns ∧ SqT K H t [.str wd, .str a, .str f] ∧ ∀ H', Ext H H' → Q (.bl (holdsG (liesA d) wd a f)) H'
abbrev nm__law_goes_round : List Str := ["_law_ups", "_law_node", "_law_folder", "_law_here", "_law_turn"]
theorem sc__law_goes_round : FnScope nm__law_goes_round ["_law_ups", "_law_node", "_law_folder"] (defScope s__law_goes_round) := ⟨rfl, rfl, rfl, by decide +kernel, rfl, by decide +kernel, by decide +kernel⟩
abbrev nm__law_above : List Str := ["_law_ups", "_law_node", "_law_found", "_law_here", "_law_turn"]
theorem sc__law_above : FnScope nm__law_above ["_law_ups", "_law_node"] (defScope s__law_above) := ⟨rfl, rfl, rfl, by decide +kernel, rfl, by decide +kernel, by decide +kernel⟩
section
variable {P : Program} {w : World} {K : PySem.W.Frag} {mg : Str → Option Value} {base : Heap} {f C CB : Addr} {fd : FuncData}
theorem ok_goes (Fn : FnP K "_law_goes_round" s__law_goes_round f fd) (gB_range : mg "range" = none) (gB_len : mg "len" = none) : FnOk P w K mg base CX0 1 f fd ["_law_ups", "_law_node", "_law_folder"] (spGoes K) := by
  refine Fn.ok sc__law_goes_round (fun vs H Q E h => ?_) (fun cdv A outer s H vs Q E hr h => ⟨_, PSs.nox
    (pss_cons (ps_set (i := 3) sc__law_goes_round.nd rfl (Or.inl rfl) (pv 2))
      (pss_cons (ps_for PassesOwn.never rfl (pi_range1 (by rfl) gB_range (pa_cons (pe_op op_add (pe_callB call_lenD (by rfl) gB_len boot_len (pa_cons (pv 0) pa_nil)) pe_int) pa_nil)) (pg_name (i := 4) sc__law_goes_round.nd rfl (Or.inl rfl))
      (pss_one (ps_if (PW.pt (pw_and (pt_cmpR op_notN (pv 3) pe_non (nomark _)) (pw_and1 (pt_cmpR op_ne (pv 3) (pv 1) (nomark _))))) (pss_one (ps_set (i := 3) sc__law_goes_round.nd rfl (Or.inl rfl) (pe_dget1 (hu_of hr) (pv 0) (pv 3) ⟨rfl, rfl, rfl, rfl⟩))) pss_nil)))
      (pss_one (ps_ret (pe_cmpR op_eq (pv 3) (pv 1) (nomark _)))))), ?_⟩)
  · obtain ⟨p, d, fo, node, f, rfl, _⟩ := h
    rfl
  · obtain ⟨p, d, fo, node, fs, rfl, hp, ok, hf, len, q⟩ := h
    have e1 : (((kd d).length : Nat) : Int) + 1 = ((d.length + 1 : Nat) : Int) := by rw [kd_len]; omega
    refine ⟨_, rfl, _, rfl, p, kd d, rfl, hp, _, _, rfl, rfl, _, rfl, by omega, by rw [e1]; omega, ?_⟩
    rw [e1]
    refine for_range (lo := 0) (n := d.length + 1) (fun k σ H' => H' = H ∧ ∃ v h, σ = [some (.ref p), some (.str node), some (.str fs), some h, v] ∧ Opt fo h ∧ grN d node (d.length + 1 - k) h = grN d node (d.length + 1) (.str fs)) ?_ ?_ ?_
    · exact ⟨rfl, none, _, rfl, .inr ⟨fs, hf, rfl⟩, rfl⟩
    · rintro k σ H1 hk ⟨rfl, v, h, rfl, oh, e⟩
      have e9 : d.length + 1 - k = (d.length + 1 - (k + 1)) + 1 := by omega
      rw [e9] at e
      unfold grN at e
      refine ⟨_, rfl, rfl, _, rfl, ?_⟩
      rcases oh with rfl | ⟨z, hz, rfl⟩
      · rw [if_pos (.inl rfl)] at e
        exact ⟨rfl, _, _, rfl, .inl rfl, e⟩
      · refine ⟨_, rfl, _, rfl, rfl, _, rfl, ?_⟩
        refine ite2 (fun c => ?_) fun c => ?_
        · have c' : ¬ (V.str z = .non ∨ V.str z = .str node) := fun h => by
            rcases h with h | h
            · cases h
            · rw [h] at c
              simp at c
          rw [if_neg c'] at e
          refine ⟨_, rfl, p, rfl, .inl ⟨_, .inl hp⟩, _, rfl, _, DGet.k (k := Sum.inr z) hp, ?_⟩
          rw [val_kd]
          exact ⟨rfl, _, _, rfl, getD_opt ok z, e⟩
        · have c' : V.str z = .str node := by simpa using c
          rw [if_pos (.inr c')] at e
          exact ⟨rfl, _, _, rfl, .inr ⟨z, hz, rfl⟩, e⟩
    · rintro σ H1 ⟨rfl, v, h, rfl, oh, e⟩
      rw [Nat.sub_self] at e
      have e : h = grN d node (d.length + 1) (.str fs) := e
      unfold grB at q
      rw [← e] at q
      refine ⟨_, rfl, _, rfl, ?_, q⟩
      rcases oh with rfl | ⟨z, _, rfl⟩ <;> rfl
theorem ok_above (Fn : FnP K "_law_above" s__law_above f fd) (gB_range : mg "range" = none) (gB_len : mg "len" = none) : FnOk P w K mg base CX0 1 f fd ["_law_ups", "_law_node"] (spAbove K) := by
  refine Fn.ok sc__law_above (fun vs H Q E h => ?_) (fun cdv A outer s H vs Q E hr h => ⟨_, PSs.nox
    (pss_cons (ps_set (i := 2) sc__law_above.nd rfl (Or.inl rfl) (pe_lst pa_nil))
      (pss_cons (ps_set (i := 3) sc__law_above.nd rfl (Or.inl rfl) (pe_dget (hu_of hr) (pv 0) (pv 1) (fun _ _ => rfl)))
      (pss_cons (ps_for PassesOwn.never rfl (pi_range1 (by rfl) gB_range (pa_cons (pe_callB call_lenD (by rfl) gB_len boot_len (pa_cons (pv 0) pa_nil)) pa_nil)) (pg_name (i := 4) sc__law_above.nd rfl (Or.inl rfl))
      (pss_one (ps_if (pt_cmpR op_notN (pv 3) pe_non (nomark _)) (pss_cons (ps_expr (pe_bm PySem.F.plainAttrs_list PySem.F.slot_list_append PySem.F.type_list_append mt_append (pv 2) (pa_cons (pv 3) pa_nil)))
      (pss_one (ps_set (i := 3) sc__law_above.nd rfl (Or.inl rfl) (pe_dget (hu_of hr) (pv 0) (pv 3) (fun _ _ => rfl))))) pss_nil)))
      (pss_one (ps_ret (pv 2)))))), ?_⟩)
  · obtain ⟨p, d, fo, ns, node, rfl, _⟩ := h
    rfl
  · obtain ⟨p, d, fo, ns, node, rfl, hp, up, len, hn, q⟩ := h
    refine ⟨Nat.zero_le _, fun l hl => ?_⟩
    obtain ⟨H1, hH1⟩ : ∃ H1, H1 = upd H l (.lst []) := ⟨_, rfl⟩
    rw [← hH1]
    have x1 : Ext H H1 := by
      rw [hH1]
      exact Ext.upd hl
    have l1 : H1 l = some (.lst []) := by rw [hH1, upd_same]
    have hp1 := x1 _ _ hp
    have get : ∀ z, z ∈ ns → getD d z = some ((getD d z).getD .non) := fun z hz => by
      have := up.keys z hz
      cases e : getD d z with
      | none => rw [e] at this; cases this
      | some v => rfl
    have dl := up.len
    refine ⟨_, rfl, _, rfl, p, _, rfl, .inl ⟨kd d, Sum.inr node, .inl hp1, rfl, (by rw [val_kd]; exact (get node hn).symm)⟩, ?_⟩
    refine ⟨_, rfl, p, kd d, rfl, hp1, _, rfl, by omega, by rw [kd_len]; omega, ?_⟩
    have e1 : (((kd d).length : Nat) : Int).toNat = d.length := by rw [kd_len]; rfl
    rw [e1]
    refine for_range (lo := 0) (n := d.length) (fun k σ H' => Ext H H' ∧ ∃ acc v h, σ = [some (.ref p), some (.str node), some (.ref l), some h, v] ∧ Opt fo h ∧ H' l = some (.lst (acc.map V.str)) ∧ acc.length ≤ k ∧ acc ++ abN d (d.length - k) h = abv d node) ?_ ?_ ?_
    · exact ⟨x1, [], none, _, rfl, getD_opt up.ok node, l1, Nat.zero_le _, rfl⟩
    · rintro k σ H2 hk ⟨x2, acc, v, h, rfl, oh, l2, len2, e⟩
      have e9 : d.length - k = (d.length - (k + 1)) + 1 := by omega
      rw [e9] at e
      refine ⟨_, rfl, rfl, _, rfl, ?_⟩
      rcases oh with rfl | ⟨z, hz, rfl⟩
      · refine ⟨x2, acc, _, _, rfl, .inl rfl, l2, by omega, ?_⟩
        have : ∀ n, abN d n .non = [] := fun n => by cases n <;> rfl
        rw [this] at e ⊢
        exact e
      · refine ⟨_, rfl, .inl ⟨rfl, _, .inl (.inl l2)⟩, _, rfl, l, _, _, rfl, rfl, l2, by rw [List.length_map, sizeLine_eq]; omega, ?_⟩
        have x3 := x2.over (o := .lst (acc.map V.str ++ [.str z])) hl
        refine ⟨_, rfl, _, rfl, p, _, rfl, .inl ⟨kd d, Sum.inr z, .inl (x3 _ _ hp), rfl, (by rw [val_kd]; exact (get z (up.sub z hz)).symm)⟩, ?_⟩
        refine ⟨x3, acc ++ [z], _, _, rfl, getD_opt up.ok z, by rw [upd_same, List.map_append]; rfl, by rw [List.length_append]; exact Nat.succ_le_succ len2, ?_⟩
        rw [List.append_assoc]
        exact e
    · rintro σ H2 ⟨x2, acc, v, h, rfl, oh, l2, len2, e⟩
      rw [Nat.sub_self] at e
      have e : acc ++ [] = abv d node := e
      rw [List.append_nil] at e
      rw [e] at l2
      exact ⟨_, rfl, q l H2 x2 hl l2⟩
end
end My

namespace My
open PySem PySem.Spec PyProof.Rows L2
def TreesF (fo ns : List Str) (n : Nat) (H : Hp) (xs : List V) : Prop := ∀ x, x ∈ xs → ∃ a d, x = .ref a ∧ H a = some (.dK (kd d)) ∧ DicOk fo d ∧ Keys ns d ∧ d.length ≤ n
theorem TreesF.ext {fo ns : List Str} {n : Nat} {H H' : Hp} {xs : List V} (h : TreesF fo ns n H xs) (e : Ext H H') : TreesF fo ns n H' xs := fun x hx => by
  obtain ⟨a, d, h1, h2, h3⟩ := h x hx
  exact ⟨a, d, h1, e _ _ h2, h3⟩
theorem TreesF.updL {fo ns : List Str} {n : Nat} {H : Hp} {l : Addr} {ys : List V} {o : HO} {xs : List V} (h : TreesF fo ns n H xs) (hl : H l = some (.lst ys)) : TreesF fo ns n (L2.upd H l o) xs := fun x hx => by
  obtain ⟨a, d, h1, h2, h3⟩ := h x hx
  exact ⟨a, d, h1, by rw [upd_ne (ne_of h2 hl (fun z => nomatch z))]; exact h2, h3⟩
theorem TreesF.butL {fo ns : List Str} {n : Nat} {H H' : Hp} {p : Addr} {ys xs : List V} (hp : H p = some (.lst ys)) (b : But H H' p) (h : TreesF fo ns n H xs) : TreesF fo ns n H' xs := fun x hx => by
  obtain ⟨a, d, h1, h2, h3⟩ := h x hx
  exact ⟨a, d, h1, b _ _ (ne_of h2 hp (fun z => nomatch z)) h2, h3⟩
theorem TreesF.snoc {fo ns : List Str} {n : Nat} {H : Hp} {xs : List V} {a : Addr} {d : Dic} (h : TreesF fo ns n H xs) (ha : H a = some (.dK (kd d))) (ok : DicOk fo d) (ks : Keys ns d) (len : d.length ≤ n) : TreesF fo ns n H (xs ++ [.ref a]) := fun x hx => by
  rcases List.mem_append.mp hx with hx | hx
  · exact h x hx
  · rw [List.mem_singleton.mp hx]
    exact ⟨a, d, rfl, ha, ok, ks, len⟩
def spTrees (K : PySem.W.Frag) : Sp := fun vs H Q _ => ∃ lf lt fo th, vs = [.ref lf, .ref lt] ∧ H lf = some (.lst (fo.map V.str)) ∧ H lt = some (.lst (th.map V.str)) ∧ fo.length ≤ 3 ∧ (fo ++ th).length ≤ 6 ∧ ∀ l xs H', Ext H H' → H l = none → xs.length ≤ 4096 → H' l = some (.lst xs) → TreesF fo (fo ++ th) (fo ++ th).length H' xs → Q (.ref l) H'
def spKeep (K : PySem.W.Frag) : Sp := fun vs H Q _ => ∃ (p l : Addr) (d : Dic) (fo ns : List Str) (rows : List (List Str)), vs = [.ref p, .ref l] ∧ H p = some (.dK (kd d)) ∧ Ups fo ns d ∧ ns.length ≤ 100 ∧ RowsAt K H l rows ∧ (∀ r, r ∈ rows → ∃ w a b, r = [w, a, b] ∧ w ∈ wordsS ∧ a ∈ ns ∧ b ∈ ns) ∧ rows.length < 1000 ∧
  ∀ H', Ext H H' → Q (.bl (rows.all (holdsGR (liesA d)))) H'
abbrev nm__law_holds : List Str := ["_law_ups", "_law_fact", "_law_word", "_law_one", "_law_other"]
theorem sc__law_holds : FnScope nm__law_holds ["_law_ups", "_law_fact"] (defScope s__law_holds) := ⟨rfl, rfl, rfl, by decide +kernel, rfl, by decide +kernel, by decide +kernel⟩
abbrev nm__law_keep : List Str := ["_law_ups", "_law_rows", "_law_fact"]
theorem sc__law_keep : FnScope nm__law_keep ["_law_ups", "_law_rows"] (defScope s__law_keep) := ⟨rfl, rfl, rfl, by decide +kernel, rfl, by decide +kernel, by decide +kernel⟩
abbrev nm__law_trees : List Str := ["_law_folders", "_law_things", "_law_found", "_law_node", "_law_longer", "_law_ups", "_law_folder", "_law_more"]
theorem sc__law_trees : FnScope nm__law_trees ["_law_folders", "_law_things"] (defScope s__law_trees) := ⟨rfl, rfl, rfl, by decide +kernel, rfl, by decide +kernel, by decide +kernel⟩
section
variable {P : Program} {w : World} {K : PySem.W.Frag} {mg : Str → Option Value} {base : Heap} {f C CB : Addr} {fd : FuncData}
theorem ok_holds (Fn : FnP K "_law_holds" s__law_holds f fd) (h_law_above : Has P w K mg base 1 "_law_above" ["_law_ups", "_law_node"] (spAbove K)) : FnOk P w K mg base CX0 2 f fd ["_law_ups", "_law_fact"] (spHolds K) := by
  refine Fn.ok sc__law_holds (fun vs H Q E h => ?_) (fun cdv A outer s H vs Q E hr h => ⟨_, PSs.nox
    (pss_cons (ps_asg (pv 1) (pg_tup rfl (pgs_cons (pg_name (i := 2) sc__law_holds.nd rfl (Or.inl rfl)) (pgs_cons (pg_name (i := 3) sc__law_holds.nd rfl (Or.inl rfl)) (pgs_cons (pg_name (i := 4) sc__law_holds.nd rfl (Or.inl rfl)) pgs_nil)))))
      (pss_cons (ps_if (pt_cmpR op_eq (pv 2) pe_str (nomark _)) (pss_one (ps_ret (pe_or (pe_cmpR op_in_seq (pv 4) (pe_has h_law_above (hr.mono (by decide)) (pa_cons (pv 0) (pa_cons (pv 3) pa_nil))) (by rfl)) (pe_one (pe_cmpR op_in_seq (pv 3) (pe_has h_law_above (hr.mono (by decide)) (pa_cons (pv 0) (pa_cons (pv 4) pa_nil))) (by rfl)))))) pss_nil)
      (pss_one (ps_ret (pe_cmpR op_eq (pe_cmpR op_in_seq (pv 4) (pe_has h_law_above (hr.mono (by decide)) (pa_cons (pv 0) (pa_cons (pv 3) pa_nil))) (by rfl)) (pe_cmpR op_eq (pv 2) pe_str (nomark _)) (nomark _)))))), ?_⟩)
  · obtain ⟨p, t, d, fo, ns, wd, a, f, rfl, _⟩ := h
    rfl
  · obtain ⟨p, t, d, fo, ns, wd, a, fs, rfl, hp, up, len, hw, ha, hf, sq, q⟩ := h
    refine ⟨_, rfl, t, _, rfl, sq, rfl, _, _, rfl, _, _, rfl, _, _, rfl, rfl, ?_⟩
    unfold holdsG at q
    refine ⟨_, rfl, rfl, _, rfl, ?_⟩
    refine ite2 (fun e => ?_) fun e => ?_
    · have e' : wd = "line" := by
        have z := of_decide_eq_true e
        injection z
      subst e'
      rw [if_neg (by decide), if_neg (by decide)] at q
      refine ⟨_, rfl, _, rfl, _, rfl, p, d, fo, ns, a, rfl, hp, up, len, ha, fun l H1 x1 _ hl => ?_⟩
      refine ⟨l, _, rfl, .inl (SqL.of hl), rfl, flat_strs _, _, rfl, ?_⟩
      rw [if_neg Bool.false_ne_true, inV_str]
      refine ite2 (fun c => ?_) fun c => ?_
      · have z := q H1 x1
        rw [show liesA d a fs = true from c, Bool.true_or] at z
        exact z
      · have c' : liesA d a fs = false := decide_eq_false fun m => c (decide_eq_true m)
        rw [c'] at q
        refine ⟨_, rfl, _, rfl, _, rfl, p, d, fo, ns, fs, rfl, x1 _ _ hp, up, len, hf, fun l2 H2 x2 _ hl2 => ?_⟩
        refine ⟨l2, _, rfl, .inl (SqL.of hl2), rfl, flat_strs _, ?_⟩
        rw [if_neg Bool.false_ne_true, inV_str]
        exact q H2 (x1.trans x2)
    · have e' : wd ≠ "line" := fun z => e (decide_eq_true (by rw [z]))
      have hw' : wd = "below" ∨ wd = "not" := by
        unfold wordsS at hw
        simp at hw
        rcases hw with z | z | z
        · exact .inl z
        · exact .inr z
        · exact absurd z e'
      refine ⟨_, rfl, _, rfl, _, rfl, p, d, fo, ns, a, rfl, hp, up, len, ha, fun l H1 x1 _ hl => ?_⟩
      refine ⟨l, _, rfl, .inl (SqL.of hl), rfl, flat_strs _, ?_⟩
      rw [if_neg Bool.false_ne_true, inV_str]
      refine ⟨_, rfl, rfl, rfl, ?_⟩
      have z := q H1 x1
      rcases hw' with rfl | rfl
      · rw [if_pos rfl] at z
        have e2 : decide (V.bl (decide (fs ∈ abv d a)) = V.bl (decide (V.str "below" = V.str "below"))) = liesA d a fs := by
          show _ = decide (fs ∈ abv d a)
          by_cases m : fs ∈ abv d a
          · rw [decide_eq_true m]; rfl
          · rw [decide_eq_false m]; rfl
        rw [e2]
        exact z
      · rw [if_neg (by decide), if_pos rfl] at z
        have e2 : decide (V.bl (decide (fs ∈ abv d a)) = V.bl (decide (V.str "not" = V.str "below"))) = !liesA d a fs := by
          show _ = !decide (fs ∈ abv d a)
          by_cases m : fs ∈ abv d a
          · rw [decide_eq_true m]; rfl
          · rw [decide_eq_false m]; rfl
        rw [e2]
        exact z
theorem ok_keep (Fn : FnP K "_law_keep" s__law_keep f fd) (h_law_holds : Has P w K mg base 2 "_law_holds" ["_law_ups", "_law_fact"] (spHolds K)) (gB_all : mg "all" = none) : FnOk P w K mg base CX0 3 f fd ["_law_ups", "_law_rows"] (spKeep K) := by
  refine Fn.ok sc__law_keep (fun vs H Q E h => ?_) (fun cdv A outer s H vs Q E hr h => ⟨_, PSs.nox
    (pss_one (ps_ret (pe_callB (cr_all rfl) (by rfl) gB_all boot_all (pa_cons (pe_lc (own := [("_law_fact", 2)]) (g := (gName 2)) (tt := tYes) rfl sc__law_keep.nd (pi_list (pv 1)) (blkOk_by (N := nm__law_keep) (sc := defScope s__law_keep) (by decide +kernel)) (fun _ _ _ _ _ => (pg_name (i := 2) sc__law_keep.nd rfl (Or.inl rfl))) (fun _ _ _ _ _ => pts_nil) (fun _ _ _ _ _ => (pe_has h_law_holds (hr.mono (by decide)) (pa_cons (pv 0) (pa_cons (pv 2) pa_nil))))) pa_nil)))), ?_⟩)
  · obtain ⟨p, l, d, fo, ns, rows, rfl, _⟩ := h
    rfl
  · obtain ⟨p, l, d, fo, ns, rows, rfl, hp, up, nl, ⟨xs, hl, hr0⟩, th3, len, q⟩ := h
    have lx : xs.length = rows.length := hr0.len
    refine ⟨_, rfl, l, rfl, ⟨_, SqL.of hl⟩, fun D hD => ?_⟩
    refine lc_list (K := K) (a := l) (xs := xs) (fun i H' => Ext H H' ∧ H' D = some (.lst (((rows.take i).map (holdsGR (liesA d))).map V.bl))) ⟨Ext.upd hD, upd_same⟩ (fun i H' _ z => SqL.of (z.1 _ _ hl)) ?_ ?_
    · intro i v H1 hv ⟨x1, l1⟩
      obtain ⟨t, r, rfl, sq, hr⟩ := (hr0.ext x1).at_ hv
      obtain ⟨wd, a, b, rfl, hw, ha, hb⟩ := th3 r (List.mem_of_getElem? hr)
      have tk : rows.take (i + 1) = rows.take i ++ [[wd, a, b]] := by
        rw [List.take_add_one, hr]
        rfl
      have i1 : i < xs.length := (List.getElem?_eq_some_iff.mp hv).1
      refine ⟨rfl, ?_⟩
      refine lcYes ?_
      refine ⟨_, rfl, _, rfl, p, t, d, fo, ns, wd, a, b, rfl, x1 _ _ hp, up, nl, hw, ha, hb, sq, fun H2 x2 => ⟨_, x2 _ _ l1, ?_, ?_, ?_⟩⟩
      · rw [List.length_map, List.length_map, List.length_take, sizeLine_eq]; omega
      · exact (x1.trans x2).over hD
      · rw [upd_same, tk, List.map_append, List.map_append]
        rfl
    · intro H1 ⟨x1, l1⟩
      rw [lx, List.take_length] at l1
      refine ⟨D, rows.map (holdsGR (liesA d)), rfl, SqL.of l1, ?_⟩
      rw [List.all_map]
      exact q H1 x1
theorem ok_trees (Fn : FnP K "_law_trees" s__law_trees f fd) (h_law_goes_round : Has P w K mg base 1 "_law_goes_round" ["_law_ups", "_law_node", "_law_folder"] (spGoes K)) (gB_dict : mg "dict" = none) (gB_list : mg "list" = none) : FnOk P w K mg base CX0 2 f fd ["_law_folders", "_law_things"] (spTrees K) := by
  refine Fn.ok sc__law_trees (fun vs H Q E h => ?_) (fun cdv A outer s H vs Q E hr h => ⟨_, PSs.nox
    (pss_cons (ps_set (i := 2) sc__law_trees.nd rfl (Or.inl rfl) (pe_lst (pa_cons pe_dnewK pa_nil)))
      (pss_cons (ps_for PassesOwn.never rfl (pi_list (pe_op L2.op_cat (pv 0) (pv 1))) (pg_name (i := 3) sc__law_trees.nd rfl (Or.inl rfl))
      (pss_cons (ps_set (i := 4) sc__law_trees.nd rfl (Or.inl rfl) (pe_lst pa_nil))
      (pss_cons (ps_for PassesOwn.never rfl (pi_list (pv 2)) (pg_name (i := 5) sc__law_trees.nd rfl (Or.inl rfl))
      (pss_one (ps_for PassesOwn.never rfl (pi_list (pe_op L2.op_cat (pe_lst (pa_cons pe_non pa_nil)) (pv 0))) (pg_name (i := 6) sc__law_trees.nd rfl (Or.inl rfl))
      (pss_one (ps_if (PW.pt (pw_or (pt_cmpR op_isN (pv 6) pe_non (nomark _)) (pw_or1 (pt_not (pt_val (pe_has h_law_goes_round (hr.mono (by decide)) (pa_cons (pv 5) (pa_cons (pv 3) (pa_cons (pv 6) pa_nil))))))))) (pss_cons (ps_set (i := 7) sc__law_trees.nd rfl (Or.inl rfl) (pe_callTy call_dictD (by rfl) gB_dict (by decide +kernel) (pa_cons (pv 5) pa_nil)))
      (pss_cons (ps_dput (hu_of hr) (pv 7) (pv 3) (pv 6) rfl)
      (pss_one (ps_expr (pe_bm PySem.F.plainAttrs_list PySem.F.slot_list_append PySem.F.type_list_append mt_append (pv 4) (pa_cons (pv 7) pa_nil)))))) pss_nil)))))
      (pss_one (ps_set (i := 2) sc__law_trees.nd rfl (Or.inl rfl) (pe_callTy call_lstS (by rfl) gB_list (by decide +kernel) (pa_cons (pv 4) pa_nil)))))))
      (pss_one (ps_ret (pv 2))))), ?_⟩)
  · obtain ⟨lf, lt, fo, th, rfl, _⟩ := h
    rfl
  · obtain ⟨lf, lt, fo, th, rfl, hf, ht, f3, n6, q⟩ := h
    have lm : ∀ zs : List Str, (zs.map V.str).length = zs.length := fun zs => List.length_map _
    refine fun d0 hd0 => ⟨Nat.le_of_ble_eq_true rfl, fun l0 hl0 => ?_⟩
    have z0 := Ext.upd (o := .dK []) hd0
    have z1 := Ext.upd (o := .lst [.ref d0]) hl0
    have ln0' : H l0 = none := ext_none z0 hl0
    refine ⟨_, rfl, _, rfl, lf, lt, _, _, rfl, rfl, z1 _ _ (z0 _ _ hf), z1 _ _ (z0 _ _ ht), by rw [lm, lm, sizeLine_eq, ← List.length_append]; omega, fun ln hln => ?_⟩
    have z2 := Ext.upd (o := .lst (fo.map V.str ++ th.map V.str)) hln
    obtain ⟨H2, hH2⟩ : ∃ H2, H2 = upd (upd (upd H d0 (.dK [])) l0 (.lst [.ref d0])) ln (.lst (fo.map V.str ++ th.map V.str)) := ⟨_, rfl⟩
    rw [← hH2]
    have x2 : Ext H H2 := by
      rw [hH2]
      exact z0.trans (z1.trans z2)
    have n2 : H2 ln = some (.lst ((fo ++ th).map V.str)) := by rw [hH2, upd_same, List.map_append]
    have l2 : H2 l0 = some (.lst [.ref d0]) := by
      rw [hH2]
      exact z2 _ _ upd_same
    have t2 : TreesF fo [] 0 H2 [.ref d0] := fun x hx => by
      rw [List.mem_singleton.mp hx]
      refine ⟨d0, [], rfl, ?_, (fun p hp => by cases hp), (fun z hz => by cases hz), Nat.le_refl _⟩
      rw [hH2]
      exact z2 _ _ (z1 _ _ upd_same)
    have hf2 := x2 _ _ hf
    refine ⟨ln, rfl, ⟨_, SqL.of n2⟩, for_list (K := K) (a := ln) (xs := (fo ++ th).map V.str) (fun i σ H' => Ext H2 H' ∧ ∃ l xs v1 v2 v3 v4 v5, H l = none ∧ σ = [some (.ref lf), some (.ref lt), some (.ref l), v1, v2, v3, v4, v5] ∧ H' l = some (.lst xs) ∧ xs.length ≤ 4 ^ i ∧ TreesF fo ((fo ++ th).take i) i H' xs) ?_ ?_ ?_ ?_⟩
    · exact ⟨Ext.rfl', l0, _, none, none, none, none, none, ln0', rfl, l2, Nat.le_refl _, t2⟩
    · rintro i σ H' _ ⟨x', _⟩
      exact SqL.of (x' _ _ n2)
    · rintro i v σ H3 hv ⟨x3, l, xs, v1, v2, v3, v4, v5, ln0, rfl, l3, len3, t3⟩
      obtain ⟨nd, hnd, rfl⟩ := strs_at hv
      have i6 : i < 6 := by
        have := (List.getElem?_eq_some_iff.mp hnd).1
        omega
      have tk : (fo ++ th).take (i + 1) = (fo ++ th).take i ++ [nd] := by
        rw [List.take_add_one, hnd]
        rfl
      rw [tk]
      have p4 : 4 ^ i ≤ 4096 := Nat.le_trans (Nat.pow_le_pow_right (by decide) (by omega : i ≤ 6)) (by decide)
      refine ⟨Nat.zero_le _, fun lg hlg => ?_⟩
      obtain ⟨H4, hH4⟩ : ∃ H4, H4 = upd H3 lg (.lst []) := ⟨_, rfl⟩
      rw [← hH4]
      have x4 : Ext H3 H4 := by
        rw [hH4]
        exact Ext.upd hlg
      have g4 : H4 lg = some (.lst []) := by rw [hH4, upd_same]
      refine ⟨_, rfl, l, rfl, ⟨_, SqL.of (x4 _ _ l3)⟩, for_list (K := K) (a := l) (xs := xs) (fun j σ H' => Ext H3 H' ∧ ∃ acc v3 v4 v5, σ = [some (.ref lf), some (.ref lt), some (.ref l), some (.str nd), some (.ref lg), v3, v4, v5] ∧ H' lg = some (.lst acc) ∧ acc.length ≤ 4 * j ∧ TreesF fo ((fo ++ th).take i ++ [nd]) (i + 1) H' acc) ?_ ?_ ?_ ?_⟩
      · exact ⟨x4, [], v3, v4, v5, rfl, g4, Nat.zero_le _, fun x hx => by cases hx⟩
      · rintro j σ H' _ ⟨x', _⟩
        exact SqL.of (x' _ _ l3)
      · rintro j v σ H5 hv ⟨x5, acc, v3, v4, v5, rfl, g5, len5, t5⟩
        have jx : j < xs.length := (List.getElem?_eq_some_iff.mp hv).1
        obtain ⟨a, d, rfl, ha3, okd, kys, dlen⟩ := t3 v (List.mem_of_getElem? hv)
        have hf5 := x5 _ _ (x3 _ _ hf2)
        refine ⟨Nat.le_of_ble_eq_true rfl, fun m1 hm1 => ⟨_, rfl, m1, lf, _, _, rfl, rfl, upd_same, Ext.upd hm1 _ _ hf5, by rw [lm, sizeLine_eq]; show 1 + fo.length ≤ _; omega, fun m2 hm2 => ?_⟩⟩
        have y1 := Ext.upd (o := .lst [.non]) hm1
        have y2 := Ext.upd (o := .lst ([.non] ++ fo.map V.str)) hm2
        obtain ⟨H6, hH6⟩ : ∃ H6, H6 = upd (upd H5 m1 (.lst [.non])) m2 (.lst ([.non] ++ fo.map V.str)) := ⟨_, rfl⟩
        rw [← hH6]
        have x56 : Ext H5 H6 := by
          rw [hH6]
          exact y1.trans y2
        have m6 : H6 m2 = some (.lst ([.non] ++ fo.map V.str)) := by rw [hH6, upd_same]
        have x6 := x5.trans x56
        have nlm : m2 ≠ lg := fun e => ne_of_none (y1 _ _ g5) hm2 e.symm
        refine ⟨m2, rfl, ⟨_, SqL.of m6⟩, for_list (K := K) (a := m2) (xs := [.non] ++ fo.map V.str) (fun k σ H' => Ext H3 H' ∧ H' m2 = some (.lst ([.non] ++ fo.map V.str)) ∧ ∃ acc v4 v5, σ = [some (.ref lf), some (.ref lt), some (.ref l), some (.str nd), some (.ref lg), some (.ref a), v4, v5] ∧ H' lg = some (.lst acc) ∧ acc.length ≤ 4 * j + k ∧ TreesF fo ((fo ++ th).take i ++ [nd]) (i + 1) H' acc) ?_ ?_ ?_ ?_⟩
        · exact ⟨x6, m6, _, v4, v5, rfl, x56 _ _ g5, len5, t5.ext x56⟩
        · rintro k σ H' _ ⟨x', m', _⟩
          exact SqL.of m'
        · rintro k v σ H7 hv ⟨x7, m7, acc, v4, v5, rfl, g7, len7, t7⟩
          have kf : k < fo.length + 1 := by
            have := (List.getElem?_eq_some_iff.mp hv).1
            rw [List.length_append, lm] at this
            simp at this
            omega
          have ov : Opt fo v := by
            have := List.mem_of_getElem? hv
            rcases List.mem_append.mp this with h | h
            · exact .inl (List.mem_singleton.mp h)
            · obtain ⟨z, hz, rfl⟩ := List.mem_map.mp h
              exact .inr ⟨z, hz, rfl⟩
          have ha7 := x7 _ _ ha3
          -- a tree more
          have put : ∀ (R : L2.St → Hp → Prop), (∀ H' m', Ext H3 H' → H' m2 = some (.lst ([.non] ++ fo.map V.str)) → H' lg = some (.lst (acc ++ [.ref m'])) → TreesF fo ((fo ++ th).take i ++ [nd]) (i + 1) H' (acc ++ [.ref m']) → R [some (.ref lf), some (.ref lt), some (.ref l), some (.str nd), some (.ref lg), some (.ref a), some v, some (.ref m')] H') →
              ∀ m, H7 m = none → R [some (.ref lf), some (.ref lt), some (.ref l), some (.str nd), some (.ref lg), some (.ref a), some v, some (.ref m)] (upd (upd (upd H7 m (.dK (kd d))) m (.dK (kd (setD d nd v)))) lg (.lst (acc ++ [.ref m]))) := fun R r m hm => by
            have xm := Ext.upd (o := .dK (kd d)) hm
            have x8 : Ext H7 (upd (upd H7 m (.dK (kd d))) m (.dK (kd (setD d nd v)))) := xm.over hm
            refine r _ m ((x7.trans x8).over hlg) ?_ upd_same ?_
            · have hne : m2 ≠ lg := nlm
              rw [upd_ne hne]
              exact x8 _ _ m7
            · refine TreesF.updL (TreesF.snoc (t7.ext x8) upd_same (fun p hp => ?_) kys.set (Nat.le_trans (setD_len d nd v) (Nat.succ_le_succ dlen))) (x8 _ _ g7)
              rcases setD_mem hp with h | h
              · exact okd p h
              · rcases ov with h2 | ⟨z, hz, h2⟩
                · exact .inl (by rw [h, h2])
                · exact .inr ⟨z, hz, by rw [h, h2]⟩
          rcases ov with rfl | ⟨z, hz, rfl⟩
          · refine ⟨_, rfl, rfl, _, rfl, ?_⟩
            refine ⟨_, rfl, a, kd d, rfl, .inl ha7, fun m hm => ?_⟩
            refine ⟨_, rfl, _, rfl, _, rfl, m, _, rfl, DPut.k (k := Sum.inr nd) upd_same (by rw [kd_len, sizeLine_eq]; omega), ?_⟩
            rw [put_kd]
            have xm := Ext.upd (o := .dK (kd d)) hm
            have g8 : (upd (upd H7 m (.dK (kd d))) m (.dK (kd (setD d nd .non)))) lg = some (.lst acc) := (xm.over hm) _ _ g7
            refine ⟨_, rfl, .inl ⟨rfl, _, .inl (.inl g8)⟩, _, rfl, lg, _, _, rfl, rfl, g8, by rw [sizeLine_eq]; omega, ?_⟩
            refine put _ (fun H' m' x' m2' lg' t' => ⟨x', m2', _, _, _, rfl, lg', by rw [List.length_append]; exact Nat.succ_le_succ len7, t'⟩) m hm
          · refine ⟨_, rfl, rfl, _, rfl, ?_⟩
            refine ⟨_, rfl, _, rfl, _, rfl, a, d, fo, nd, z, rfl, ha7, okd, hz, by omega, _, rfl, ?_⟩
            refine ite2 (fun _ => ?_) fun _ => ⟨x7, m7, acc, _, _, rfl, g7, by omega, t7⟩
            refine ⟨_, rfl, a, kd d, rfl, .inl ha7, fun m hm => ?_⟩
            refine ⟨_, rfl, _, rfl, _, rfl, m, _, rfl, DPut.k (k := Sum.inr nd) upd_same (by rw [kd_len, sizeLine_eq]; omega), ?_⟩
            rw [put_kd]
            have xm := Ext.upd (o := .dK (kd d)) hm
            have g8 : (upd (upd H7 m (.dK (kd d))) m (.dK (kd (setD d nd (.str z))))) lg = some (.lst acc) := (xm.over hm) _ _ g7
            refine ⟨_, rfl, .inl ⟨rfl, _, .inl (.inl g8)⟩, _, rfl, lg, _, _, rfl, rfl, g8, by rw [sizeLine_eq]; omega, ?_⟩
            refine put _ (fun H' m' x' m2' lg' t' => ⟨x', m2', _, _, _, rfl, lg', by rw [List.length_append]; exact Nat.succ_le_succ len7, t'⟩) m hm
        · rintro σ H7 ⟨x7, m7, acc, v4, v5, rfl, g7, len7, t7⟩
          rw [List.length_append, lm] at len7
          exact ⟨x7, acc, _, v4, v5, rfl, g7, by simp at len7; omega, t7⟩
      · rintro σ H5 ⟨x5, acc, v3, v4, v5, rfl, g5, len5, t5⟩
        refine ⟨_, rfl, lg, _, rfl, .inl (SqL.of g5), fun l9 hl9 => ?_⟩
        refine ⟨(x3.trans x5).trans (Ext.upd hl9), l9, acc, _, _, v3, v4, v5, ext_none (x2.trans (x3.trans x5)) hl9, rfl, upd_same, ?_, t5.ext (Ext.upd hl9)⟩
        rw [Nat.pow_succ]
        omega
    · rintro σ H3 ⟨x3, l, xs, v1, v2, v3, v4, v5, ln0, rfl, l3, len3, t3⟩
      rw [lm] at t3
      rw [List.take_length] at t3
      rw [lm] at len3
      exact ⟨_, rfl, q l xs H3 (x2.trans x3) ln0 (Nat.le_trans len3 (Nat.le_trans (Nat.pow_le_pow_right (by decide) n6) (by decide))) l3 t3⟩
end
end My

namespace My
open PySem PySem.Spec PyProof.Rows L2
/-- facts, lines in the order of the house -/
def FactL (fo th : List Str) (rs : List (List Str)) : Prop := ∀ r, r ∈ rs → ∃ w a b, r = [w, a, b] ∧ IsF fo th w a b ∧ (w = "line" → ordS (fo ++ th) a b = [a, b])
theorem FactL.app {fo th : List Str} {rs ss : List (List Str)} (h : FactL fo th rs) (h2 : FactL fo th ss) : FactL fo th (rs ++ ss) := fun r hr => (List.mem_append.mp hr).elim (h r) (h2 r)
def spEvery (K : PySem.W.Frag) : Sp := fun vs H Q _ => ∃ lf lt fo th, vs = [.ref lf, .ref lt] ∧ H lf = some (.lst (fo.map V.str)) ∧ H lt = some (.lst (th.map V.str)) ∧ (fo ++ th).Nodup ∧ (fo ++ th).length ≤ 6 ∧ ∀ l rs H', Ext H H' → H l = none → rs.length ≤ 200 → RowsAt K H' l rs → FactL fo th rs → Q (.ref l) H'
def spDue (K : PySem.W.Frag) : Sp := fun vs H Q _ => ∃ lf x fo th w a b, vs = [.ref lf, .ref x] ∧ H lf = some (.lst (fo.map V.str)) ∧ IsF fo th w a b ∧ (w = "line" → ordS (fo ++ th) a b = [a, b]) ∧ SqT K H x [.str w, .str a, .str b] ∧ ∀ l H', Ext H H' → H l = none → RowsAt K H' l (agF fo th w a b) → Q (.ref l) H'
def spRefused (K : PySem.W.Frag) (C : Addr) : Sp := fun vs H Q _ => ∃ h x fo th, vs = [.ref h, x] ∧ Hou H K C h fo th ∧ (fo ++ th).Nodup ∧ (fo ++ th).length < sizeLine ∧ FactOf K H fo th x false ∧ ∀ H', Ext H H' → Q (.int 0) H'
abbrev nm__law_every : List Str := ["_law_folders", "_law_things", "_law_nodes", "_law_found", "_law_folder", "_law_node", "_law_j", "_law_x", "_law_i"]
theorem sc__law_every : FnScope nm__law_every ["_law_folders", "_law_things"] (defScope s__law_every) := ⟨rfl, rfl, rfl, by decide +kernel, rfl, by decide +kernel, by decide +kernel⟩
abbrev nm__law_due : List Str := ["_law_folders", "_law_fact", "_law_word", "_law_one", "_law_other", "_law_x", "_law_y"]
theorem sc__law_due : FnScope nm__law_due ["_law_folders", "_law_fact"] (defScope s__law_due) := ⟨rfl, rfl, rfl, by decide +kernel, rfl, by decide +kernel, by decide +kernel⟩
abbrev nm__law_refused : List Str := ["_law_house_here", "_law_thing", "e"]
theorem sc__law_refused : FnScope nm__law_refused ["_law_house_here", "_law_thing"] (defScope s__law_refused) := ⟨rfl, rfl, rfl, by decide +kernel, rfl, by decide +kernel, by decide +kernel⟩
section
variable {P : Program} {w : World} {K : PySem.W.Frag} {mg : Str → Option Value} {base : Heap} {f fA C CB CF : Addr} {fd fdA : FuncData}
theorem ok_every (Fn : FnP K "_law_every" s__law_every f fd) (gB_range : mg "range" = none) (gB_len : mg "len" = none) : FnOk P w K mg base CX0 1 f fd ["_law_folders", "_law_things"] (spEvery K) := by
  refine Fn.ok sc__law_every (fun vs H Q E h => ?_) (fun cdv A outer s H vs Q E hr h => ⟨_, PSs.nox
    (pss_cons (ps_asg (pe_tup (pa_cons (pe_op L2.op_cat (pv 0) (pv 1)) (pa_cons (pe_lst pa_nil) pa_nil))) (pg_tup rfl (pgs_cons (pg_name (i := 2) sc__law_every.nd rfl (Or.inr rfl)) (pgs_cons (pg_name (i := 3) sc__law_every.nd rfl (Or.inl rfl)) pgs_nil))))
      (pss_cons (ps_for PassesOwn.never rfl (pi_list (pv 0)) (pg_name (i := 4) sc__law_every.nd rfl (Or.inr rfl))
      (pss_one (ps_for PassesOwn.never rfl (pi_list (pe_lc (own := [("_law_x", 7)]) (g := (gName 7)) rfl sc__law_every.nd (pi_list (pv 2)) (blkOk_by (N := nm__law_every) (sc := defScope s__law_every) (by decide +kernel)) (fun _ _ _ _ _ => (pg_name (i := 7) sc__law_every.nd rfl (Or.inl rfl))) (fun _ _ _ _ _ => pts_one (pt_cmpR op_ne (pv 7) (pv 4) (nomark _))) (fun _ _ _ _ _ => (pv 7)))) (pg_name (i := 5) sc__law_every.nd rfl (Or.inl rfl))
      (pss_one (ps_expr (pe_bm PySem.F.plainAttrs_list PySem.F.slot_list_extend PySem.F.type_list_extend mt_extend (pv 3) (pa_cons (pe_lst (pa_cons (pe_tup (pa_cons pe_str (pa_cons (pv 5) (pa_cons (pv 4) pa_nil)))) (pa_cons (pe_tup (pa_cons pe_str (pa_cons (pv 5) (pa_cons (pv 4) pa_nil)))) pa_nil))) pa_nil)))))))
      (pss_cons (ps_for PassesOwn.never rfl (pi_range1 (by rfl) gB_range (pa_cons (pe_callB call_len (by rfl) gB_len boot_len (pa_cons (pv 2) pa_nil)) pa_nil)) (pg_name (i := 6) sc__law_every.nd rfl (Or.inr rfl))
      (pss_one (ps_expr (pe_bm PySem.F.plainAttrs_list PySem.F.slot_list_extend PySem.F.type_list_extend mt_extend (pv 3) (pa_cons (pe_lc (own := [("_law_i", 8)]) (g := (gName 8)) (tt := tYes) rfl sc__law_every.nd (pi_range1 (by rfl) gB_range (pa_cons (pv 6) pa_nil)) (blkOk_by (N := nm__law_every) (sc := defScope s__law_every) (by decide +kernel)) (fun _ _ _ _ _ => (pg_name (i := 8) sc__law_every.nd rfl (Or.inl rfl))) (fun _ _ _ _ _ => pts_nil) (fun _ _ _ _ _ => (pe_tup (pa_cons pe_str (pa_cons (pe_ix (ixK (r := rIxL) (K := K) rfl ix_list) (pv 2) (pv 8) (fun _ _ => rfl)) (pa_cons (pe_ix (ixK (r := rIxL) (K := K) rfl ix_list) (pv 2) (pv 6) (fun _ _ => rfl)) pa_nil)))))) pa_nil)))))
      (pss_one (ps_ret (pv 3)))))), ?_⟩)
  · obtain ⟨lf, lt, fo, th, rfl, _⟩ := h
    rfl
  · obtain ⟨lf, lt, fo, th, rfl, hf, ht, nd, n6, q⟩ := h
    have lm : ∀ zs : List Str, (zs.map V.str).length = zs.length := fun zs => List.length_map _
    refine ⟨_, rfl, _, rfl, lf, lt, _, _, rfl, rfl, hf, ht, by rw [lm, lm, sizeLine_eq, ← List.length_append]; omega, fun ln hln => ⟨Nat.zero_le _, fun l hl => ⟨Nat.le_of_ble_eq_true rfl, fun tt htt => ⟨tt, _, rfl, SqT.of upd_same, rfl, _, _, rfl, _, _, rfl, rfl, ?_⟩⟩⟩⟩
    have z1 := Ext.upd (o := .lst (fo.map V.str ++ th.map V.str)) hln
    have z2 := Ext.upd (o := .lst []) hl
    have l0 : H l = none := ext_none z1 hl
    have z3 := Ext.upd (o := .tup [.ref ln, .ref l]) htt
    obtain ⟨H2, hH2⟩ : ∃ H2, H2 = upd (upd (upd H ln (.lst (fo.map V.str ++ th.map V.str))) l (.lst [])) tt (.tup [.ref ln, .ref l]) := ⟨_, rfl⟩
    rw [← hH2]
    have x2 : Ext H H2 := by
      rw [hH2]
      exact z1.trans (z2.trans z3)
    have n2 : H2 ln = some (.lst ((fo ++ th).map V.str)) := by
      rw [hH2, List.map_append]
      exact z3 _ _ (z2 _ _ upd_same)
    have l2 : H2 l = some (.lst []) := by
      rw [hH2]
      exact z3 _ _ upd_same
    have nln : ln ≠ l := ne_of_none upd_same hl
    have Xn : Ext H (upd H ln (.lst (fo.map V.str ++ th.map V.str))) := z1
    obtain ⟨H1, hH1⟩ : ∃ H1, H1 = upd H ln (.lst (fo.map V.str ++ th.map V.str)) := ⟨_, rfl⟩
    rw [← hH1] at Xn hl
    have n1 : H1 ln = some (.lst ((fo ++ th).map V.str)) := by rw [hH1, upd_same, List.map_append]
    have x12 : Ext H1 H2 := by
      rw [hH1, hH2]
      exact z2.trans z3
    have f1 := Xn _ _ hf
    refine ⟨_, rfl, lf, rfl, ⟨_, SqL.of (x2 _ _ hf)⟩, for_list (K := K) (a := lf) (xs := fo.map V.str) (fun i σ H' => Ext H1 H' ∧ ∃ acc rs v4 v5 v6, σ = [some (.ref lf), some (.ref lt), some (.ref ln), some (.ref l), v4, v5, v6, none, none] ∧ H' l = some (.lst acc) ∧ acc.length ≤ 12 * i ∧ Rows K H' acc rs ∧ FactL fo th rs) ?_ ?_ ?_ ?_⟩
    · exact ⟨x12, [], [], none, none, none, rfl, l2, Nat.zero_le _, True.intro, fun r hr => by cases hr⟩
    · rintro i σ H' _ ⟨x', _⟩
      exact SqL.of (x' _ _ f1)
    · rintro i v σ H3 hv ⟨x3, acc, rs, v4, v5, v6, rfl, l3, len3, r3, g3⟩
      obtain ⟨fz, hfz, rfl⟩ := strs_at hv
      have mf : fz ∈ fo := List.mem_of_getElem? hfz
      have i6 : i < 6 := by
        have := (List.getElem?_eq_some_iff.mp hfz).1
        rw [List.length_append] at n6
        omega
      have n3 := x3 _ _ n1
      refine ⟨_, rfl, ln, rfl, ⟨_, SqL.of n3⟩, fun D hD => ?_⟩
      refine lc_list (K := K) (a := ln) (xs := (fo ++ th).map V.str) (fun k H' => Ext H3 H' ∧ H' D = some (.lst ((((fo ++ th).take k).filter fun z => !decide (z = fz)).map V.str))) ⟨Ext.upd hD, upd_same⟩ (fun k H' _ z => SqL.of (z.1 _ _ n3)) ?_ ?_
      · intro k v H4 hv ⟨x4, d4⟩
        obtain ⟨z, hz, rfl⟩ := strs_at hv
        have tk : (fo ++ th).take (k + 1) = (fo ++ th).take k ++ [z] := by
          rw [List.take_add_one, hz]
          rfl
        have k6 : k < 6 := by
          have := (List.getElem?_eq_some_iff.mp hz).1
          omega
        rw [tk]
        refine ⟨rfl, _, rfl, _, rfl, rfl, _, rfl, ?_⟩
        have ee : decide (V.str z = V.str fz) = decide (z = fz) := by
          by_cases e : z = fz
          · rw [e, decide_eq_true rfl, decide_eq_true rfl]
          · rw [decide_eq_false e, decide_eq_false fun h => e (by injection h)]
        refine ite2 (fun c => ?_) fun c => ?_
        · rw [ee] at c
          refine ⟨_, rfl, _, d4, ?_, x4.over hD, ?_⟩
          · rw [List.length_map]
            refine Nat.lt_of_le_of_lt (List.length_filter_le _ _) ?_
            rw [List.length_take, sizeLine_eq]
            omega
          · rw [upd_same, List.filter_append, List.filter_cons, if_pos c, List.map_append]
            rfl
        · rw [ee] at c
          refine ⟨x4, ?_⟩
          rw [d4, List.filter_append, List.filter_cons, if_neg c, List.filter_nil, List.append_nil]
      · intro H4 ⟨x4, d4⟩
        rw [lm, List.take_length] at d4
        obtain ⟨rest, hrest⟩ : ∃ rest, rest = (fo ++ th).filter fun z => !decide (z = fz) := ⟨_, rfl⟩
        rw [← hrest] at d4
        have rlen : rest.length ≤ 6 := by
          rw [hrest]
          exact Nat.le_trans (List.length_filter_le _ _) n6
        have rmem : ∀ z, z ∈ rest → z ∈ fo ++ th ∧ z ≠ fz := fun z hz => by
          rw [hrest] at hz
          obtain ⟨h1, h2⟩ := List.mem_filter.mp hz
          exact ⟨h1, fun e => by simp [e] at h2⟩
        have nDl : D ≠ l := fun e => ne_of_none l3 hD e.symm
        have l4 := x4 _ _ l3
        refine ⟨D, rfl, ⟨_, SqL.of d4⟩, for_list (K := K) (a := D) (xs := rest.map V.str) (fun j σ H' => Ext H1 H' ∧ H' D = some (.lst (rest.map V.str)) ∧ ∃ acc rs v5 v6, σ = [some (.ref lf), some (.ref lt), some (.ref ln), some (.ref l), some (.str fz), v5, v6, none, none] ∧ H' l = some (.lst acc) ∧ acc.length ≤ 12 * i + 2 * j ∧ Rows K H' acc rs ∧ FactL fo th rs) ?_ ?_ ?_ ?_⟩
        · exact ⟨x3.trans x4, d4, acc, rs, v5, v6, rfl, l4, len3, r3.ext x4, g3⟩
        · rintro j σ H' _ ⟨x', d', _⟩
          exact SqL.of d'
        · rintro j v σ H5 hv ⟨x5, d5, acc, rs, v5, v6, rfl, l5, len5, r5, g5⟩
          obtain ⟨z, hz, rfl⟩ := strs_at hv
          obtain ⟨mz, nz⟩ := rmem z (List.mem_of_getElem? hz)
          have j6 : j < 6 := by
            have := (List.getElem?_eq_some_iff.mp hz).1
            omega
          refine ⟨_, rfl, .inl ⟨rfl, _, .inl (.inl l5)⟩, _, rfl, _, rfl, Nat.le_of_ble_eq_true rfl, fun t1 ht1 => ⟨_, rfl, _, rfl, Nat.le_of_ble_eq_true rfl, fun t2 ht2 => ⟨Nat.le_of_ble_eq_true rfl, fun t3 ht3 => ?_⟩⟩⟩
          have y1 := Ext.upd (o := .tup [.str "below", .str z, .str fz]) ht1
          have y2 := Ext.upd (o := .tup [.str "not", .str z, .str fz]) ht2
          have y3 := Ext.upd (o := .lst [.ref t1, .ref t2]) ht3
          have y := y1.trans (y2.trans y3)
          refine ⟨l, t3, _, _, rfl, rfl, y _ _ l5, upd_same, by rw [sizeLine_eq]; show acc.length + 2 ≤ _; omega, ?_⟩
          refine ⟨(x5.trans y).over hl, ?_, acc ++ [.ref t1, .ref t2], rs ++ [[("below" : Str), z, fz], [("not" : Str), z, fz]], _, _, rfl, upd_same, by rw [List.length_append]; show acc.length + 2 ≤ _; omega, Rows.upd (y _ _ l5) (Rows.app (r5.ext y) ⟨⟨t1, rfl, (SqT.of upd_same).ext (y2.trans y3)⟩, ⟨t2, rfl, (SqT.of upd_same).ext y3⟩, True.intro⟩), g5.app fun r hr => ?_⟩
          · rw [upd_ne nDl]
            exact y _ _ d5
          · have mfn : fz ∈ fo ++ th := List.mem_append_left _ mf
            simp only [List.mem_cons, List.not_mem_nil, or_false] at hr
            rcases hr with rfl | rfl
            · exact ⟨_, _, _, rfl, ⟨by decide, mz, mfn, nz, .inr mf⟩, fun h => by cases h⟩
            · exact ⟨_, _, _, rfl, ⟨by decide, mz, mfn, nz, .inr mf⟩, fun h => by cases h⟩
        · rintro σ H5 ⟨x5, d5, acc, rs, v5, v6, rfl, l5, len5, r5, g5⟩
          rw [lm] at len5
          exact ⟨x5, acc, rs, _, v5, v6, rfl, l5, by omega, r5, g5⟩
    · rintro σ H3 ⟨x3, acc, rs, v4, v5, v6, rfl, l3, len3, r3, g3⟩
      rw [lm] at len3
      have f6 : fo.length ≤ 6 := by
        rw [List.length_append] at n6
        omega
      have n3 := x3 _ _ n1
      have e1 : ((((fo ++ th).map V.str).length : Nat) : Int) = ((fo ++ th).length : Int) := by rw [lm]
      refine ⟨_, rfl, _, _, rfl, .inl ⟨_, SqL.of n3, rfl⟩, _, rfl, by omega, by rw [e1]; omega, ?_⟩
      have e2 : ((((fo ++ th).map V.str).length : Nat) : Int).toNat = (fo ++ th).length := by rw [lm]; rfl
      rw [e2]
      refine for_range (lo := 0) (n := (fo ++ th).length) (fun j σ H' => Ext H1 H' ∧ ∃ acc rs v4 v5 v6, σ = [some (.ref lf), some (.ref lt), some (.ref ln), some (.ref l), v4, v5, v6, none, none] ∧ H' l = some (.lst acc) ∧ acc.length ≤ 72 + 6 * j ∧ Rows K H' acc rs ∧ FactL fo th rs) ?_ ?_ ?_
      · exact ⟨x3, acc, rs, v4, v5, v6, rfl, l3, by omega, r3, g3⟩
      · rintro j σ H4 hj ⟨x4, acc, rs, v4, v5, v6, rfl, l4, len4, r4, g4⟩
        obtain ⟨zj, hzj⟩ : ∃ zj, (fo ++ th)[j]? = some zj := ⟨_, List.getElem?_eq_getElem hj⟩
        have n4 := x4 _ _ n1
        have e3 : ((0 : Int) + (j : Int)).toNat = j := by omega
        refine ⟨_, rfl, .inl ⟨rfl, _, .inl (.inl l4)⟩, _, rfl, _, rfl, by omega, by omega, fun D hD => ?_⟩
        rw [e3]
        refine lc_range (lo := 0) (n := j) (fun k H' => Ext H4 H' ∧ ∃ acc rs, H' D = some (.lst acc) ∧ acc.length ≤ k ∧ Rows K H' acc rs ∧ FactL fo th rs) ⟨Ext.upd hD, [], [], upd_same, Nat.zero_le _, True.intro, fun r hr => by cases hr⟩ ?_ ?_
        · rintro k H5 hk ⟨x5, acc5, rs5, d5, len5, r5, g5⟩
          have n5 := x5 _ _ n4
          have hk' : k < (fo ++ th).length := by omega
          obtain ⟨zk, hzk⟩ : ∃ zk, (fo ++ th)[k]? = some zk := ⟨_, List.getElem?_eq_getElem hk'⟩
          refine ⟨rfl, ?_⟩
          refine lcYes ?_
          refine ⟨_, rfl, _, rfl, ln, _, _, .str zk, rfl, rfl, SqL.of n5, by rw [Int.zero_add]; exact atI_nat (by rw [List.getElem?_map, hzk]; rfl), _, rfl, _, rfl, ln, _, _, .str zj, rfl, rfl, SqL.of n5, by rw [Int.zero_add]; exact atI_nat (by rw [List.getElem?_map, hzj]; rfl), Nat.le_of_ble_eq_true rfl, fun T hT => ?_⟩
          refine ⟨acc5, Ext.upd hT _ _ d5, by rw [sizeLine_eq]; omega, (x5.upd' hT).over hD, _, rs5 ++ [[("line" : Str), zk, zj]], upd_same, by rw [List.length_append]; exact Nat.succ_le_succ len5, Rows.app (Rows.upd (Ext.upd hT _ _ d5) (r5.ext (Ext.upd hT))) ⟨⟨T, rfl, sqT_upd (SqT.of upd_same) (Ext.upd hT _ _ d5)⟩, True.intro⟩, g5.app fun r hr => ?_⟩
          rw [List.mem_singleton.mp hr]
          refine ⟨_, _, _, rfl, ⟨by decide, List.mem_of_getElem? hzk, List.mem_of_getElem? hzj, fun e => ?_, .inl rfl⟩, fun _ => ord_lt nd hzk hzj hk⟩
          subst e
          obtain ⟨h1, e1⟩ := List.getElem?_eq_some_iff.mp hzk
          obtain ⟨h2, e2⟩ := List.getElem?_eq_some_iff.mp hzj
          have := (List.getElem_inj nd).mp (e1.trans e2.symm)
          omega
        · intro H5 ⟨x5, acc5, rs5, d5, len5, r5, g5⟩
          have l5 := x5 _ _ l4
          refine ⟨l, D, _, _, rfl, rfl, l5, d5, by rw [sizeLine_eq]; omega, ?_⟩
          exact ⟨(x4.trans x5).over hl, _, _, _, _, _, rfl, upd_same, by rw [List.length_append]; omega, Rows.upd l5 (Rows.app (r4.ext x5) r5), g4.app g5⟩
      · rintro σ H4 ⟨x4, acc, rs, v4, v5, v6, rfl, l4, len4, r4, g4⟩
        exact ⟨_, rfl, q l rs H4 (Xn.trans x4) l0 (by rw [← r4.len]; omega) ⟨acc, l4, r4⟩ g4⟩
theorem ok_due (Fn : FnP K "_law_due" s__law_due f fd) : FnOk P w K mg base CX0 1 f fd ["_law_folders", "_law_fact"] (spDue K) := by
  refine Fn.ok sc__law_due (fun vs H Q E h => ?_) (fun cdv A outer s H vs Q E hr h => ⟨_, PSs.nox
    (pss_cons (ps_asg (pv 1) (pg_tup rfl (pgs_cons (pg_name (i := 2) sc__law_due.nd rfl (Or.inl rfl)) (pgs_cons (pg_name (i := 3) sc__law_due.nd rfl (Or.inl rfl)) (pgs_cons (pg_name (i := 4) sc__law_due.nd rfl (Or.inl rfl)) pgs_nil)))))
      (pss_cons (ps_if (pt_cmpR op_ne (pv 2) pe_str (nomark _)) (pss_one (ps_ret (pe_lst (pa_cons (pe_tup (pa_cons (pe_dget (hu_of hr) (pe_disp (pps_cons pe_str pe_str (pps_cons pe_str pe_str pps_nil)) (by rfl) (by rfl) (fun z => by cases z) (by decide)) (pv 2) (fun _ _ => rfl)) (pa_cons (pv 3) (pa_cons (pv 4) pa_nil)))) pa_nil)))) pss_nil)
      (pss_one (ps_ret (pe_lc (own := [("_law_x", 5), ("_law_y", 6)]) (g := (gTup K 2 (gCons (gName 5) (gCons (gName 6) gNil)))) rfl sc__law_due.nd (pi_list (pe_lst (pa_cons (pe_tup (pa_cons (pv 3) (pa_cons (pv 4) pa_nil))) (pa_cons (pe_tup (pa_cons (pv 4) (pa_cons (pv 3) pa_nil))) pa_nil)))) (blkOk_by (N := nm__law_due) (sc := defScope s__law_due) (by decide +kernel)) (fun _ _ _ _ _ => (pg_tup rfl (pgs_cons (pg_name (i := 5) sc__law_due.nd rfl (Or.inl rfl)) (pgs_cons (pg_name (i := 6) sc__law_due.nd rfl (Or.inl rfl)) pgs_nil)))) (fun _ _ _ _ _ => pts_one (pt_cmpR (opK (r := fun K => rIn K false) (K := K) rfl op_in_seq) (pv 6) (pv 0) (by rfl))) (fun _ _ _ _ _ => (pe_tup (pa_cons pe_str (pa_cons (pv 5) (pa_cons (pv 6) pa_nil)))))))))), ?_⟩)
  · obtain ⟨lf, x, fo, th, w, a, b, rfl, _⟩ := h
    rfl
  · obtain ⟨lf, x, fo, th, wd, a, b, rfl, hf, isf, ho, sx, q⟩ := h
    refine ⟨_, rfl, x, _, rfl, sx, rfl, _, _, rfl, _, _, rfl, _, _, rfl, rfl, ?_⟩
    refine ⟨_, rfl, rfl, _, rfl, ?_⟩
    refine ite2 (fun e => ?_) fun e => ?_
    · have e' : wd ≠ "line" := fun z => by
        subst z
        exact absurd e (by decide)
      have hw : wd = "below" ∨ wd = "not" := by
        have z := isf.1
        unfold wordsS at z
        simp at z
        rcases z with z | z | z
        · exact .inl z
        · exact .inr z
        · exact absurd z e'
      rw [agF_other e'] at q
      refine fun dp hdp => ⟨upd_same, [(.inr "below", .str "not"), (.inr "not", .str "below")], rfl, Nat.le_of_ble_eq_true rfl, ?_⟩
      obtain ⟨H1, hH1⟩ : ∃ H1, H1 = upd (upd H dp (.dK [])) dp (.dK (mergeK [] [(.inr "below", .str "not"), (.inr "not", .str "below")])) := ⟨_, rfl⟩
      have x1 : Ext H H1 := by
        rw [hH1]
        exact (Ext.upd hdp).over hdp
      have d1 : H1 dp = some (.dK (mergeK [] [(.inr "below", .str "not"), (.inr "not", .str "below")])) := by rw [hH1, upd_same]
      rw [← hH1]
      have fin : ∀ nw : Str, (∀ l H', Ext H H' → H l = none → RowsAt K H' l [[nw, a, b]] → Q (.ref l) H') → ∀ p, H1 p = none → ∀ l, upd H1 p (.tup [.str nw, .str a, .str b]) l = none → Q (.ref l) (upd (upd H1 p (.tup [.str nw, .str a, .str b])) l (.lst [.ref p])) := fun nw q p hp l hl => by
        have xp := Ext.upd (o := .tup [.str nw, .str a, .str b]) hp
        have xl := Ext.upd (o := .lst [.ref p]) hl
        exact q l _ (x1.trans (xp.trans xl)) (ext_none (x1.trans xp) hl) ⟨_, upd_same, ⟨p, rfl, (SqT.of (K := K) (xs := [.str nw, .str a, .str b]) (by rw [upd_same])).ext xl⟩, True.intro⟩
      rcases hw with rfl | rfl
      · exact ⟨_, rfl, dp, .str "not", rfl, DGet.k (k := Sum.inr "below") d1, _, rfl, _, rfl, Nat.le_of_ble_eq_true rfl, fun p hp => ⟨Nat.le_of_ble_eq_true rfl, fun l hl => fin "not" q p hp l hl⟩⟩
      · exact ⟨_, rfl, dp, .str "below", rfl, DGet.k (k := Sum.inr "not") d1, _, rfl, _, rfl, Nat.le_of_ble_eq_true rfl, fun p hp => ⟨Nat.le_of_ble_eq_true rfl, fun l hl => fin "below" q p hp l hl⟩⟩
    · have e' : wd = "line" := by
        have z : V.str wd = V.str "line" := by simpa using e
        injection z
      subst e'
      have ecd := ho rfl
      rw [agF_line ecd] at q
      refine ⟨_, rfl, _, rfl, Nat.le_of_ble_eq_true rfl, fun p1 hp1 => ⟨_, rfl, _, rfl, Nat.le_of_ble_eq_true rfl, fun p2 hp2 => ⟨Nat.le_of_ble_eq_true rfl, fun p3 hp3 => ?_⟩⟩⟩
      have y1 := Ext.upd (o := .tup [.str a, .str b]) hp1
      have y2 := Ext.upd (o := .tup [.str b, .str a]) hp2
      have y3 := Ext.upd (o := .lst [.ref p1, .ref p2]) hp3
      obtain ⟨H3, hH3⟩ : ∃ H3, H3 = upd (upd (upd H p1 (.tup [.str a, .str b])) p2 (.tup [.str b, .str a])) p3 (.lst [.ref p1, .ref p2]) := ⟨_, rfl⟩
      have x23 : Ext H H3 := by
        rw [hH3]
        exact y1.trans (y2.trans y3)
      have s1 : SqT K H3 p1 [.str a, .str b] := by
        rw [hH3]
        exact (SqT.of upd_same).ext (y2.trans y3)
      have s2 : SqT K H3 p2 [.str b, .str a] := by
        rw [hH3]
        exact (SqT.of upd_same).ext y3
      have s3 : H3 p3 = some (.lst [.ref p1, .ref p2]) := by
        rw [hH3]
        exact upd_same
      rw [← hH3]
      refine ⟨p3, rfl, ⟨_, SqL.of s3⟩, fun D hD => ?_⟩
      refine lc_list (K := K) (a := p3) (xs := [.ref p1, .ref p2]) (fun i H' => Ext H3 H' ∧ ∃ acc, H' D = some (.lst acc) ∧ acc.length ≤ i ∧ Rows K H' acc (((([(a, b), (b, a)] : List (Str × Str)).take i).filter fun p => decide (p.2 ∈ fo)).map fun p => ["not", p.1, p.2])) ⟨Ext.upd hD, [], upd_same, Nat.zero_le _, True.intro⟩ (fun i H' _ p => SqL.of (p.1 _ _ s3)) ?_ ?_
      · intro i v H4 hv ⟨x4, acc, l4, len4, r4⟩
        obtain ⟨u1, u2, pp, sp, rfl, tk⟩ : ∃ (u1 u2 : Str) (pp : Addr), SqT K H4 pp [.str u1, .str u2] ∧ v = .ref pp ∧ ([(a, b), (b, a)] : List (Str × Str)).take (i + 1) = ([(a, b), (b, a)] : List (Str × Str)).take i ++ [(u1, u2)] := by
          match i, hv with
          | 0, hv => exact ⟨a, b, p1, s1.ext x4, by injection hv with hv; exact hv.symm, rfl⟩
          | 1, hv => exact ⟨b, a, p2, s2.ext x4, by injection hv with hv; exact hv.symm, rfl⟩
          | i + 2, hv => cases hv
        have i2 : i < 2 := (List.getElem?_eq_some_iff.mp hv).1
        refine ⟨pp, _, rfl, sp, rfl, _, _, rfl, _, _, rfl, rfl, rfl, _, rfl, ?_⟩
        refine ⟨_, rfl, lf, _, rfl, .inl (SqL.of (x4 _ _ (x23 _ _ hf))), rfl, flat_strs _, _, rfl, ?_⟩
        rw [if_neg Bool.false_ne_true, inV_str]
        rw [tk]
        refine ite2 (fun e => ?_) fun e => ?_
        · refine ⟨_, rfl, _, rfl, Nat.le_of_ble_eq_true rfl, fun T hT => ⟨acc, Ext.upd hT _ _ l4, ?_, ?_⟩⟩
          · rw [sizeLine_eq]; omega
          · refine ⟨(x4.upd' hT).over hD, _, upd_same, by rw [List.length_append]; exact Nat.succ_le_succ len4, ?_⟩
            rw [List.filter_append, List.map_append]
            refine Rows.app (Rows.upd (Ext.upd hT _ _ l4) (r4.ext (Ext.upd hT))) ?_
            rw [List.filter_cons, if_pos (show decide ((u1, u2).2 ∈ fo) = true from e)]
            exact ⟨⟨T, rfl, sqT_upd (SqT.of upd_same) (Ext.upd hT _ _ l4)⟩, True.intro⟩
        · refine ⟨x4, acc, l4, Nat.le_succ_of_le len4, ?_⟩
          rw [List.filter_append, List.filter_cons, if_neg (show ¬ decide ((u1, u2).2 ∈ fo) = true from e), List.filter_nil, List.append_nil]
          exact r4
      · intro H4 ⟨x4, acc, l4, _, r4⟩
        exact q D H4 (x23.trans x4) (ext_none x23 hD) ⟨acc, l4, r4⟩
theorem ok_refused (Fn : FnP K "_law_refused" s__law_refused f fd) (FA : FnOk P w K mg base (L2.CX P w) 6 fA fdA ["house", "fact"] (spAgainst K C CF)) (gA : mg "against" = some (.ref fA)) (kA : PySem.W.keepIn K (.ref fA) = true) (bA : Binds K fdA ["house", "fact"] [])
    (gF : mg "BadFact" = some (.ref CF)) (xF : XfC K CF) (nF : PySem.W.findIn K (.ref CF) "index" = some none) (eF : PySem.W.exmOne K (.ref CF) (.ref CF) = some true) :
    FnOk P w K mg base CX0 7 f fd ["_law_house_here", "_law_thing"] (spRefused K C) := by
  refine Fn.ok sc__law_refused (fun vs H Q E h => ?_) (fun cdv A outer s H vs Q E hr h => ⟨_, PSs.nox
    (pss_cons (ps_try_as (i := 2) (tb := fun W => tDrop (tCallS (spAgainst K C CF) (WE W) (tCons (tVar 0) (tCons (tVar 1) tNil)))) (ts := fun a cls d => tRet (tXf a cls d CF "index" (tVar 2))) (Wout := fun _ _ _ _ => False) rfl rfl sc__law_refused.nd rfl rfl ⟨rfl, by decide, .inl gF⟩ takes0
      (fun W pn xe tk _ => pss_one (ps_expr (by exact (pe_callS FA hr (by rfl) gA kA bA (fun σ => passAt tk σ) (by exact (pa_cons (pv 0) (pa_cons (pv 1) pa_nil)))))))
      (fun a oe cls d pn hz hf => pss_one (ps_ret (by exact (pe_xf xF nF hz hf (pv 2))))))
    (pss_one (ps_ret pe_non))), ?_⟩)
  · obtain ⟨h, x, fo, th, rfl, _⟩ := h
    rfl
  · obtain ⟨h, x, fo, th, rfl, hou, nd, hz, hx, q⟩ := h
    refine ⟨_, rfl, _, rfl, h, x, fo, th, rfl, hou, nd, hz, .inl ⟨hx, fun d H' x' _ hd => ?_⟩⟩
    exact ⟨true, eF, fun _ a0 _ => ⟨_, rfl, rfl, rfl, d, _, _, rfl, hd, rfl, q H' x'⟩, fun q => nomatch q⟩
end
end My

namespace My
open PySem PySem.Spec PyProof.Rows L2
theorem wordsOk : ∀ z ∈ wordsS, PyData.strOk z = true := by decide +kernel
theorem ag_okr {fo th : List Str} {w a b : Str} (nd : (fo ++ th).Nodup) (h : IsF fo th w a b) (ok : ∀ z, z ∈ fo ++ th → PyData.strOk z = true) : OkR (agF fo th w a b) := fun r hr z hz => by
  obtain ⟨w2, a2, b2, rfl, hw, ha, hb⟩ := ag_three nd h r hr
  simp at hz
  rcases hz with rfl | rfl | rfl
  · exact wordsOk _ hw
  · exact ok _ ha
  · exact ok _ hb
theorem agF_swap {fo th : List Str} {a b : Str} : agF fo th "line" b a = agF fo th "line" a b := by
  unfold agF toldS
  rw [if_pos rfl, if_pos rfl, ord_comm]
theorem isF_swap {fo th : List Str} {a b : Str} (h : IsF fo th "line" a b) : IsF fo th "line" b a := ⟨by decide, h.2.2.1, h.2.1, fun e => h.2.2.2.1 e.symm, .inl rfl⟩
/-- the contrary of a fact that is no line -/
theorem agF_back {fo th : List Str} {w a b : Str} (h : IsF fo th w a b) (hw : w ≠ "line") : ∃ w2, agF fo th w a b = [[w2, a, b]] ∧ IsF fo th w2 a b ∧ agF fo th w2 a b = [[w, a, b]] := by
  have hb : b ∈ fo := h.2.2.2.2.resolve_left hw
  have z := h.1
  unfold wordsS at z
  simp at z
  rcases z with rfl | rfl | rfl
  · exact ⟨"not", agF_other (by decide), ⟨by decide, h.2.1, h.2.2.1, h.2.2.2.1, .inr hb⟩, agF_other (by decide)⟩
  · exact ⟨"below", agF_other (by decide), ⟨by decide, h.2.1, h.2.2.1, h.2.2.2.1, .inr hb⟩, agF_other (by decide)⟩
  · exact absurd rfl hw
theorem rows_one {K : PySem.W.Frag} {H : Hp} {xs : List V} {r : List Str} (h : Rows K H xs [r]) : ∃ t, xs = [.ref t] ∧ SqT K H t (r.map V.str) := by
  cases xs with
  | nil => exact h.elim
  | cons x xs =>
    obtain ⟨⟨t, e, s⟩, hr⟩ := h
    cases xs with
    | nil => exact ⟨t, by rw [e], s⟩
    | cons y ys => exact hr.elim
theorem any_false (n : Nat) : (List.replicate n false).any id = false := by
  rw [List.any_eq_false]
  intro x hx
  rw [List.eq_of_mem_replicate hx]
  exact Bool.false_ne_true
theorem zeros_dp {K : PySem.W.Frag} {H : Hp} (n : Nat) : DpAll K H (List.replicate n (V.int 0)) (List.replicate n (PyData.int 0)) := by
  have h := dpAll_rep (K := K) (H := H) (d := .int 0) (List.replicate n (V.int 0)) fun x hx => by
    rw [List.eq_of_mem_replicate hx]
    exact .int 0
  rw [List.length_replicate] at h
  exact h
theorem zeros_shaped (n : Nat) : SeqAt.shaped (.list (List.replicate n (PyData.int 0))) = true := shaped_ds _ fun d hd => by
  rw [List.eq_of_mem_replicate hd]
  exact ⟨rfl, by decide⟩
def spLaw (K : PySem.W.Frag) : Sp := fun vs H Q _ => ∃ (a : Addr) (ns : List Int), vs = [.ref a] ∧ SqL K H a (ns.map V.int) ∧ ∀ H', Q (.bl true) H'
abbrev nm_law : List Str := ["_law_script", "_law_turn", "_law_pool_here", "_law_folders", "_law_things", "_law_house_here", "_law_all_trees", "_law_fact", "_law_told", "_law_one", "_law_two", "_law_odd", "_law_ups", "_law_thing"]
theorem sc_law : FnScope nm_law ["_law_script"] (defScope s_law) := ⟨rfl, rfl, rfl, by decide +kernel, rfl, by decide +kernel, by decide +kernel⟩
section
variable {P : Program} {w : World} {K : PySem.W.Frag} {mg : Str → Option Value} {base : Heap} {f fA C CB CF : Addr} {fd fdA : FuncData}
theorem ok_law (Fn : FnP K "law" s_law f fd) (Z : HouseTxt P w K mg C CB) (FA : FnOk P w K mg base (L2.CX P w) 6 fA fdA ["house", "fact"] (spAgainst K C CF)) (gA : mg "against" = some (.ref fA)) (kA : PySem.W.keepIn K (.ref fA) = true) (bA : Binds K fdA ["house", "fact"] [])
    (h_law_cell : Has P w K mg base 1 "_law_cell" ["_law_script", "_law_k"] (spCell1 K)) (h_law_pool : Has P w K mg base 1 "_law_pool" ["_law_grain"] spPool) (h_law_take : Has P w K mg base 1 "_law_take" ["_law_pool_here", "_law_many"] spTake)
    (h_law_house : Has P w K mg base 3 "_law_house" ["_law_pool_here", "_law_most", "_law_more"] spHouse) (h_law_trees : Has P w K mg base 2 "_law_trees" ["_law_folders", "_law_things"] (spTrees K))
    (h_law_every : Has P w K mg base 1 "_law_every" ["_law_folders", "_law_things"] (spEvery K)) (h_law_due : Has P w K mg base 1 "_law_due" ["_law_folders", "_law_fact"] (spDue K)) (h_law_keep : Has P w K mg base 3 "_law_keep" ["_law_ups", "_law_rows"] (spKeep K))
    (h_law_holds : Has P w K mg base 2 "_law_holds" ["_law_ups", "_law_fact"] (spHolds K)) (h_law_refused : Has P w K mg base 7 "_law_refused" ["_law_house_here", "_law_thing"] (spRefused K C))
    (gB_range : mg "range" = none) (gB_len : mg "len" = none) (gB_list : mg "list" = none) (gB_isinstance : mg "isinstance" = none) (gB_any : mg "any" = none) : FnOk P w K mg base CX0 8 f fd ["_law_script"] (spLaw K) := by
  refine Fn.ok sc_law (fun vs H Q E h => ?_) (fun cdv A outer s H vs Q E hr h => ⟨_, PSs.nox
    (pss_cons (ps_for PassesOwn.never rfl (pi_range1 (by rfl) gB_range (pa_cons pe_int pa_nil)) (pg_name (i := 1) sc_law.nd rfl (Or.inl rfl))
      (pss_cons (ps_set (i := 2) sc_law.nd rfl (Or.inl rfl) (pe_has h_law_pool (hr.mono (by decide)) (pa_cons (pe_op op_add (pe_has h_law_cell (hr.mono (by decide)) (pa_cons (pv 0) (pa_cons (pv 1) pa_nil))) (pv 1)) pa_nil)))
      (pss_cons (ps_asg (pe_has h_law_house (hr.mono (by decide)) (pa_cons (pv 2) (pa_cons pe_int (pa_cons pe_int pa_nil)))) (pg_tup rfl (pgs_cons (pg_name (i := 3) sc_law.nd rfl (Or.inl rfl)) (pgs_cons (pg_name (i := 4) sc_law.nd rfl (Or.inl rfl)) pgs_nil))))
      (pss_cons (ps_asg (pe_tup (pa_cons (pe_make Z.M (Z.I _) (hr.mono (by decide)) (by rfl) Z.gH Z.bI .nil passL (pa_cons (pv 3) (pa_cons (pv 4) pa_nil))) (pa_cons (pe_has h_law_trees (hr.mono (by decide)) (pa_cons (pv 3) (pa_cons (pv 4) pa_nil))) pa_nil))) (pg_tup rfl (pgs_cons (pg_name (i := 5) sc_law.nd rfl (Or.inr rfl)) (pgs_cons (pg_name (i := 6) sc_law.nd rfl (Or.inl rfl)) pgs_nil))))
      (pss_cons (ps_for PassesOwn.never rfl (pi_list (pe_has h_law_every (hr.mono (by decide)) (pa_cons (pv 3) (pa_cons (pv 4) pa_nil)))) (pg_name (i := 7) sc_law.nd rfl (Or.inr rfl))
      (pss_cons (ps_set (i := 8) sc_law.nd rfl (Or.inr rfl) (pe_call FA (hr.mono (by decide)) (by rfl) gA kA bA .nil passL (pa_cons (pv 5) (pa_cons (pe_ix ix_list (pe_lst (pa_cons (pv 7) (pa_cons (pe_callTy call_lstS (by rfl) gB_list (by decide +kernel) (pa_cons (pv 7) pa_nil)) pa_nil))) (pe_has h_law_take (hr.mono (by decide)) (pa_cons (pv 2) (pa_cons pe_int pa_nil))) (fun _ _ => rfl)) pa_nil))))
      (pss_cons (ps_if (PW.pt (pw_or (pt_cmpR (op_neD hr.units) (pv 8) (pe_has h_law_due (hr.mono (by decide)) (pa_cons (pv 3) (pa_cons (pv 7) pa_nil))) (nomark _)) (pw_or1 (pt_not (pt_val (pe_callB call_isi (by rfl) gB_isinstance boot_isinstance (pa_cons (pv 8) (pa_cons (pe_bltn (v := .ty "list") (by rfl) gB_list boot_list rfl) pa_nil)))))))) (pss_one (ps_ret pe_bl)) pss_nil)
      (C8.pss_cut (ps_if (PW.pt (pw_and (pt_cmpR op_eq (pe_ix ix_tup (pv 7) pe_int (fun _ _ => rfl)) pe_str (nomark _)) (pw_and1 (pt_cmpR (op_neD hr.units) (pe_call FA (hr.mono (by decide)) (by rfl) gA kA bA .nil passL (pa_cons (pv 5) (pa_cons (pe_tup (pa_cons (pe_ix ix_tup (pv 7) pe_int (fun _ _ => rfl)) (pa_cons (pe_ix ix_tup (pv 7) pe_int (fun _ _ => rfl)) (pa_cons (pe_ix ix_tup (pv 7) pe_int (fun _ _ => rfl)) pa_nil)))) pa_nil))) (pv 8) (nomark _))))) (pss_one (ps_ret pe_bl)) pss_nil)
      (pss_cons (ps_if (pt_val (pe_callB (cr_any rfl) (by rfl) gB_any boot_any (pa_cons (pe_lc (own := [("_law_ups", 12)]) (g := (gName 12)) (tt := tYes) rfl sc_law.nd (pi_list (pv 6)) (blkOk_by (N := nm_law) (sc := defScope s_law) (by decide +kernel)) (fun _ _ _ _ _ => (pg_name (i := 12) sc_law.nd rfl (Or.inl rfl))) (fun _ _ _ _ _ => pts_nil) (fun _ _ _ _ _ => (pe_cmpR op_eq (pe_has h_law_keep (hr.mono (by decide)) (pa_cons (pv 12) (pa_cons (pv 8) pa_nil))) (pe_has h_law_holds (hr.mono (by decide)) (pa_cons (pv 12) (pa_cons (pv 7) pa_nil))) (nomark _)))) pa_nil))) (pss_one (ps_ret pe_bl)) pss_nil)
      (C8.pss_cut (ps_if (PW.pt (pw_and (pt_cmpR op_ne (pe_ix ix_tup (pv 7) pe_int (fun _ _ => rfl)) pe_str (nomark _)) (pw_and1 (pt_cmpR (op_neD hr.units) (pe_call FA (hr.mono (by decide)) (by rfl) gA kA bA .nil passL (pa_cons (pv 5) (pa_cons (pe_ix ix_list (pv 8) pe_int (fun _ _ => rfl)) pa_nil))) (pe_lst (pa_cons (pv 7) pa_nil)) (nomark _))))) (pss_one (ps_ret pe_bl)) pss_nil)
      (pss_cons (ps_expr (pe_bm PySem.F.plainAttrs_list PySem.F.slot_list_append PySem.F.type_list_append mt_append (pv 8) (pa_cons pe_str pa_nil)))
      (pss_one (ps_if (pt_cmpR (op_neD hr.units) (pe_call FA (hr.mono (by decide)) (by rfl) gA kA bA .nil passL (pa_cons (pv 5) (pa_cons (pv 7) pa_nil))) (pe_has h_law_due (hr.mono (by decide)) (pa_cons (pv 3) (pa_cons (pv 7) pa_nil))) (nomark _)) (pss_one (ps_ret pe_bl)) pss_nil)))))))))
      (pss_cons (ps_par (i := 9) (j := 10) rfl sc_law.nd rfl rfl (by decide) rfl rfl (pa_cons (pe_ix ix_list (pv 3) pe_int (fun _ _ => rfl)) (pa_cons (pe_ix ix_list (pe_op L2.op_cat (pv 3) (pv 4)) pe_int (fun _ _ => rfl)) pa_nil)) (by rfl))
      (pss_cons (ps_set (i := 11) sc_law.nd rfl (Or.inl rfl) (pe_lst (pa_cons pe_non (pa_cons pe_int (pa_cons pe_str (pa_cons (pe_tup pa_nil) (pa_cons (pe_tup (pa_cons pe_str (pa_cons (pv 9) (pa_cons (pv 9) pa_nil)))) (pa_cons (pe_tup (pa_cons pe_str (pa_cons (pv 9) (pa_cons pe_str pa_nil)))) (pa_cons (pe_tup (pa_cons pe_str (pa_cons pe_str (pa_cons (pv 9) pa_nil)))) (pa_cons pe_dnewK (pa_cons pe_bl pa_nil)))))))))))
      (pss_cons (ps_expr (pe_bm PySem.F.plainAttrs_list PySem.F.slot_list_extend PySem.F.type_list_extend mt_extend (pv 11) (pa_cons (pe_lst (pa_cons (pe_tup (pa_cons pe_str (pa_cons (pv 10) (pa_cons (pv 9) pa_nil)))) (pa_cons (pe_tup (pa_cons pe_str (pa_cons (pv 10) (pa_cons (pv 9) pa_nil)))) (pa_cons (pe_tup (pa_cons (pe_lst (pa_cons pe_str pa_nil)) (pa_cons (pv 10) (pa_cons (pv 9) pa_nil)))) (pa_cons (pe_tup (pa_cons pe_str (pa_cons (pv 10) (pa_cons (pv 9) (pa_cons (pv 9) pa_nil))))) pa_nil))))) pa_nil)))
      (pss_one (ps_if (pt_cmpR (op_neD hr.units) (pe_lc (own := [("_law_thing", 13)]) (g := (gName 13)) (tt := tYes) rfl sc_law.nd (pi_list (pv 11)) (blkOk_by (N := nm_law) (sc := defScope s_law) (by decide +kernel)) (fun _ _ _ _ _ => (pg_name (i := 13) sc_law.nd rfl (Or.inl rfl))) (fun _ _ _ _ _ => pts_nil) (fun _ _ _ _ _ => (pe_has h_law_refused (hr.mono (by decide)) (pa_cons (pv 5) (pa_cons (pv 13) pa_nil))))) (pe_op op_rep (pe_lst (pa_cons pe_int pa_nil)) (pe_callB call_len (by rfl) gB_len boot_len (pa_cons (pv 11) pa_nil))) (nomark _)) (pss_one (ps_ret pe_bl)) pss_nil))))))))))
      (pss_one (ps_ret pe_bl))), ?_⟩)
  · obtain ⟨a, ns, rfl, _⟩ := h
    rfl
  · obtain ⟨as, ns, rfl, hsc, q⟩ := h
    have lm : ∀ zs : List Str, (zs.map V.str).length = zs.length := fun zs => List.length_map _
    refine ⟨2, rfl, by decide, by decide, for_range (lo := 0) (n := 2) (fun _ σ H' => ∃ v1 v2 v3 v4 v5 v6 v7 v8 v9 v10 v11 v12 v13 : Option V, σ = [some (.ref as), v1, v2, v3, v4, v5, v6, v7, v8, v9, v10, v11, v12, v13] ∧ Ext H H') ⟨none, none, none, none, none, none, none, none, none, none, none, none, none, rfl, Ext.rfl'⟩ ?_ fun σ H' _ => q H'⟩
    rintro k σ H0 hk ⟨v1, v2, v3, v4, v5, v6, v7, v8, v9, v10, v11, v12, v13, rfl, x0⟩
    refine ⟨_, rfl, _, rfl, as, ns, k, by rw [Int.zero_add]; rfl, hsc.ext x0, fun i0 => ⟨_, rfl, _, _, rfl, rfl, _, rfl, fun p H1 hp hH1 => ?_⟩⟩
    obtain ⟨pa, pb, pa0, pb0, pb1, rfl⟩ := hH1
    obtain ⟨H1, hH1⟩ : ∃ H1, H1 = L2.upd H0 p (.lst [.int pa, .int pb, .int 0]) := ⟨_, rfl⟩
    rw [← hH1]
    have pool1 : Pool H1 p 0 := ⟨pa, pb, 0, by rw [hH1, upd_same], pa0, pb0, pb1, Int.le_refl _, Int.le_refl _⟩
    have x1 : Ext H0 H1 := by
      rw [hH1]
      exact Ext.upd hp
    have Hp0 : H p = none := ext_none x0 hp
    refine ⟨_, rfl, p, 0, 3, 2, rfl, by decide, by decide, by decide, by decide, pool1, by decide, fun t l1 l2 fo th H2 b2 p2 ht2 hf ht n12 nl1 nl2 f1 f3 t2 tot nms => ⟨t, _, rfl, SqT.of ht2, rfl, _, _, rfl, _, _, rfl, rfl, ?_⟩⟩
    have x2 : Ext H H2 := ext_but' (x0.trans x1) Hp0 b2
    have n1p : l1 ≠ p := fun e => by rw [e] at nl1; obtain ⟨y, h⟩ := pool1.lst; rw [nl1] at h; cases h
    have n2p : l2 ≠ p := fun e => by rw [e] at nl2; obtain ⟨y, h⟩ := pool1.lst; rw [nl2] at h; cases h
    have nok := nms.ok
    have nd := nms.1
    have n5 : (fo ++ th).length ≤ 5 := by
      rw [List.length_append]
      omega
    have fne : fo ≠ [] := fun e => by
      subst e
      exact absurd f1 (by decide)
    have zok : ∀ z, z ∈ fo ++ th → PyData.strOk z = true := fun z hz => (nok.2 z hz).2.1
    refine ⟨_, rfl, _, rfl, ?_⟩
    intro h dx hh hdx nx
    refine mk_at (a := l1) (b := l2) (fo := fo) (th := th) (.inl (SqL.of hf)) (.inl (SqL.of ht)) nok fne (by rw [sizeLine_eq]; omega) hh hdx nx fun H3 x3 hou3 => ?_
    refine ⟨_, rfl, _, rfl, l1, l2, fo, th, rfl, x3 _ _ hf, x3 _ _ ht, f3, by omega, fun tl txs H4 x4 tl0 tlen l4 tr4 => ⟨Nat.le_of_ble_eq_true rfl, fun tt htt => ⟨tt, _, rfl, SqT.of upd_same, rfl, _, _, rfl, _, _, rfl, rfl, ?_⟩⟩⟩
    have z5 := Ext.upd (o := .tup [.ref h, .ref tl]) htt
    obtain ⟨H5, hH5⟩ : ∃ H5, H5 = upd H4 tt (.tup [.ref h, .ref tl]) := ⟨_, rfl⟩
    rw [← hH5] at z5 ⊢
    have y5 : Ext H2 H5 := x3.trans (x4.trans z5)
    have p5 := pool_ext p2 y5
    have ntl : tl ≠ p := pool_ne (pool_ext p2 x3) tl0
    have hf5 := y5 _ _ hf
    have ht5 := y5 _ _ ht
    refine ⟨_, rfl, _, rfl, l1, l2, fo, th, rfl, hf5, ht5, nd, by omega, fun fl rs H6 x6 fl0 rlen rows6 fr6 => ?_⟩
    have nfl : fl ≠ p := pool_ne p5 fl0
    obtain ⟨fxs, hfl6, rw6⟩ := rows6
    have p6 := pool_ext p5 x6
    have hf6 := x6 _ _ hf5
    have ht6 := x6 _ _ ht5
    have hou6 := (hou3.ext (x4.trans z5)).ext x6
    have l6 := x6 _ _ (z5 _ _ l4)
    have tr6 := tr4.ext (z5.trans x6)
    have x06 : Ext H H6 := x2.trans (y5.trans x6)
    refine ⟨fl, rfl, ⟨_, SqL.of hfl6⟩, for_list (K := K) (a := fl) (xs := fxs) (fun i σ H' => But H6 H' p ∧ Pool H' p (1000 + i) ∧ ∃ v7 v8 : Option V, σ = [some (.ref as), some (.int (0 + (k : Int))), some (.ref p), some (.ref l1), some (.ref l2), some (.ref h), some (.ref tl), v7, v8, v9, v10, v11, v12, v13]) ?_ ?_ ?_ ?_⟩
    · exact ⟨ext_but Ext.rfl', pool_mono p6 (by decide), v7, v8, rfl⟩
    · rintro i σ H' _ ⟨b', _⟩
      exact SqL.of (b' _ _ nfl hfl6)
    · rintro i v σ H7 hv ⟨b7, p7, v7, v8, rfl⟩
      have ilen : i < rs.length := by
        rw [← rw6.len]
        exact (List.getElem?_eq_some_iff.mp hv).1
      obtain ⟨y6, hp6⟩ := p6.lst
      obtain ⟨y7, hp7⟩ := p7.lst
      obtain ⟨ft, r, rfl, sqf, hr⟩ := (rw6.butL hp6 b7).at_ hv
      obtain ⟨wd, a, b, rfl, isf, hlo⟩ := fr6 r (List.mem_of_getElem? hr)
      refine ⟨_, rfl, _, rfl, _, rfl, ft, _, rfl, .inr sqf, fun c hc => ⟨Nat.le_of_ble_eq_true rfl, fun dl hdl => ?_⟩⟩
      obtain ⟨H8, hH8⟩ : ∃ H8, H8 = upd (upd H7 c (.lst ([wd, a, b].map V.str))) dl (.lst [.ref ft, .ref c]) := ⟨_, rfl⟩
      rw [← hH8]
      have x8 : Ext H7 H8 := by
        rw [hH8]
        exact (Ext.upd hc).trans (Ext.upd hdl)
      have ncp : c ≠ p := pool_ne p7 hc
      have p8 := pool_ext p7 x8
      have ndp : dl ≠ p := pool_ne (pool_ext p7 (Ext.upd hc)) hdl
      have dl8 : H8 dl = some (.lst [.ref ft, .ref c]) := by rw [hH8, upd_same]
      have c8 : H8 c = some (.lst [.str wd, .str a, .str b]) := by
        rw [hH8]
        exact Ext.upd hdl _ _ upd_same
      refine ⟨_, rfl, p, 2, _, rfl, by decide, by decide, p8, by omega, fun r0 o r00 r01 gp => ?_⟩
      obtain ⟨H9, hH9⟩ : ∃ H9, H9 = upd H8 p o := ⟨_, rfl⟩
      rw [← hH9] at gp ⊢
      obtain ⟨y8, hp8⟩ := p8.lst
      have b89 : But H8 H9 p := by
        rw [hH9]
        exact But.upd (ext_but Ext.rfl')
      have b69 : But H6 H9 p := (b7.trans (ext_but x8)).trans b89
      have sqf9 := sqT_butL hp8 b89 (sqf.ext x8)
      have c9 := b89 _ _ ncp c8
      obtain ⟨x, hx, rr, rfl, sq9⟩ : ∃ x, atI [V.ref ft, V.ref c] r0 = some x ∧ ∃ rr, x = .ref rr ∧ SeqAt2 K H9 rr [.str wd, .str a, .str b] := by
        have h01 : r0 = 0 ∨ r0 = 1 := by omega
        rcases h01 with rfl | rfl
        · exact ⟨_, rfl, ft, rfl, .inr sqf9⟩
        · exact ⟨_, rfl, c, rfl, .inl (SqL.of c9)⟩
      have hou9 := hou_butL hp6 b69 hou6
      have hf9 := b69 _ _ n1p hf6
      have tr9 := tr6.butL hp6 b69
      have tl9 := b69 _ _ ntl l6
      have zsz : (fo ++ th).length < sizeLine := by rw [sizeLine_eq]; omega
      have okr : OkR (agF fo th wd a b) := ag_okr nd isf zok
      refine ⟨dl, _, _, _, rfl, rfl, SqL.of (b89 _ _ ndp dl8), hx, h, .ref rr, fo, th, rfl, hou9, nd, zsz, .inr ⟨rr, wd, a, b, rfl, sq9, isf, fun gl H10 x10 gl0 rows10 => ?_⟩⟩
      obtain ⟨gxs, hgl, rw10⟩ := rows10
      refine ⟨_, rfl, _, rfl, _, rfl, l1, ft, fo, th, wd, a, b, rfl, x10 _ _ hf9, isf, hlo, sqf9.ext x10, fun ul H11 x11 _ rows11 => ?_⟩
      obtain ⟨uxs, hul, rw11⟩ := rows11
      have g11 := x11 _ _ hgl
      have rw11' := rw10.ext x11
      have x911 : Ext H9 H11 := x10.trans x11
      refine ⟨rowsD (agF fo th wd a b), rowsD (agF fo th wd a b), .lst (SqL.of g11) (rows_dp rw11'), .lst (SqL.of hul) (rows_dp rw11), rows_shaped okr, rows_shaped okr, _, rfl, ?_⟩
      rw [eqv_rows, decide_eq_true rfl]
      refine ⟨_, rfl, .ref gl, .ty "list", .type "list", .type "list", true, rfl, .ty _, tyx_lst g11, kit_ty (by decide +kernel), true, rfl, ?_⟩
      -- a line the other way round
      refine ⟨fun σ' H' => Ext H9 H' ∧ H' gl = some (.lst gxs) ∧ Rows K H' gxs (agF fo th wd a b) ∧ σ' = [some (.ref as), some (.int (0 + (k : Int))), some (.ref p), some (.ref l1), some (.ref l2), some (.ref h), some (.ref tl), some (.ref ft), some (.ref gl), v9, v10, v11, v12, v13], ?_, ?_⟩
      · have s11 := sqf9.ext x911
        refine ⟨_, rfl, ft, _, _, _, rfl, rfl, s11, atI_nat (j := 0) rfl, rfl, _, rfl, ?_⟩
        refine ite2 (fun c => ?_) fun _ => ⟨x911, g11, rw11', rfl⟩
        have e' : wd = "line" := by
          have z := of_decide_eq_true c
          injection z
        subst e'
        refine ⟨_, rfl, _, rfl, ft, _, _, _, rfl, rfl, s11, atI_nat (j := 0) rfl, _, rfl, ft, _, _, _, rfl, rfl, s11, atI_nat (j := 2) rfl, _, rfl, ft, _, _, _, rfl, rfl, s11, atI_nat (j := 1) rfl, Nat.le_of_ble_eq_true rfl, fun t3 ht3 => ?_⟩
        have z3 := Ext.upd (o := .tup [.str "line", .str b, .str a]) ht3
        refine ⟨h, .ref t3, fo, th, rfl, (hou9.ext x911).ext z3, nd, zsz, .inr ⟨t3, "line", b, a, rfl, .inr (SqT.of upd_same), isF_swap isf, fun g2 H12 x12 _ rows12 => ?_⟩⟩
        rw [agF_swap] at rows12
        obtain ⟨g2xs, hg2, rw12⟩ := rows12
        have xx := z3.trans x12
        refine ⟨_, rfl, rowsD (agF fo th "line" a b), rowsD (agF fo th "line" a b), .lst (SqL.of hg2) (rows_dp rw12), .lst (SqL.of (xx _ _ g11)) (rows_dp (rw11'.ext xx)), rows_shaped okr, rows_shaped okr, _, rfl, ?_⟩
        rw [eqv_rows, decide_eq_true rfl]
        exact ⟨x911.trans xx, xx _ _ g11, rw11'.ext xx, rfl⟩
      rintro σ' H12 ⟨x12, g12, rw12, rfl⟩
      -- all trees
      refine ⟨_, rfl, tl, rfl, ⟨_, SqL.of (x12 _ _ tl9)⟩, fun D hD => ?_⟩
      refine lc_list (K := K) (a := tl) (xs := txs) (fun j H' => Ext H12 H' ∧ H' D = some (.lst ((List.replicate j false).map V.bl))) ⟨Ext.upd hD, upd_same⟩ (fun j H' _ z => SqL.of (z.1 _ _ (x12 _ _ tl9))) ?_ ?_
      · intro j v H13 hv ⟨x13, d13⟩
        have jlen : j < txs.length := (List.getElem?_eq_some_iff.mp hv).1
        obtain ⟨da, d, rfl, hda, okd, kyd, dlen⟩ := (tr9.ext (x12.trans x13)) v (List.mem_of_getElem? hv)
        have up : Ups fo (fo ++ th) d := ⟨okd, kyd, dlen, fun z hz => List.mem_append_left _ hz⟩
        refine ⟨rfl, ?_⟩
        refine lcYes ?_
        refine ⟨_, rfl, _, rfl, da, gl, d, fo, fo ++ th, _, rfl, hda, up, by omega, ⟨gxs, x13 _ _ g12, rw12.ext x13⟩, ag_three nd isf, Nat.lt_of_le_of_lt (ag_len nd isf) (by decide), fun H14 x14 => ?_⟩
        refine ⟨_, rfl, _, rfl, da, ft, d, fo, fo ++ th, wd, a, b, rfl, x14 _ _ hda, up, by omega, isf.1, isf.2.1, isf.2.2.1, sqf9.ext (x12.trans (x13.trans x14)), fun H15 x15 => ⟨rfl, _, (x14.trans x15) _ _ d13, ?_, ?_, ?_⟩⟩
        · rw [List.length_map, List.length_replicate, sizeLine_eq]; omega
        · exact (x13.trans (x14.trans x15)).over hD
        · rw [upd_same, ag_allG (liesA_no okd) nd isf, List.replicate_succ', List.map_append]
          have e : decide (V.bl (!holdsG (liesA d) wd a b) = V.bl (holdsG (liesA d) wd a b)) = false := by
            cases holdsG (liesA d) wd a b <;> rfl
          rw [e]
          rfl
      · intro H13 ⟨x13, d13⟩
        refine ⟨D, _, rfl, SqL.of d13, _, rfl, ?_⟩
        rw [any_false]
        have g13 := x13 _ _ g12
        have rw13 := rw12.ext x13
        have x913 : Ext H9 H13 := x12.trans x13
        refine ⟨fun σ' H' => Ext H9 H' ∧ H' gl = some (.lst gxs) ∧ Rows K H' gxs (agF fo th wd a b) ∧ σ' = [some (.ref as), some (.int (0 + (k : Int))), some (.ref p), some (.ref l1), some (.ref l2), some (.ref h), some (.ref tl), some (.ref ft), some (.ref gl), v9, v10, v11, v12, v13], ?_, ?_⟩
        · have s13 := sqf9.ext x913
          refine ⟨_, rfl, ft, _, _, _, rfl, rfl, s13, atI_nat (j := 0) rfl, rfl, _, rfl, ?_⟩
          refine ite2 (fun c => ?_) fun _ => ⟨x913, g13, rw13, rfl⟩
          have e' : wd ≠ "line" := fun e => by
            subst e
            exact absurd c (by decide)
          obtain ⟨w2, ag1, isf2, ag2⟩ := agF_back isf e'
          rw [ag1] at rw13
          obtain ⟨t0, rfl, s0⟩ := rows_one rw13
          refine ⟨_, rfl, _, rfl, gl, _, _, _, rfl, rfl, SqL.of g13, atI_nat (j := 0) rfl, ?_⟩
          refine ⟨h, .ref t0, fo, th, rfl, hou9.ext x913, nd, zsz, .inr ⟨t0, w2, a, b, rfl, .inr s0, isf2, fun g3 H14 x14 _ rows14 => ?_⟩⟩
          rw [ag2] at rows14
          obtain ⟨g3xs, hg3, rw14⟩ := rows14
          refine ⟨_, rfl, Nat.le_of_ble_eq_true rfl, fun t4 ht4 => ?_⟩
          have z4 := Ext.upd (o := .lst [.ref ft]) ht4
          have ok1 : OkR [[wd, a, b]] := fun r hr z hz => by
            rw [List.mem_singleton.mp hr] at hz
            simp at hz
            rcases hz with rfl | rfl | rfl
            · exact wordsOk _ isf.1
            · exact zok _ isf.2.1
            · exact zok _ isf.2.2.1
          refine ⟨rowsD [[wd, a, b]], rowsD [[wd, a, b]], .lst (SqL.of (z4 _ _ hg3)) (rows_dp (rw14.ext z4)), .lst (SqL.of upd_same) (.cons (.tup (sqf9.ext (x913.trans (x14.trans z4))) (dpAll_str [wd, a, b])) .nil), rows_shaped ok1, rows_shaped ok1, _, rfl, ?_⟩
          rw [eqv_rows, decide_eq_true rfl]
          exact ⟨x913.trans (x14.trans z4), (x14.trans z4) _ _ g13, by rw [ag1]; exact rw13.ext (x14.trans z4), rfl⟩
        rintro σ' H14 ⟨x14, g14, rw14, rfl⟩
        have glen : gxs.length ≤ 2 := by
          rw [rw14.len]
          exact ag_len nd isf
        refine ⟨_, rfl, .inl ⟨rfl, _, .inl (.inl g14)⟩, gl, _, _, rfl, rfl, g14, by rw [sizeLine_eq]; omega, ?_⟩
        have x15 := x14.over (o := .lst (gxs ++ [.str "more"])) gl0
        refine ⟨_, rfl, _, rfl, h, .ref ft, fo, th, rfl, hou9.ext x15, nd, zsz, .inr ⟨ft, wd, a, b, rfl, .inr (sqf9.ext x15), isf, fun g4 H16 x16 _ rows16 => ?_⟩⟩
        obtain ⟨g4xs, hg4, rw16⟩ := rows16
        refine ⟨_, rfl, _, rfl, l1, ft, fo, th, wd, a, b, rfl, x16 _ _ (x15 _ _ hf9), isf, hlo, sqf9.ext (x15.trans x16), fun u4 H17 x17 _ rows17 => ?_⟩
        obtain ⟨u4xs, hu4, rw17⟩ := rows17
        refine ⟨rowsD (agF fo th wd a b), rowsD (agF fo th wd a b), .lst (SqL.of (x17 _ _ hg4)) (rows_dp (rw16.ext x17)), .lst (SqL.of hu4) (rows_dp rw17), rows_shaped okr, rows_shaped okr, _, rfl, ?_⟩
        rw [eqv_rows, decide_eq_true rfl]
        have x917 : Ext H9 H17 := x15.trans (x16.trans x17)
        refine ⟨b69.trans (ext_but x917), ?_, _, _, rfl⟩
        have e : (1000 + (i : Int) + 1) = 1000 + ((i + 1 : Nat) : Int) := by omega
        rw [← e]
        exact pool_ext gp x917
    · rintro σ H7 ⟨b7, p7, v7, v8, rfl⟩
      obtain ⟨y6, hp6⟩ := p6.lst
      have hf7 := b7 _ _ n1p hf6
      have ht7 := b7 _ _ n2p ht6
      have hou7 := hou_butL hp6 b7 hou6
      have x07 : Ext H H7 := ext_but' x06 Hp0 b7
      clear tr6 tr4 rw6 fr6 hfl6 l6 l4
      obtain ⟨a0, fo', rfl⟩ : ∃ a0 fo', fo = a0 :: fo' := by
        cases fo with
        | nil => exact absurd f1 (by decide)
        | cons a0 fo' => exact ⟨a0, fo', rfl⟩
      obtain ⟨a1, ha1⟩ : ∃ a1, (a0 :: fo' ++ th)[1]? = some a1 := ⟨_, List.getElem?_eq_getElem (by rw [List.length_append]; omega)⟩
      refine ⟨_, rfl, l1, _, _, _, rfl, rfl, SqL.of hf7, atI_nat (j := 0) rfl, _, rfl, _, rfl, l1, l2, _, _, rfl, rfl, hf7, ht7, by rw [lm, lm, sizeLine_eq, ← List.length_append]; omega, fun lc hlc => ⟨lc, _, _, .str a1, rfl, rfl, SqL.of upd_same, atI_nat (j := 1) (by rw [← List.map_append, List.getElem?_map, ha1]; rfl), _, _, rfl, ?_⟩⟩
      have z0 := Ext.upd (o := .lst ((a0 :: fo').map V.str ++ th.map V.str)) hlc
      refine ⟨Nat.zero_le _, fun t1 h1 => ⟨_, rfl, _, rfl, Nat.le_of_ble_eq_true rfl, fun q2 h2 => ⟨_, rfl, Nat.le_of_ble_eq_true rfl, fun q3 h3 => ⟨_, rfl, Nat.le_of_ble_eq_true rfl, fun q4 h4 => fun q6 h6 => ⟨Nat.le_of_ble_eq_true rfl, fun o1 ho1 => ?_⟩⟩⟩⟩⟩
      have z1 := Ext.upd (o := .tup []) h1
      have z2 := Ext.upd (o := .tup [.str "below", .str a0, .str a0]) h2
      have z3 := Ext.upd (o := .tup [.str "line", .str a0, .str "zz"]) h3
      have z4 := Ext.upd (o := .tup [.str "not", .str "zz", .str a0]) h4
      have z6 := Ext.upd (o := .dK []) h6
      have z7 := Ext.upd (o := .lst [.non, .int 5, .str "", .ref t1, .ref q2, .ref q3, .ref q4, .ref q6, .bl true]) ho1
      obtain ⟨HA, hHA⟩ : ∃ HA, HA = upd (upd (upd (upd (upd (upd (upd H7 lc (.lst ((a0 :: fo').map V.str ++ th.map V.str))) t1 (.tup [])) q2 (.tup [.str "below", .str a0, .str a0])) q3 (.tup [.str "line", .str a0, .str "zz"])) q4 (.tup [.str "not", .str "zz", .str a0])) q6 (.dK [])) o1 (.lst [.non, .int 5, .str "", .ref t1, .ref q2, .ref q3, .ref q4, .ref q6, .bl true]) := ⟨_, rfl⟩
      have xA : Ext H7 HA := by
        rw [hHA]
        exact z0.trans (z1.trans (z2.trans (z3.trans (z4.trans (z6.trans z7)))))
      have o1A : HA o1 = some (.lst [.non, .int 5, .str "", .ref t1, .ref q2, .ref q3, .ref q4, .ref q6, .bl true]) := by rw [hHA, upd_same]
      have s1 : HA t1 = some (.tup []) := by rw [hHA]; exact (z2.trans (z3.trans (z4.trans (z6.trans z7)))) _ _ upd_same
      have s2 : HA q2 = some (.tup [.str "below", .str a0, .str a0]) := by rw [hHA]; exact (z3.trans (z4.trans (z6.trans z7))) _ _ upd_same
      have s3 : HA q3 = some (.tup [.str "line", .str a0, .str "zz"]) := by rw [hHA]; exact (z4.trans (z6.trans z7)) _ _ upd_same
      have s4 : HA q4 = some (.tup [.str "not", .str "zz", .str a0]) := by rw [hHA]; exact (z6.trans z7) _ _ upd_same
      have s6 : HA q6 = some (.dK []) := by rw [hHA]; exact z7 _ _ upd_same
      have o1n : H7 o1 = none := ext_none (z0.trans (z1.trans (z2.trans (z3.trans (z4.trans z6))))) ho1
      rw [← hHA]
      clear hHA z0 z1 z2 z3 z4 z6 z7
      have nozz : ("zz" : Str) ∉ a0 :: fo' ++ th := fun m => (nms.2 _ m).2.2.2.2.2 "zz" (by decide +kernel) rfl
      refine ⟨_, rfl, .inl ⟨rfl, _, .inl (.inl o1A)⟩, _, rfl, _, rfl, Nat.le_of_ble_eq_true rfl, fun r1 g1 => ⟨_, rfl, _, rfl, Nat.le_of_ble_eq_true rfl, fun r2 g2 => ⟨Nat.le_of_ble_eq_true rfl, fun e1 ge1 => ⟨_, rfl, _, rfl, Nat.le_of_ble_eq_true rfl, fun r3 g3 => ⟨_, rfl, _, rfl, _, rfl, Nat.le_of_ble_eq_true rfl, fun r4 g4 => ⟨Nat.le_of_ble_eq_true rfl, fun o2 ho2 => ?_⟩⟩⟩⟩⟩⟩
      have w1 := Ext.upd (o := .tup [.str "off", .str a1, .str a0]) g1
      have w2 := Ext.upd (o := .tup [.str "Below", .str a1, .str a0]) g2
      have w3 := Ext.upd (o := .lst [.str "below"]) ge1
      have w4 := Ext.upd (o := .tup [.ref e1, .str a1, .str a0]) g3
      have w5 := Ext.upd (o := .tup [.str "line", .str a1, .str a0, .str a0]) g4
      have w6 := Ext.upd (o := .lst [.ref r1, .ref r2, .ref r3, .ref r4]) ho2
      refine ⟨o1, o2, _, _, rfl, rfl, (w1.trans (w2.trans (w3.trans (w4.trans (w5.trans w6))))) _ _ o1A, upd_same, Nat.le_of_ble_eq_true rfl, ?_⟩
      obtain ⟨HB, hHB⟩ : ∃ HB, HB = upd (upd (upd (upd (upd (upd HA r1 (.tup [.str "off", .str a1, .str a0])) r2 (.tup [.str "Below", .str a1, .str a0])) e1 (.lst [.str "below"])) r3 (.tup [.ref e1, .str a1, .str a0])) r4 (.tup [.str "line", .str a1, .str a0, .str a0])) o2 (.lst [.ref r1, .ref r2, .ref r3, .ref r4]) := ⟨_, rfl⟩
      have xAB : Ext HA HB := by
        rw [hHB]
        exact w1.trans (w2.trans (w3.trans (w4.trans (w5.trans w6))))
      have v1 : HB r1 = some (.tup [.str "off", .str a1, .str a0]) := by rw [hHB]; exact (w2.trans (w3.trans (w4.trans (w5.trans w6)))) _ _ upd_same
      have v2 : HB r2 = some (.tup [.str "Below", .str a1, .str a0]) := by rw [hHB]; exact (w3.trans (w4.trans (w5.trans w6))) _ _ upd_same
      have v3 : HB e1 = some (.lst [.str "below"]) := by rw [hHB]; exact (w4.trans (w5.trans w6)) _ _ upd_same
      have v4 : HB r3 = some (.tup [.ref e1, .str a1, .str a0]) := by rw [hHB]; exact (w5.trans w6) _ _ upd_same
      have v5 : HB r4 = some (.tup [.str "line", .str a1, .str a0, .str a0]) := by rw [hHB]; exact w6 _ _ upd_same
      have ne1 : e1 ≠ o1 := fun e => ne_of_none ((w1.trans w2) _ _ o1A) ge1 e.symm
      rw [← hHB]
      clear hHB w1 w2 w3 w4 w5 w6
      have o1B := xAB _ _ o1A
      obtain ⟨odl, hodl⟩ : ∃ odl : List V, odl = [.non, .int 5, .str "", .ref t1, .ref q2, .ref q3, .ref q4, .ref q6, .bl true] ++ [.ref r1, .ref r2, .ref r3, .ref r4] := ⟨_, rfl⟩
      rw [← hodl]
      have lodl : odl.length = 13 := by rw [hodl]; rfl
      obtain ⟨HC, hHC⟩ : ∃ HC, HC = upd HB o1 (.lst odl) := ⟨_, rfl⟩
      rw [← hHC]
      have o1C : HC o1 = some (.lst odl) := by rw [hHC, upd_same]
      have x7C : Ext H7 HC := by
        rw [hHC]
        exact (xA.trans xAB).over o1n
      have tC : ∀ {q : Addr} {ys : List V}, HB q = some (.tup ys) → SqT K HC q ys := fun {q ys} h => SqT.of (by rw [hHC, upd_ne (ne_of h o1B (fun z => nomatch z))]; exact h)
      have c1 := tC (xAB _ _ s1)
      have c2 := tC (xAB _ _ s2)
      have c3 := tC (xAB _ _ s3)
      have c4 := tC (xAB _ _ s4)
      have c6 : HC q6 = some (.dK []) := by
        rw [hHC, upd_ne (ne_of (xAB _ _ s6) o1B (fun z => nomatch z))]
        exact xAB _ _ s6
      have d1 := tC v1
      have d2 := tC v2
      have d3 : SqL K HC e1 [.str "below"] := SqL.of (by rw [hHC, upd_ne ne1]; exact v3)
      have d4 := tC v4
      have d5 := tC v5
      have odd2 : ∀ x, x ∈ odl → FactOf K HC (a0 :: fo') th x false := fun x hx => by
        rw [hodl] at hx
        simp only [List.cons_append, List.nil_append, List.mem_cons, List.not_mem_nil, or_false] at hx
        rcases hx with rfl | rfl | rfl | rfl | rfl | rfl | rfl | rfl | rfl | rfl | rfl | rfl | rfl
        · exact no_kit (.base .non) (by decide +kernel) (by decide +kernel)
        · exact no_kit (.base (.int 5)) (by decide +kernel) (by decide +kernel)
        · exact no_kit (.base (.str _)) (by decide +kernel) (by decide +kernel)
        · exact no_len (.inr c1) (by decide)
        · exact no_fact (.inr c2) (.inl rfl) (.inl rfl) (.inl rfl) fb_eq
        · exact no_fact (.inr c3) (.inl rfl) (.inl rfl) (.inl rfl) (fb_p (inV_not nozz))
        · exact no_fact (.inr c4) (.inl rfl) (.inl rfl) (.inl rfl) (fb_o (inV_not nozz))
        · exact no_kit (.base (.dK c6)) (by decide +kernel) (by decide +kernel)
        · exact no_kit (.base (.bl true)) (by decide +kernel) (by decide +kernel)
        · exact no_fact (.inr d1) (.inl rfl) (.inl rfl) (.inl rfl) (fb_w (inV_not (by decide)))
        · exact no_fact (.inr d2) (.inl rfl) (.inl rfl) (.inl rfl) (fb_w (inV_not (by decide)))
        · exact no_fact (.inr d4) (.inr (.inl ⟨e1, _, rfl, .inl d3⟩)) (.inl rfl) (.inl rfl) (fb_w (noText_inV (K := K) (H := HC) (.inl ⟨e1, _, rfl, .inl d3⟩) _))
        · exact no_len (.inr d5) (by show ¬ (4 = 3); decide)
      have zsz : (a0 :: fo' ++ th).length < sizeLine := by rw [sizeLine_eq]; omega
      refine ⟨_, rfl, o1, rfl, ⟨_, SqL.of o1C⟩, fun D hD => ?_⟩
      refine lc_list (K := K) (a := o1) (xs := odl) (fun j H' => Ext HC H' ∧ H' D = some (.lst (List.replicate j (V.int 0)))) ⟨Ext.upd hD, upd_same⟩ (fun j H' _ z => SqL.of (z.1 _ _ o1C)) ?_ ?_
      · intro j v H8 hv ⟨x8, d8⟩
        have jlen : j < odl.length := (List.getElem?_eq_some_iff.mp hv).1
        refine ⟨rfl, ?_⟩
        refine lcYes ?_
        refine ⟨_, rfl, _, rfl, h, v, a0 :: fo', th, rfl, hou7.ext (x7C.trans x8), nd, zsz, (odd2 v (List.mem_of_getElem? hv)).ext x8, fun H9 x9 => ⟨_, x9 _ _ d8, ?_, ?_, ?_⟩⟩
        · rw [List.length_replicate, sizeLine_eq]; omega
        · exact (x8.trans x9).over hD
        · rw [upd_same, List.replicate_succ']
      · intro H8 ⟨x8, d8⟩
        rw [lodl] at d8
        have o8 := x8 _ _ o1C
        refine ⟨Nat.le_of_ble_eq_true rfl, fun z hz => ⟨_, rfl, _, _, rfl, .inl ⟨_, SqL.of (Ext.upd hz _ _ o8), rfl⟩, ?_⟩⟩
        rw [lodl]
        refine ⟨z, _, _, rfl, rfl, upd_same, by decide, by decide, by decide, fun z2 hz2 => ?_⟩
        have y1 := Ext.upd (o := .lst [.int 0]) hz
        have y2 := Ext.upd (o := .lst (List.replicate ((13 : Nat) : Int).toNat [V.int 0]).flatten) hz2
        have e13 : (List.replicate ((13 : Nat) : Int).toNat [V.int 0]).flatten = List.replicate 13 (V.int 0) := rfl
        refine ⟨.list (List.replicate 13 (.int 0)), .list (List.replicate 13 (.int 0)), .lst (SqL.of ((y1.trans y2) _ _ d8)) (zeros_dp 13), .lst (SqL.of upd_same) (by rw [e13]; exact zeros_dp 13), zeros_shaped 13, zeros_shaped 13, _, rfl, ?_⟩
        have ee : PyData.eqv (.list (List.replicate 13 (.int 0))) (.list (List.replicate 13 (.int 0))) = true := by decide +kernel
        rw [ee]
        exact ⟨_, _, _, _, _, _, _, _, _, _, _, _, _, rfl, x07.trans (x7C.trans (x8.trans (y1.trans y2)))⟩
end
end My

namespace My
open PySem PySem.Spec PyProof.Rows L2 He
/-! ### what is looked up in the written part, as truths -/
def oexB (K : PySem.W.Frag) (C : Addr) : Bool := (match K.lookup C with
    | some ⟨.type t, _, .cls cd, sl⟩ => decide (t = "type") && (match cd.mro, sl.toList with
      | .ref C' :: bm, [_, _, _, _, some (.builtin n), _] => decide (C' = C) && (decide (n = "ValueError.__new__") && (!cd.hasDel && (cd.hasDict && PySem.HandSPX.refsVE bm)))
      | _, _ => false)
    | _ => false) && (decide (PySem.W.findIn K (.ref C) "__setattr__" = some (some (.builtin "object.__setattr__"))) && (decide (PySem.W.subIn K (.ref C) (.type "BaseException") = some true) &&
    (decide (PySem.W.typeIn K (.ref C) = some (.type "type")) && PySem.W.keepIn K (.ref C))))
theorem oexB_ok {K : PySem.W.Frag} {C : Addr} (h : oexB K C = true) : OexC K C := by
  obtain ⟨h1, h⟩ := ba h
  obtain ⟨h2, h⟩ := ba h
  obtain ⟨h3, h⟩ := ba h
  obtain ⟨h4, h5⟩ := ba h
  refine ⟨?_, of_decide_eq_true h2, of_decide_eq_true h3, of_decide_eq_true h4, h5⟩
  split at h1
  · rename_i t dd cd sl ho
    obtain ⟨k1, k2⟩ := ba h1
    obtain rfl := of_decide_eq_true k1
    split at k2
    · rename_i C' bm k0 k1 k2' k3 n k5 hm hs
      obtain ⟨e1, k2⟩ := ba k2
      obtain ⟨e2, k2⟩ := ba k2
      obtain ⟨e3, k2⟩ := ba k2
      obtain ⟨e4, e5⟩ := ba k2
      obtain rfl := of_decide_eq_true e1
      obtain rfl := of_decide_eq_true e2
      obtain ⟨nm, bs, mro, ns, qn, hd, sn, sub, ab, col, del⟩ := cd
      dsimp only at hm e3 e4
      subst hm
      obtain rfl : hd = true := e4
      obtain rfl : del = false := by
        cases del
        · rfl
        · cases e3
      have hsl : sl = #[k0, k1, k2', k3, some (.builtin "ValueError.__new__"), k5] := by
        obtain ⟨l⟩ := sl
        simp only at hs
        rw [hs]
      subst hsl
      exact ⟨nm, qn, ns, bs, bm, sn, sub, ab, col, dd, k0, k1, k2', k3, k5, ho, e5⟩
    · cases k2
  · cases h1
def kitCB (K : PySem.W.Frag) (C : Addr) : Bool := (PySem.W.clsIn K C).isSome && (decide (PySem.W.findIn K (.ref C) "__class__" = some (some (.builtin "object.__class__"))) &&
  (decide (PySem.W.specialIn K (.builtin "object.__class__") "__get__" = some (some (.builtin "getset_descriptor.__get__"))) && (decide (PySem.W.takesIn K (.builtin "object.__class__") = some true) && decide (PySem.W.mroIn K C (.type "object") = some true))))
theorem kitCB_ok {K : PySem.W.Frag} {C : Addr} (h : kitCB K C = true) : KitC K C := by
  obtain ⟨h1, h⟩ := ba h
  obtain ⟨h2, h⟩ := ba h
  obtain ⟨h3, h⟩ := ba h
  obtain ⟨h4, h5⟩ := ba h
  exact ⟨h1, of_decide_eq_true h2, of_decide_eq_true h3, of_decide_eq_true h4, of_decide_eq_true h5⟩
/-- a class with one field -/
def errB (K : PySem.W.Frag) (x f : Str) : Bool := oexB K (ga K x) && (xfB K (ga K x) && (kitCB K (ga K x) && (decide (PySem.W.findIn K (.ref (ga K x)) "__init__" = some (some (.ref (ma K (ga K x) "__init__")))) &&
  (decide (PySem.W.typeIn K (.ref (ma K (ga K x) "__init__")) = some (.type "function")) && decide (PySem.W.findIn K (.ref (ga K x)) f = some none)))))
theorem errB_ok {K : PySem.W.Frag} {mg : Str → Option Value} {x f : Str} (g : mg x = some (.ref (ga K x))) (h : errB K x f = true) : ErrC K mg x f (ga K x) (ma K (ga K x) "__init__") := by
  obtain ⟨h1, h⟩ := ba h
  obtain ⟨h2, h⟩ := ba h
  obtain ⟨h3, h⟩ := ba h
  obtain ⟨h4, h⟩ := ba h
  obtain ⟨h5, h6⟩ := ba h
  exact ⟨g, oexB_ok h1, xfB_ok h2, kitCB_ok h3, of_decide_eq_true h4, of_decide_eq_true h5, of_decide_eq_true h6⟩
/-! ### the look at the head: facts, defs, and one more truth -/
abbrev AlM : Type := AlD × Bool
def seenM (fa : List Fa) (fn : List DefD) (ex : PySem.W.Frag → Bool) (K : PySem.W.Frag) : AlM := (obsD fa fn K, ex K)
def seenMG (n : Nat) (fa : List Fa) (fn : List DefD) (ex : PySem.W.Frag → Bool) (g : Addr → Option Obj) : AlM := seenM fa fn ex (frG g (asD g n))
def hookM (n : Nat) (fa : List Fa) (fn : List DefD) (ex : PySem.W.Frag → Bool) : PySem.W.Hook where
  α := AlM
  obs := fun s => seenMG n fa fn ex s.heap.get?
  val := fun _ => (valD fn, true)
  says := fun _ h => ∃ K : PySem.W.Frag, K.In h ∧ (SaysD fa fn K ∧ ex K = true)
  of := fun _ _ e => ⟨_, frG_in, congrArg (fun z : AlM => z.1) e, congrArg (fun z : AlM => z.2) e⟩
  keeps := fun _ _ _ ⟨K, hK, c⟩ k => ⟨K, PySem.W.Frag.In.keeps hK k, c⟩
theorem seenMG_eq {n : Nat} {fa : List Fa} {fn : List DefD} {ex : PySem.W.Frag → Bool} {g : Addr → Option Obj} {s : Shared} (h : ∀ a, g a = s.heap.get? a) : seenMG n fa fn ex g = (hookM n fa fn ex).obs s := by
  have e : g = s.heap.get? := funext h
  rw [e] <;> rfl


def aDef (K : PySem.W.Frag) : Addr := dflAt ("House", some "__init__") 0 K
def d_BadHouse_init : DefD := ⟨("BadHouse", some "__init__"), "__init__", "BadHouse.__init__", defArgs (inCls (top 2) 0), defBody (inCls (top 2) 0), defScope (inCls (top 2) 0), [], []⟩
def d_BadFact_init : DefD := ⟨("BadFact", some "__init__"), "__init__", "BadFact.__init__", defArgs (inCls (top 3) 0), defBody (inCls (top 3) 0), defScope (inCls (top 3) 0), [], []⟩
def d_is_list : DefD := ⟨("is_list", none), "is_list", "is_list", defArgs (top 7), defBody (top 7), defScope (top 7), [], []⟩
def d_is_name : DefD := ⟨("is_name", none), "is_name", "is_name", defArgs (top 8), defBody (top 8), defScope (top 8), [], []⟩
def d_is_fact : DefD := ⟨("is_fact", none), "is_fact", "is_fact", defArgs (top 11), defBody (top 11), defScope (top 11), [], []⟩
def d_as_told : DefD := ⟨("as_told", none), "as_told", "as_told", defArgs (top 12), defBody (top 12), defScope (top 12), [], []⟩
def d_against : DefD := ⟨("against", none), "against", "against", defArgs (top 13), defBody (top 13), defScope (top 13), [], []⟩
def d_wrong_name : DefD := ⟨("wrong_name", none), "wrong_name", "wrong_name", defArgs (top 15), defBody (top 15), defScope (top 15), [], []⟩
def d_wrong_part : DefD := ⟨("wrong_part", none), "wrong_part", "wrong_part", defArgs (top 16), defBody (top 16), defScope (top 16), [], []⟩
def d_House_init : DefD := ⟨("House", some "__init__"), "__init__", "House.__init__", defArgs (inCls (top 17) 0), defBody (inCls (top 17) 0), defScope (inCls (top 17) 0), [.adr aDef], []⟩
def d_House_len : DefD := ⟨("House", some "__len__"), "__len__", "House.__len__", defArgs (inCls (top 17) 1), defBody (inCls (top 17) 1), defScope (inCls (top 17) 1), [], []⟩
def d_House_contains : DefD := ⟨("House", some "__contains__"), "__contains__", "House.__contains__", defArgs (inCls (top 17) 2), defBody (inCls (top 17) 2), defScope (inCls (top 17) 2), [], []⟩
def d_House_iter : DefD := ⟨("House", some "__iter__"), "__iter__", "House.__iter__", defArgs (inCls (top 17) 3), defBody (inCls (top 17) 3), defScope (inCls (top 17) 3), [], []⟩
def d_House_eq : DefD := ⟨("House", some "__eq__"), "__eq__", "House.__eq__", defArgs (inCls (top 17) 4), defBody (inCls (top 17) 4), defScope (inCls (top 17) 4), [], []⟩
def d__law_cell : DefD := ⟨("_law_cell", none), "_law_cell", "_law_cell", defArgs (top 19), defBody (top 19), defScope (top 19), [], []⟩
def d__law_pool : DefD := ⟨("_law_pool", none), "_law_pool", "_law_pool", defArgs (top 20), defBody (top 20), defScope (top 20), [], []⟩
def d__law_take : DefD := ⟨("_law_take", none), "_law_take", "_law_take", defArgs (top 21), defBody (top 21), defScope (top 21), [], []⟩
def d__law_names : DefD := ⟨("_law_names", none), "_law_names", "_law_names", defArgs (top 22), defBody (top 22), defScope (top 22), [], []⟩
def d__law_house : DefD := ⟨("_law_house", none), "_law_house", "_law_house", defArgs (top 23), defBody (top 23), defScope (top 23), [], []⟩
def d__law_goes_round : DefD := ⟨("_law_goes_round", none), "_law_goes_round", "_law_goes_round", defArgs (top 24), defBody (top 24), defScope (top 24), [], []⟩
def d__law_trees : DefD := ⟨("_law_trees", none), "_law_trees", "_law_trees", defArgs (top 25), defBody (top 25), defScope (top 25), [], []⟩
def d__law_above : DefD := ⟨("_law_above", none), "_law_above", "_law_above", defArgs (top 26), defBody (top 26), defScope (top 26), [], []⟩
def d__law_holds : DefD := ⟨("_law_holds", none), "_law_holds", "_law_holds", defArgs (top 27), defBody (top 27), defScope (top 27), [], []⟩
def d__law_keep : DefD := ⟨("_law_keep", none), "_law_keep", "_law_keep", defArgs (top 28), defBody (top 28), defScope (top 28), [], []⟩
def d__law_every : DefD := ⟨("_law_every", none), "_law_every", "_law_every", defArgs (top 29), defBody (top 29), defScope (top 29), [], []⟩
def d__law_due : DefD := ⟨("_law_due", none), "_law_due", "_law_due", defArgs (top 30), defBody (top 30), defScope (top 30), [], []⟩
def d__law_refused : DefD := ⟨("_law_refused", none), "_law_refused", "_law_refused", defArgs (top 31), defBody (top 31), defScope (top 31), [], []⟩
def d_law : DefD := ⟨("law", none), "law", "law", defArgs (top 32), defBody (top 32), defScope (top 32), [], []⟩
def fn : List DefD := ([d_BadHouse_init, d_BadFact_init, d_is_list, d_is_name, d_is_fact, d_as_told, d_against, d_wrong_name, d_wrong_part, d_House_init, d_House_len, d_House_contains, d_House_iter, d_House_eq] : List DefD) ++ ([d__law_cell, d__law_pool, d__law_take, d__law_names, d__law_house, d__law_goes_round, d__law_trees, d__law_above, d__law_holds, d__law_keep, d__law_every, d__law_due, d__law_refused, d_law] : List DefD)
def fa : List Fa := ([.glo "BadHouse", .glo "BadFact", .glo "is_list", .glo "is_name", .glo "is_fact", .glo "as_told", .glo "against", .glo "wrong_name", .glo "wrong_part", .glo "House", .glo "_law_cell", .glo "_law_pool", .glo "_law_take", .glo "_law_names"] : List Fa) ++ ([.glo "_law_house", .glo "_law_goes_round", .glo "_law_trees", .glo "_law_above", .glo "_law_holds", .glo "_law_keep", .glo "_law_every", .glo "_law_due", .glo "_law_refused", .glo "law", .glo "WORDS", .free "int", .free "len", .free "isinstance"] : List Fa) ++ ([.free "range", .free "all", .free "list", .free "tuple", .free "str", .free "enumerate", .free "iter", .free "max", .free "any", .free "dict", .int "LONGEST" 8, .str "LETTERS" letters, .cls "House", .noat "House" "folders"] : List Fa) ++ ([.noat "House" "things", .noat "House" "nodes", .meth "House" "__len__", .meth "House" "__contains__", .meth "House" "__iter__", .meth "House" "__eq__", .mkr "House", .exm "BadFact" "BadFact" true] : List Fa)
def tyL : List String := ["NoneType", "list", "tuple", "int", "str"]
def dflB (K : PySem.W.Frag) : Bool := match K.lookup (aDef K) with
  | some ⟨.type t, _, .seq its _, _⟩ => decide (t = "tuple") && decide (its.toList = [])
  | _ => false
def strsB : List PySem.Value → List PySem.Str → Bool
  | [], [] => true
  | .str a _ :: us, z :: zs => decide (a = z) && strsB us zs
  | _, _ => false
theorem strsB_ok : ∀ {us : List PySem.Value} {zs : List PySem.Str}, strsB us zs = true → Vals (zs.map V.str) us
  | [], [], _ => .nil
  | .str a t :: us, z :: zs, h => by
    obtain ⟨h1, h2⟩ := ba h
    obtain rfl := of_decide_eq_true h1
    exact .cons ⟨t, rfl⟩ (strsB_ok h2)
def worB (K : PySem.W.Frag) : Bool := match K.lookup (ga K "WORDS") with
  | some ⟨.type t, _, .seq its _, _⟩ => decide (t = "tuple") && strsB its.toList wordsS
  | _ => false
def houB (K : PySem.W.Frag) : Bool := errB K "BadHouse" "index" && (kitCB K (ga K "House") && (decide (PySem.W.kitOne K (.ref (ga K "House")) (.ref (ga K "House")) = some true) && (decide (PySem.W.findIn K (.ref (ga K "House")) "__ne__" = some (some (.builtin "object.__ne__"))) &&
  (decide (PySem.W.subIn K (.ref (ga K "House")) (.type "str") = some false) && ((tyL.all fun T => PySem.W.notFirst K (ga K "House") (.type T) && decide (PySem.W.kitOne K (.type T) (.ref (ga K "House")) = some false)) && (dflB K && (errB K "BadFact" "index" && worB K)))))))
theorem dflB_ok {K : PySem.W.Frag} (h : dflB K = true) : ∀ H, SqT K H (aDef K) [] := fun H => by
  unfold dflB at h
  split at h
  · rename_i t dd its n sl ho
    obtain ⟨h1, h2⟩ := ba h
    obtain rfl := of_decide_eq_true h1
    have h3 : its.toList = [] := of_decide_eq_true h2
    refine .inr ⟨_, its, n, ho, rfl, rfl, ?_, by rw [h3]; exact .nil⟩
    rw [← Array.length_toList, h3]
    exact Nat.zero_le _
  · cases h
theorem worB_ok {K : PySem.W.Frag} (h : worB K = true) : ∀ H, SqT K H (ga K "WORDS") (wordsS.map V.str) := fun H => by
  unfold worB at h
  split at h
  · rename_i t dd its n sl ho
    obtain ⟨h1, h2⟩ := ba h
    obtain rfl := of_decide_eq_true h1
    have h3 := strsB_ok h2
    refine .inr ⟨_, its, n, ho, rfl, rfl, ?_, h3⟩
    rw [← Array.length_toList, ← h3.length]
    exact Nat.le_of_ble_eq_true rfl
  · cases h

def loose : List PySem.Str := (["HouseError", "BadHouse", "BadFact", "is_list", "is_name", "is_fact", "as_told", "against", "wrong_name", "wrong_part", "House", "_law_cell", "_law_pool", "_law_take"] : List PySem.Str) ++ (["_law_names", "_law_house", "_law_goes_round", "_law_trees", "_law_above", "_law_holds", "_law_keep", "_law_every", "_law_due", "_law_refused", "law", "WORDS", "LETTERS", "LONGEST"] : List PySem.Str) ++ (["int", "len", "isinstance", "range", "all", "list", "tuple", "str", "enumerate", "iter", "max", "any", "dict"] : List PySem.Str)
abbrev Rw : PySem.W.OpenRow := PySem.W.OpenLaw.row PySem.Challenge.rw_whatopened_k08_whole_facts_against
abbrev hk : PySem.W.Hook := hookM 5 fa fn houB
def ob (s : PySem.W.SharedT) : AlM := seenMG 5 fa fn houB (HandSHeadRun.getT s)
theorem ob_eq (s : PySem.W.SharedT) : ob s = hk.obs s.abs := seenMG_eq (HandSHeadRun.getT_eq s)
end My

namespace My
open PySem PySem.Spec PyProof.Rows L2 He
section
variable {P : Program} {w : World} {K : PySem.W.Frag} {h : Heap} {mg : Str → Option Value} {base : Heap}
theorem facts {f : Addr} (X : K.In h) (G : h.Ns mainGlobals mg) (hfa : mg ("law" : Str) = some (.ref f)) (c : SaysD fa fn K) (e : houB K = true) :
    ∃ fd : FuncData, (∀ (s : Shared) (v : Value), BindsTo s fd ⟨[v], []⟩ [("_law_script", v)]) ∧ ∀ base : Heap, K.In base → base.Ns mainGlobals mg → FnOk P w K mg base CX0 8 f fd ["_law_script"] (spLaw K) := by
  obtain ⟨fd_BadHouse_init, F_BadHouse_init⟩ := c.def_ 0 (d := d_BadHouse_init) rfl
  obtain ⟨fd_BadFact_init, F_BadFact_init⟩ := c.def_ 1 (d := d_BadFact_init) rfl
  obtain ⟨fd_is_list, F_is_list⟩ := c.def_ 2 (d := d_is_list) rfl
  obtain ⟨fd_is_name, F_is_name⟩ := c.def_ 3 (d := d_is_name) rfl
  obtain ⟨fd_is_fact, F_is_fact⟩ := c.def_ 4 (d := d_is_fact) rfl
  obtain ⟨fd_as_told, F_as_told⟩ := c.def_ 5 (d := d_as_told) rfl
  obtain ⟨fd_against, F_against⟩ := c.def_ 6 (d := d_against) rfl
  obtain ⟨fd_wrong_name, F_wrong_name⟩ := c.def_ 7 (d := d_wrong_name) rfl
  obtain ⟨fd_wrong_part, F_wrong_part⟩ := c.def_ 8 (d := d_wrong_part) rfl
  obtain ⟨fd_House_init, F_House_init⟩ := c.def_ 9 (d := d_House_init) rfl
  obtain ⟨fd_House_len, F_House_len⟩ := c.def_ 10 (d := d_House_len) rfl
  obtain ⟨fd_House_contains, F_House_contains⟩ := c.def_ 11 (d := d_House_contains) rfl
  obtain ⟨fd_House_iter, F_House_iter⟩ := c.def_ 12 (d := d_House_iter) rfl
  obtain ⟨fd_House_eq, F_House_eq⟩ := c.def_ 13 (d := d_House_eq) rfl
  obtain ⟨fd__law_cell, F__law_cell⟩ := c.def_ 14 (d := d__law_cell) rfl
  obtain ⟨fd__law_pool, F__law_pool⟩ := c.def_ 15 (d := d__law_pool) rfl
  obtain ⟨fd__law_take, F__law_take⟩ := c.def_ 16 (d := d__law_take) rfl
  obtain ⟨fd__law_names, F__law_names⟩ := c.def_ 17 (d := d__law_names) rfl
  obtain ⟨fd__law_house, F__law_house⟩ := c.def_ 18 (d := d__law_house) rfl
  obtain ⟨fd__law_goes_round, F__law_goes_round⟩ := c.def_ 19 (d := d__law_goes_round) rfl
  obtain ⟨fd__law_trees, F__law_trees⟩ := c.def_ 20 (d := d__law_trees) rfl
  obtain ⟨fd__law_above, F__law_above⟩ := c.def_ 21 (d := d__law_above) rfl
  obtain ⟨fd__law_holds, F__law_holds⟩ := c.def_ 22 (d := d__law_holds) rfl
  obtain ⟨fd__law_keep, F__law_keep⟩ := c.def_ 23 (d := d__law_keep) rfl
  obtain ⟨fd__law_every, F__law_every⟩ := c.def_ 24 (d := d__law_every) rfl
  obtain ⟨fd__law_due, F__law_due⟩ := c.def_ 25 (d := d__law_due) rfl
  obtain ⟨fd__law_refused, F__law_refused⟩ := c.def_ 26 (d := d__law_refused) rfl
  obtain ⟨fd_law, F_law⟩ := c.def_ 27 (d := d_law) rfl
  have b_is_list : Binds K fd_is_list ["thing"] [] := FunD.bindsN F_is_list fun _ _ _ _ _ _ us hl => match us, hl with | [_], _ => rfl
  have b_is_name : Binds K fd_is_name ["thing"] [] := FunD.bindsN F_is_name fun _ _ _ _ _ _ us hl => match us, hl with | [_], _ => rfl
  have b_is_fact : Binds K fd_is_fact ["house", "thing"] [] := FunD.bindsN F_is_fact fun _ _ _ _ _ _ us hl => match us, hl with | [_, _], _ => rfl
  have b_as_told : Binds K fd_as_told ["house", "fact"] [] := FunD.bindsN F_as_told fun _ _ _ _ _ _ us hl => match us, hl with | [_, _], _ => rfl
  have b_against : Binds K fd_against ["house", "fact"] [] := FunD.bindsN F_against fun _ _ _ _ _ _ us hl => match us, hl with | [_, _], _ => rfl
  have b_wrong_name : Binds K fd_wrong_name ["things"] [] := FunD.bindsN F_wrong_name fun _ _ _ _ _ _ us hl => match us, hl with | [_], _ => rfl
  have b_wrong_part : Binds K fd_wrong_part ["folders", "things"] [] := FunD.bindsN F_wrong_part fun _ _ _ _ _ _ us hl => match us, hl with | [_, _], _ => rfl
  have b_House_len : Binds K fd_House_len ["self"] [] := FunD.bindsN F_House_len fun _ _ _ _ _ _ us hl => match us, hl with | [_], _ => rfl
  have b_House_contains : Binds K fd_House_contains ["self", "x"] [] := FunD.bindsN F_House_contains fun _ _ _ _ _ _ us hl => match us, hl with | [_, _], _ => rfl
  have b_House_iter : Binds K fd_House_iter ["self"] [] := FunD.bindsN F_House_iter fun _ _ _ _ _ _ us hl => match us, hl with | [_], _ => rfl
  have b_House_eq : Binds K fd_House_eq ["self", "other"] [] := FunD.bindsN F_House_eq fun _ _ _ _ _ _ us hl => match us, hl with | [_, _], _ => rfl
  have b__law_cell : Binds K fd__law_cell ["_law_script", "_law_k"] [] := FunD.bindsN F__law_cell fun _ _ _ _ _ _ us hl => match us, hl with | [_, _], _ => rfl
  have b__law_pool : Binds K fd__law_pool ["_law_grain"] [] := FunD.bindsN F__law_pool fun _ _ _ _ _ _ us hl => match us, hl with | [_], _ => rfl
  have b__law_take : Binds K fd__law_take ["_law_pool_here", "_law_many"] [] := FunD.bindsN F__law_take fun _ _ _ _ _ _ us hl => match us, hl with | [_, _], _ => rfl
  have b__law_names : Binds K fd__law_names ["_law_pool_here", "_law_many"] [] := FunD.bindsN F__law_names fun _ _ _ _ _ _ us hl => match us, hl with | [_, _], _ => rfl
  have b__law_house : Binds K fd__law_house ["_law_pool_here", "_law_most", "_law_more"] [] := FunD.bindsN F__law_house fun _ _ _ _ _ _ us hl => match us, hl with | [_, _, _], _ => rfl
  have b__law_goes_round : Binds K fd__law_goes_round ["_law_ups", "_law_node", "_law_folder"] [] := FunD.bindsN F__law_goes_round fun _ _ _ _ _ _ us hl => match us, hl with | [_, _, _], _ => rfl
  have b__law_trees : Binds K fd__law_trees ["_law_folders", "_law_things"] [] := FunD.bindsN F__law_trees fun _ _ _ _ _ _ us hl => match us, hl with | [_, _], _ => rfl
  have b__law_above : Binds K fd__law_above ["_law_ups", "_law_node"] [] := FunD.bindsN F__law_above fun _ _ _ _ _ _ us hl => match us, hl with | [_, _], _ => rfl
  have b__law_holds : Binds K fd__law_holds ["_law_ups", "_law_fact"] [] := FunD.bindsN F__law_holds fun _ _ _ _ _ _ us hl => match us, hl with | [_, _], _ => rfl
  have b__law_keep : Binds K fd__law_keep ["_law_ups", "_law_rows"] [] := FunD.bindsN F__law_keep fun _ _ _ _ _ _ us hl => match us, hl with | [_, _], _ => rfl
  have b__law_every : Binds K fd__law_every ["_law_folders", "_law_things"] [] := FunD.bindsN F__law_every fun _ _ _ _ _ _ us hl => match us, hl with | [_, _], _ => rfl
  have b__law_due : Binds K fd__law_due ["_law_folders", "_law_fact"] [] := FunD.bindsN F__law_due fun _ _ _ _ _ _ us hl => match us, hl with | [_, _], _ => rfl
  have b__law_refused : Binds K fd__law_refused ["_law_house_here", "_law_thing"] [] := FunD.bindsN F__law_refused fun _ _ _ _ _ _ us hl => match us, hl with | [_, _], _ => rfl
  have q := hfa.symm.trans (glo_ok X G (c.fact 23 (f := .glo "law") rfl))
  cases q
  have b := FunD.bindsA (ps := ["_law_script"]) F_law fun _ _ _ _ _ _ us hl => match us, hl with | [_], _ => rfl
  refine ⟨fd_law, fun s v => b s [v] rfl, fun base XB GB => ?_⟩
  obtain ⟨eB, e1⟩ := ba e
  obtain ⟨eK, e2⟩ := ba e1
  obtain ⟨eC, e3⟩ := ba e2
  obtain ⟨eN, e4⟩ := ba e3
  obtain ⟨eS, e5⟩ := ba e4
  obtain ⟨eT, e6⟩ := ba e5
  obtain ⟨eD, e7⟩ := ba e6
  obtain ⟨eF, eW⟩ := ba e7
  have KC := kitCB_ok eK
  have nb : ∀ T, T ∈ ["NoneType", "list", "tuple", "int", "str"] → PySem.W.notFirst K (ga K "House") (.type T) = true ∧ PySem.W.kitOne K (.type T) (.ref (ga K "House")) = some false := fun T hT => by
    obtain ⟨k1, k2⟩ := ba (List.all_eq_true.mp eT T hT)
    exact ⟨k1, of_decide_eq_true k2⟩
  have EB : ∀ base, Er P w K mg base "BadHouse" "index" (ga K "BadHouse") := fun base => by
    have T := errB_ok (glo_ok X G (c.fact 0 (f := .glo "BadHouse") rfl)) eB
    have S : FnScope ["self", "index"] ["self", "index"] (defScope s_BadHouse_init) := ⟨rfl, rfl, rfl, by decide +kernel, rfl, by decide +kernel, by decide +kernel⟩
    refine ⟨_, fd_BadHouse_init, T, ok_init (st := s_BadHouse_init) (qual := "BadHouse.__init__") T F_BadHouse_init S ⟨_, _, _, _, rfl⟩ (by decide) (by decide), FunD.bindsN F_BadHouse_init fun _ _ _ _ _ _ us hl => match us, hl with | [_, _], _ => rfl, fun s u v _ => ?_⟩
    obtain ⟨oc, od, dV, kV, doc, pm, an, cdv, ct, osl, rfl, lk, hcd, hD, hK⟩ := F_BadHouse_init.ex
    rcases hD with ⟨_, rfl⟩ | ⟨z, _⟩
    · exact .of_eq rfl
    · exact absurd rfl z
  have EF : ∀ base, Er P w K mg base "BadFact" "index" (ga K "BadFact") := fun base => by
    have T := errB_ok (glo_ok X G (c.fact 1 (f := .glo "BadFact") rfl)) eF
    have S : FnScope ["self", "index"] ["self", "index"] (defScope s_BadFact_init) := ⟨rfl, rfl, rfl, by decide +kernel, rfl, by decide +kernel, by decide +kernel⟩
    refine ⟨_, fd_BadFact_init, T, ok_init (st := s_BadFact_init) (qual := "BadFact.__init__") T F_BadFact_init S ⟨_, _, _, _, rfl⟩ (by decide) (by decide), FunD.bindsN F_BadFact_init fun _ _ _ _ _ _ us hl => match us, hl with | [_, _], _ => rfl, fun s u v _ => ?_⟩
    obtain ⟨oc, od, dV, kV, doc, pm, an, cdv, ct, osl, rfl, lk, hcd, hD, hK⟩ := F_BadFact_init.ex
    rcases hD with ⟨_, rfl⟩ | ⟨z, _⟩
    · exact .of_eq rfl
    · exact absurd rfl z
  have T : HouC K (ga K "House") := ⟨cls_ok (c.fact 40 (f := .cls "House") rfl), noat_ok (c.fact 41 (f := .noat "House" "folders") rfl), noat_ok (c.fact 42 (f := .noat "House" "things") rfl), noat_ok (c.fact 43 (f := .noat "House" "nodes") rfl), KC.at_, KC.sp, KC.tk, KC.ob⟩
  have mt : ∀ m, Meth K (ga K "House") m (ma K (ga K "House") m) → OwnM K (ga K "House") m (ma K (ga K "House") m) := fun m z => ⟨z.at_, z.fn⟩
  obtain ⟨tL, gLL⟩ := str_ok X G (c.fact 39 (f := .str "LETTERS" letters) rfl)
  obtain ⟨t8, g88⟩ := int_ok X G (c.fact 38 (f := .int "LONGEST" 8) rfl)
  have IL : ∀ base, FnOk P w K mg base CX0 1 _ fd_is_list ["thing"] (spIsList K) := fun base => ok_isList F_is_list (free_ok X G (c.fact 27 (f := .free "isinstance") rfl)) (free_ok X G (c.fact 30 (f := .free "list") rfl)) (free_ok X G (c.fact 31 (f := .free "tuple") rfl))
  have WN : ∀ base, FnOk P w K mg base CX0 2 _ fd_wrong_name ["things"] (spWrongName K) := fun base => ok_wrongName F_wrong_name (ok_isName F_is_name (free_ok X G (c.fact 27 (f := .free "isinstance") rfl)) (free_ok X G (c.fact 32 (f := .free "str") rfl)) (free_ok X G (c.fact 26 (f := .free "len") rfl)) (free_ok X G (c.fact 29 (f := .free "all") rfl)) g88 gLL) (glo_ok X G (c.fact 3 (f := .glo "is_name") rfl)) F_is_name.kp b_is_name (free_ok X G (c.fact 33 (f := .free "enumerate") rfl))
  have WP : ∀ base, FnOk P w K mg base CX0 3 _ fd_wrong_part ["folders", "things"] (spWrongPart K) := fun base => ok_wrongPart F_wrong_part (IL base) (glo_ok X G (c.fact 2 (f := .glo "is_list") rfl)) F_is_list.kp b_is_list ((WN base).imp wn_imp) (glo_ok X G (c.fact 7 (f := .glo "wrong_name") rfl)) F_wrong_name.kp b_wrong_name (free_ok X G (c.fact 26 (f := .free "len") rfl))
  have HI : ∀ base, FnOk P w K mg base (L2.CX P w) 4 _ fd_House_init ["self", "folders", "things"] (spHInit K (ga K "House") (ga K "BadHouse")) := fun base => ok_hInit F_House_init T (WP base) (glo_ok X G (c.fact 8 (f := .glo "wrong_part") rfl)) F_wrong_part.kp b_wrong_part (EB base) (free_ok X G (c.fact 31 (f := .free "tuple") rfl))
  obtain ⟨d3, vd3, bI⟩ := FunD.binds1 (ps := ["self", "folders", "things"]) F_House_init 3 1 (by simp [DefD.dvs, d_House_init]) rfl fun T kV doc pm an cdv ct us its hu hi => by
    match us, hu, its, hi with
    | [_, _, _], _, [_], _ => exact ⟨_, rfl, rfl⟩
  obtain ⟨d2, vd2, bD⟩ := FunD.binds1 (ps := ["self", "folders", "things"]) F_House_init 2 0 (by simp [DefD.dvs, d_House_init]) rfl fun T kV doc pm an cdv ct us its hu hi => by
    match us, hu, its, hi with
    | [_, _], _, [_], _ => exact ⟨_, rfl, rfl⟩
  have nD : ∀ H, SqT K H (aDef K) [] := dflB_ok eD
  have e3' : d3 = [] := by
    cases vd3
    rfl
  subst e3'
  obtain ⟨u2, e2', ru2⟩ := vd2.one
  subst e2'
  have eu : u2 = .ref (aDef K) := ru2
  have HE : ∀ base, FnOk P w K mg base CX0 1 _ fd_House_eq ["self", "other"] (spHEq K (ga K "House")) := fun base => ok_hEq F_House_eq T (free_ok X G (c.fact 27 (f := .free "isinstance") rfl)) (glo_ok X G (c.fact 9 (f := .glo "House") rfl)) (of_decide_eq_true eC)
  let Z : HouseTxt P w K mg (ga K "House") (ga K "BadHouse") := {
    T := T, gH := (glo_ok X G (c.fact 9 (f := .glo "House") rfl)), kCC := of_decide_eq_true eC, ne := of_decide_eq_true eN, noStr := of_decide_eq_true eS, nb := nb,
    fI := _, fdI := fd_House_init, M := mkr_ok (c.fact 48 (f := .mkr "House") rfl), I := HI, bI := bI, uD := u2, bD := bD, aD := aDef K, eD := eu, tD := nD,
    fL := _, fdL := fd_House_len, mL := (mt _ (meth_ok (c.fact 44 (f := .meth "House" "__len__") rfl))), L := fun base => ok_hLen F_House_len T (free_ok X G (c.fact 26 (f := .free "len") rfl)), bL := b_House_len,
    fS := _, fdS := fd_House_contains, mS := (mt _ (meth_ok (c.fact 45 (f := .meth "House" "__contains__") rfl))), S := fun base => ok_hHas F_House_contains T (of_decide_eq_true eS) (mt _ (meth_ok (c.fact 47 (f := .meth "House" "__eq__") rfl))) (HE base) b_House_eq (nb "str" (by decide)).2, bS := b_House_contains,
    fW := _, fdW := fd_House_iter, mW := (mt _ (meth_ok (c.fact 46 (f := .meth "House" "__iter__") rfl))), W := fun base => ok_hIter F_House_iter T (free_ok X G (c.fact 34 (f := .free "iter") rfl)), bW := b_House_iter,
    fE := _, fdE := fd_House_eq, mE := (mt _ (meth_ok (c.fact 47 (f := .meth "House" "__eq__") rfl))), E := HE, bE := b_House_eq }
  have HL : ∀ base, Has P w K mg base 1 "is_list" ["thing"] (spIsList K) := fun base => ⟨_, fd_is_list, IL base, (glo_ok X G (c.fact 2 (f := .glo "is_list") rfl)), F_is_list.kp, b_is_list⟩
  have HF : Has P w K mg base 5 "is_fact" ["house", "thing"] (spIsFact K (ga K "House")) := ⟨_, fd_is_fact, ok_isFact F_is_fact Z (HL base) (free_ok X G (c.fact 26 (f := .free "len") rfl)) (glo_ok X G (c.fact 24 (f := .glo "WORDS") rfl)) (worB_ok eW), (glo_ok X G (c.fact 4 (f := .glo "is_fact") rfl)), F_is_fact.kp, b_is_fact⟩
  have HT : Has P w K mg base 1 "as_told" ["house", "fact"] (spAsTold K (ga K "House")) := ⟨_, fd_as_told, ok_asTold F_as_told Z, (glo_ok X G (c.fact 5 (f := .glo "as_told") rfl)), F_as_told.kp, b_as_told⟩
  have FA : FnOk P w K mg base (L2.CX P w) 6 _ fd_against ["house", "fact"] (spAgainst K (ga K "House") (ga K "BadFact")) := ok_against F_against Z (EF base) HF HT
  have hT : Has P w K mg base 1 "_law_take" ["_law_pool_here", "_law_many"] spTake := ⟨_, fd__law_take, ok_take F__law_take (free_ok X G (c.fact 25 (f := .free "int") rfl)), (glo_ok X G (c.fact 12 (f := .glo "_law_take") rfl)), F__law_take.kp, b__law_take⟩
  have TK : FnOk P w K mg base CX0 1 _ fd__law_take ["_law_pool_here", "_law_many"] spTake := ok_take F__law_take (free_ok X G (c.fact 25 (f := .free "int") rfl))
  have NM : FnOk P w K mg base CX0 2 _ fd__law_names ["_law_pool_here", "_law_many"] (spNames K) := ok_names F__law_names TK (glo_ok X G (c.fact 12 (f := .glo "_law_take") rfl)) F__law_take.kp b__law_take (free_ok X G (c.fact 28 (f := .free "range") rfl))
  have hGo : Has P w K mg base 1 "_law_goes_round" ["_law_ups", "_law_node", "_law_folder"] (spGoes K) := ⟨_, fd__law_goes_round, ok_goes F__law_goes_round (free_ok X G (c.fact 28 (f := .free "range") rfl)) (free_ok X G (c.fact 26 (f := .free "len") rfl)), (glo_ok X G (c.fact 15 (f := .glo "_law_goes_round") rfl)), F__law_goes_round.kp, b__law_goes_round⟩
  have hAb : Has P w K mg base 1 "_law_above" ["_law_ups", "_law_node"] (spAbove K) := ⟨_, fd__law_above, ok_above F__law_above (free_ok X G (c.fact 28 (f := .free "range") rfl)) (free_ok X G (c.fact 26 (f := .free "len") rfl)), (glo_ok X G (c.fact 17 (f := .glo "_law_above") rfl)), F__law_above.kp, b__law_above⟩
  have hHo : Has P w K mg base 2 "_law_holds" ["_law_ups", "_law_fact"] (spHolds K) := ⟨_, fd__law_holds, ok_holds F__law_holds hAb, (glo_ok X G (c.fact 18 (f := .glo "_law_holds") rfl)), F__law_holds.kp, b__law_holds⟩
  have E := errB_ok (glo_ok X G (c.fact 1 (f := .glo "BadFact") rfl)) eF
  exact ok_law F_law Z FA (glo_ok X G (c.fact 6 (f := .glo "against") rfl)) F_against.kp b_against
    ⟨_, fd__law_cell, ok_cell F__law_cell (free_ok X G (c.fact 26 (f := .free "len") rfl)), (glo_ok X G (c.fact 10 (f := .glo "_law_cell") rfl)), F__law_cell.kp, b__law_cell⟩
    ⟨_, fd__law_pool, ok_pool F__law_pool (free_ok X G (c.fact 25 (f := .free "int") rfl)), (glo_ok X G (c.fact 11 (f := .glo "_law_pool") rfl)), F__law_pool.kp, b__law_pool⟩ hT
    ⟨_, fd__law_house, ok_house F__law_house TK (glo_ok X G (c.fact 12 (f := .glo "_law_take") rfl)) F__law_take.kp b__law_take NM (glo_ok X G (c.fact 13 (f := .glo "_law_names") rfl)) F__law_names.kp b__law_names (free_ok X G (c.fact 35 (f := .free "max") rfl)), (glo_ok X G (c.fact 14 (f := .glo "_law_house") rfl)), F__law_house.kp, b__law_house⟩
    ⟨_, fd__law_trees, ok_trees F__law_trees hGo (free_ok X G (c.fact 37 (f := .free "dict") rfl)) (free_ok X G (c.fact 30 (f := .free "list") rfl)), (glo_ok X G (c.fact 16 (f := .glo "_law_trees") rfl)), F__law_trees.kp, b__law_trees⟩
    ⟨_, fd__law_every, ok_every F__law_every (free_ok X G (c.fact 28 (f := .free "range") rfl)) (free_ok X G (c.fact 26 (f := .free "len") rfl)), (glo_ok X G (c.fact 20 (f := .glo "_law_every") rfl)), F__law_every.kp, b__law_every⟩
    ⟨_, fd__law_due, ok_due F__law_due, (glo_ok X G (c.fact 21 (f := .glo "_law_due") rfl)), F__law_due.kp, b__law_due⟩
    ⟨_, fd__law_keep, ok_keep F__law_keep hHo (free_ok X G (c.fact 29 (f := .free "all") rfl)), (glo_ok X G (c.fact 19 (f := .glo "_law_keep") rfl)), F__law_keep.kp, b__law_keep⟩ hHo
    ⟨_, fd__law_refused, ok_refused F__law_refused FA (glo_ok X G (c.fact 6 (f := .glo "against") rfl)) F_against.kp b_against E.gl E.xf E.no (exm_ok (c.fact 49 (f := .exm "BadFact" "BadFact" true) rfl)), (glo_ok X G (c.fact 22 (f := .glo "_law_refused") rfl)), F__law_refused.kp, b__law_refused⟩
    (free_ok X G (c.fact 28 (f := .free "range") rfl)) (free_ok X G (c.fact 26 (f := .free "len") rfl)) (free_ok X G (c.fact 30 (f := .free "list") rfl)) (free_ok X G (c.fact 27 (f := .free "isinstance") rfl)) (free_ok X G (c.fact 36 (f := .free "any") rfl))
end
end My

namespace My
open PySem PySem.Spec PyProof.Rows L2 He
theorem run (w : World) : HandSHeadRun.RunEq Rw (PySem.W.view Rw.prog [32]) hk ob 8000 loose w := by
  intro os
  kernel_rfl
end My

open PySem PySem.W PySem.Calls PyProof.Rows
theorem PySem.Challenge.cw_whatopened_k08_whole_facts_against_holds : PySem.Challenge.rw_whatopened_k08_whole_facts_against.Holds := by
  w_on; o_law
  refine HandSHeadRun.head_any (r := OpenLaw.row PySem.Challenge.rw_whatopened_k08_whole_facts_against) (q := view (OpenLaw.row PySem.Challenge.rw_whatopened_k08_whole_facts_against).prog [32]) (H := My.hk) (ob := My.ob) (M := 8000) (loose := My.loose) (d := HandSHeadRun.topDef (OpenLaw.row PySem.Challenge.rw_whatopened_k08_whole_facts_against).prog 32) (kwd := []) My.ob_eq
    (by kernel_rfl) (fun s => by kernel_rfl) My.run (by kernel_rfl) (by kernel_rfl) (by kernel_rfl) (by rfl) (by first | assumption | decide +kernel) (by decide +kernel) ⟨rfl, rfl, rfl, rfl, rfl, by decide +kernel⟩ ?hw ?hc
  case hw => w_witness2
  case hc =>
    refine L2.walk_ofE (l := PySem.Challenge.rw_whatopened_k08_whole_facts_against) (n := 63) (k := 8) (x := "_law_script") (CX := L2.CX0) rfl (by decide) (by kernel_rfl) ⟨rfl, by decide, by decide⟩ ?F (fun _ _ _ _ z => z)
    intro w mg fa h Y G hmg0
    obtain ⟨K, KX, c, e⟩ := Y
    have hmg : mg ("law" : PySem.Str) = some (.ref fa) := by
      have e : (HandSHeadRun.topDef (OpenLaw.row PySem.Challenge.rw_whatopened_k08_whole_facts_against).prog 32).name = ("law" : PySem.Str) := by kernel_rfl
      rw [← e]
      exact hmg0
    obtain ⟨fd, hb, hF⟩ := My.facts (P := (PySem.Challenge.rw_whatopened_k08_whole_facts_against).prog) (w := w) KX G hmg c e
    exact ⟨K, fd, My.spLaw K, KX, hb, fun H a ns hl _ hS => ⟨a, ns, rfl, hS, fun _ => rfl⟩, hF⟩
#print axioms PySem.Challenge.cw_whatopened_k08_whole_facts_against_holds

