import PyProof.Rows.All
import Wide.All
import OpenK.AllK
import Wide.FinOn
import HandS.ForMost
import HandS.ForExc
import HandS.Defaults
import HandS.IsInst
import HandS.ExcInit
import HandS.OwnEq
import PySem.Challenge.RW_whatopened_k06_facts_made
import HandS.ExcValue
import HandS.ExcField
import HandS.MakeKw
import KE.KExcIs
import HandS.LawCells
import HandS.OwnIter
import PyProof.InstEq
import HandS.IterVal
import HandS.Walk
import KE.GoesMore
import KE.GoesEnum
import PyProof.Draws
import HandS.Star
import HandS.TupAny
import HandS.WordsExc
import HandS.CallSlots
import HandS.Style
import HandS.Codes
import HandS.NoneIn
import HandS.Deep
import KE.KStateDown
import Lean
import HandS.Head0
import HandS.Head1
import HandS.Head2
import HandS.HeadEnd
import HandS.HeadHook1
import HandS.HeadHook2
set_option Elab.async false
set_option linter.all false
set_option maxRecDepth 100000
set_option maxHeartbeats 0
namespace My
open PySem PySem.Spec PyProof.Rows L2
def top (i : Nat) : Stmt := PySem.Challenge.pw_whatopened_k06_facts_made.main.body.getD i (.Pass ⟨0, 0, 0, 0⟩)
abbrev FnP (K : PySem.W.Frag) (x : Str) (st : Stmt) (f : Addr) (fd : FuncData) : Prop := FunD K x x (defArgs st) (defBody st) (defScope st) [] [] f fd
def inCls (s : Stmt) (i : Nat) : Stmt := match s with
  | .ClassDef (body := b) .. => b.getD i (.Pass ⟨0, 0, 0, 0⟩)
  | _ => .Pass ⟨0, 0, 0, 0⟩
abbrev s__wall : Stmt := top 0
abbrev s_BadHouse_init : Stmt := inCls (top 3) 0
abbrev s_BadFact_init : Stmt := inCls (top 4) 0
abbrev s_is_list : Stmt := top 8
abbrev sIsList : Stmt := top 8
abbrev s_is_name : Stmt := top 9
abbrev sIsName : Stmt := top 9
abbrev s_is_fact : Stmt := top 12
abbrev s_wrong_fact : Stmt := top 13
abbrev s_as_told : Stmt := top 14
abbrev s_each_once : Stmt := top 15
abbrev s_Facts_init : Stmt := inCls (top 16) 0
abbrev s_Facts_told : Stmt := inCls (top 16) 1
abbrev s_Facts_without : Stmt := inCls (top 16) 2
abbrev s_Facts_add : Stmt := inCls (top 16) 3
abbrev s_Facts_len : Stmt := inCls (top 16) 4
abbrev s_Facts_contains : Stmt := inCls (top 16) 5
abbrev s_Facts_iter : Stmt := inCls (top 16) 6
abbrev s_Facts_eq : Stmt := inCls (top 16) 7
abbrev s_wrong_name : Stmt := top 18
abbrev sWrongName : Stmt := top 18
abbrev s_wrong_part : Stmt := top 19
abbrev sWrongPart : Stmt := top 19
abbrev s_House_init : Stmt := inCls (top 20) 0
abbrev sHInit : Stmt := inCls (top 20) 0
abbrev s_House_len : Stmt := inCls (top 20) 1
abbrev sHLen : Stmt := inCls (top 20) 1
abbrev s_House_contains : Stmt := inCls (top 20) 2
abbrev sHHas : Stmt := inCls (top 20) 2
abbrev s_House_iter : Stmt := inCls (top 20) 3
abbrev sHIter : Stmt := inCls (top 20) 3
abbrev s_House_eq : Stmt := inCls (top 20) 4
abbrev sHEq : Stmt := inCls (top 20) 4
abbrev s__law_cell : Stmt := top 22
abbrev sCell : Stmt := top 22
abbrev s__law_pool : Stmt := top 23
abbrev sPool : Stmt := top 23
abbrev s__law_take : Stmt := top 24
abbrev sTake : Stmt := top 24
abbrev s__law_names : Stmt := top 25
abbrev sNames : Stmt := top 25
abbrev s__law_house : Stmt := top 26
abbrev sHouse : Stmt := top 26
abbrev s__law_fact : Stmt := top 27
abbrev s__law_handed : Stmt := top 28
abbrev s__law_refused : Stmt := top 29
abbrev s__law_odd : Stmt := top 30
abbrev s__law_is_in_right : Stmt := top 31
abbrev s__law_is_alone : Stmt := top 32
abbrev s__law_walks_apart : Stmt := top 33
abbrev s_law : Stmt := top 34
end My

namespace My
open PySem PySem.Spec PyProof.Rows L2
/-! ### the pool -/
/-- a pool stands at p, at most n draws of its second kind were made -/
def Pool (H : Hp) (p : Addr) (n : Int) : Prop := ∃ g m c : Int, H p = some (.lst [.int g, .int m, .int c]) ∧ 0 ≤ g ∧ 0 ≤ m ∧ m < 1000000007 ∧ 0 ≤ c ∧ c ≤ n
def spCell1 (K : PySem.W.Frag) : Sp := fun vs H Q _ => ∃ (l : Addr) (ns : List Int) (j : Nat), vs = [.ref l, .int (j : Int)] ∧ SqL K H l (ns.map V.int) ∧ ∀ i : Int, Q (.int i) H
def spPool : Sp := fun vs H Q _ => ∃ g : Int, vs = [.int g] ∧ ∀ p H', H p = none → (∃ a b : Int, 0 ≤ a ∧ 0 ≤ b ∧ b < 1000000007 ∧ H' = upd H p (.lst [.int a, .int b, .int 0])) → Q (.ref p) H'
def spTake : Sp := fun vs H Q _ => ∃ (p : Addr) (many n : Int), vs = [.ref p, .int many] ∧ 0 < many ∧ many < 1073741824 ∧ Pool H p n ∧ n < 1099511627776 ∧
  ∀ (r : Int) (o : HO), 0 ≤ r → r < many → Pool (upd H p o) p (n + 1) → Q (.int r) (upd H p o)
theorem scCell : FnScope ["_law_script", "_law_k"] ["_law_script", "_law_k"] (defScope sCell) := ⟨rfl, rfl, rfl, by decide +kernel, rfl, by decide +kernel, by decide +kernel⟩
theorem scPool : FnScope ["_law_grain", "_law_folded"] ["_law_grain"] (defScope sPool) := ⟨rfl, rfl, rfl, by decide +kernel, rfl, by decide +kernel, by decide +kernel⟩
theorem scTake : FnScope ["_law_pool_here", "_law_many", "_law_draw", "_law_mixed"] ["_law_pool_here", "_law_many"] (defScope sTake) := ⟨rfl, rfl, rfl, by decide +kernel, rfl, by decide +kernel, by decide +kernel⟩
section
variable {P : Program} {w : World} {K : PySem.W.Frag} {mg : Str → Option Value} {base : Heap} {f : Addr} {fd : FuncData}
theorem ok_cell (F : FnP K "_law_cell" sCell f fd) (gL : mg "len" = none) : FnOk P w K mg base CX0 1 f fd ["_law_script", "_law_k"] (spCell1 K) := by
  refine F.ok scCell (fun vs H Q E h => ?_) (fun cdv A outer s H vs Q E hr h => ⟨_, PSs.nox (pss_cons (ps_if (pt_cmpR op_lt (pv 1) (pe_callB call_len (by rfl) gL boot_len (pa_cons (pv 0) pa_nil)) (nomark _)) (pss_one (ps_ret (pe_ix ix_list (pv 0) (pv 1) (fun _ _ => rfl)))) pss_nil) (pss_one (ps_ret pe_int))), ?_⟩)
  · obtain ⟨l, ns, j, rfl, _⟩ := h
    rfl
  · obtain ⟨l, ns, j, rfl, hS, q⟩ := h
    refine ⟨_, rfl, _, rfl, _, _, rfl, .inl ⟨_, hS, rfl⟩, _, _, rfl, rfl, _, rfl, ?_⟩
    refine ite2 (fun hj => ?_) (fun _ => ?_)
    · have hj' : j < ns.length := by
        have z := of_decide_eq_true hj
        rw [List.length_map] at z
        omega
      refine ⟨_, rfl, _, rfl, l, _, _, _, rfl, rfl, hS, atI_nat (by rw [List.getElem?_map, List.getElem?_eq_getElem hj'] <;> rfl), q _⟩
    · exact q 0
theorem ok_pool (F : FnP K "_law_pool" sPool f fd) (gI : mg "int" = none) : FnOk P w K mg base CX0 1 f fd ["_law_grain"] spPool := by
  refine F.ok scPool (fun vs H Q E h => ?_) (fun cdv A outer s H vs Q E hr h => ⟨_, PSs.nox (
    pss_cons (ps_set (i := 1) scPool.nd rfl (.inl rfl) (pe_op op_mul pe_int (pv 0)))
    (pss_cons (ps_if (pt_cmpR op_lt (pv 0) pe_int (nomark _)) (pss_one (ps_set (i := 1) scPool.nd rfl (.inl rfl) (pe_op op_sub (pe_op op_sub pe_int (pe_op op_mul pe_int (pv 0))) pe_int))) pss_nil)
    (pss_cons (ps_if (pt_cmpR op_ge (pv 1) (pe_op op_pow pe_int pe_int) (nomark _)) (pss_one (ps_ret (pe_lst (pa_cons (pv 1) (pa_cons (pe_op op_mod (pe_callTy call_int1 (by rfl) gI (by decide +kernel) (pa_cons (pv 1) pa_nil)) pe_int) (pa_cons pe_int pa_nil)))))) pss_nil)
    (pss_one (ps_ret (pe_lst (pa_cons pe_int (pa_cons (pe_op op_mod (pe_callTy call_int1 (by rfl) gI (by decide +kernel) (pa_cons (pv 1) pa_nil)) pe_int) (pa_cons pe_int pa_nil))))))))), ?_⟩)
  · obtain ⟨g, rfl, _⟩ := h
    rfl
  · obtain ⟨g, rfl, q⟩ := h
    refine ⟨_, rfl, _, _, rfl, rfl, .inl ⟨by decide, by decide⟩, _, rfl, _, _, rfl, rfl, _, rfl, ?_⟩
    have m1 : ∀ z : Int, 0 ≤ z % 1000000007 := fun z => Int.emod_nonneg z (by decide)
    have m2 : ∀ z : Int, z % 1000000007 < 1000000007 := fun z => Int.emod_lt_of_pos z (by decide)
    have lst3 : ∀ a b c : V, ([a, b, c] : List V).length ≤ sizeLine := fun a b c => by show 3 ≤ sizeLine; decide
    refine ite2 (fun hn => ?_) (fun hn => ?_)
    · have hn' := of_decide_eq_true hn
      refine ⟨_, rfl, _, _, rfl, rfl, .inl ⟨by decide, by decide⟩, _, _, rfl, rfl, _, _, rfl, rfl, ?_⟩
      refine ⟨_, rfl, _, _, rfl, rfl, ⟨by decide, by decide, by decide⟩, _, _, rfl, rfl, _, rfl, ?_⟩
      refine ite2 (fun _ => ?_) (fun _ => ?_)
      · refine ⟨_, rfl, _, rfl, .inl ⟨_, rfl, _, _, rfl, rfl, (show (0 : Int) < 1000000007 by decide), lst3 _ _ _, fun p hp => q p _ hp ⟨_, _, ?_, m1 _, m2 _, rfl⟩⟩⟩
        omega
      · refine ⟨_, rfl, .inl ⟨_, rfl, _, _, rfl, rfl, (show (0 : Int) < 1000000007 by decide), lst3 _ _ _, fun p hp => q p _ hp ⟨_, _, by decide, m1 _, m2 _, rfl⟩⟩⟩
    · have hn' : ¬ g < 0 := fun z => hn (decide_eq_true z)
      refine ⟨_, rfl, _, _, rfl, rfl, ⟨by decide, by decide, by decide⟩, _, _, rfl, rfl, _, rfl, ?_⟩
      refine ite2 (fun _ => ?_) (fun _ => ?_)
      · refine ⟨_, rfl, _, rfl, .inl ⟨_, rfl, _, _, rfl, rfl, (show (0 : Int) < 1000000007 by decide), lst3 _ _ _, fun p hp => q p _ hp ⟨_, _, ?_, m1 _, m2 _, rfl⟩⟩⟩
        omega
      · refine ⟨_, rfl, .inl ⟨_, rfl, _, _, rfl, rfl, (show (0 : Int) < 1000000007 by decide), lst3 _ _ _, fun p hp => q p _ hp ⟨_, _, by decide, m1 _, m2 _, rfl⟩⟩⟩
theorem ok_take (F : FnP K "_law_take" sTake f fd) (gI : mg "int" = none) : FnOk P w K mg base CX0 1 f fd ["_law_pool_here", "_law_many"] spTake := by
  refine F.ok scTake (fun vs H Q E h => ?_) (fun cdv A outer s H vs Q E hr h => ⟨_, PSs.nox (
    pss_cons (ps_if (pt_cmpR op_gt (pe_ix ix_list (pv 0) pe_int (fun _ _ => rfl)) pe_int (nomark _))
      (pss_cons (ps_set (i := 2) scTake.nd rfl (.inl rfl) (pe_op op_mod (pe_callTy call_int1 (by rfl) gI (by decide +kernel) (pa_cons (pe_ix ix_list (pv 0) pe_int (fun _ _ => rfl)) pa_nil)) (pv 1)))
      (pss_cons (ps_asg (pe_op op_fdiv (pe_ix ix_list (pv 0) pe_int (fun _ _ => rfl)) (pv 1)) (pg_sub (pv 0) pe_int set_list))
      (pss_one (ps_ret (pv 2))))) pss_nil)
    (pss_cons (ps_asg (pe_op op_add (pe_ix ix_list (pv 0) pe_int (fun _ _ => rfl)) pe_int) (pg_sub (pv 0) pe_int set_list))
    (pss_cons (ps_set (i := 3) scTake.nd rfl (.inl rfl) (pe_op op_mod (pe_callTy call_int1 (by rfl) gI (by decide +kernel) (pa_cons (pe_op op_pow (pe_op op_add (pe_op op_add (pe_ix ix_list (pv 0) pe_int (fun _ _ => rfl)) (pe_op op_mul pe_int (pe_ix ix_list (pv 0) pe_int (fun _ _ => rfl)))) pe_int) pe_int) pa_nil)) pe_int))
    (pss_one (ps_ret (pe_op op_mod (pe_op op_mod (pe_callTy call_int1 (by rfl) gI (by decide +kernel) (pa_cons (pe_op op_mul (pe_op op_add (pv 3) (pe_ix ix_list (pv 0) pe_int (fun _ _ => rfl))) pe_int) pa_nil)) pe_int) (pv 1))))))), ?_⟩)
  · obtain ⟨p, many, n, rfl, _⟩ := h
    rfl
  · obtain ⟨p, many, n, rfl, hm0, hm1, ⟨g, m, c, hp, hg, hm, hm', hc, hcn⟩, hn, q⟩ := h
    have SL : ∀ {H : Hp} {xs : List V}, H p = some (.lst xs) → SqL K H p xs := fun h => SqL.of h
    refine ⟨_, rfl, p, _, 0, .int g, rfl, rfl, SL hp, rfl, _, _, rfl, rfl, _, rfl, ?_⟩
    refine ite2 (fun hg0 => ?_) (fun _ => ?_)
    · refine ⟨_, rfl, p, _, 0, .int g, rfl, rfl, SL hp, rfl, .inl ⟨_, rfl, _, rfl, _, _, rfl, rfl, hm0, ?_⟩⟩
      refine ⟨_, rfl, p, _, 0, .int g, rfl, rfl, SL hp, rfl, _, rfl, _, _, rfl, rfl, ⟨hm0, hm1⟩, _, rfl, p, _, 0, 0, rfl, rfl, hp, rfl, ?_⟩
      refine ⟨_, rfl, q _ _ (Int.emod_nonneg _ (by omega)) (Int.emod_lt_of_pos _ hm0) ⟨g / many, m, c, upd_same, Int.ediv_nonneg hg (by omega), hm, hm', hc, by omega⟩⟩
    · refine ⟨_, rfl, p, _, 2, .int c, rfl, rfl, SL hp, rfl, _, _, rfl, rfl, _, rfl, p, _, 2, 2, rfl, rfl, hp, rfl, ?_⟩
      have h2 : upd H p (.lst (List.set [V.int g, V.int m, V.int c] 2 (V.int (c + 1)))) p = some (.lst [.int g, .int m, .int (c + 1)]) := upd_same
      refine ⟨_, rfl, p, _, 1, .int m, rfl, rfl, SL h2, rfl, _, rfl, p, _, 2, .int (c + 1), rfl, rfl, SL h2, rfl, _, _, rfl, rfl, .inl ⟨by decide, by decide⟩, _, _, rfl, rfl, _, _, rfl, rfl, _, _, rfl, rfl, ⟨by decide, by decide, ?_⟩, .inl ⟨_, rfl, _, _, rfl, rfl, (show (0 : Int) < 2147483647 by decide), ?_⟩⟩
      · omega
      refine ⟨_, rfl, _, rfl, p, _, 2, .int (c + 1), rfl, rfl, SL h2, rfl, _, _, rfl, rfl, _, _, rfl, rfl, .inr ⟨by decide, by decide⟩, .inl ⟨_, rfl, _, _, rfl, rfl, (show (0 : Int) < 2147483629 by decide), _, rfl, _, _, rfl, rfl, hm0, ?_⟩⟩
      exact q _ _ (Int.emod_nonneg _ (by omega)) (Int.emod_lt_of_pos _ hm0) ⟨g, m, c + 1, upd_same, hg, hm, hm', by omega, by omega⟩
end
end My

namespace PySem
namespace MyX
open PySem.HandSPX Builtin Builtin.ObjectAttr
section
variable {M : Model} {A : Around} {E : Value → Shared → Prop} {h : Heap} {g : Array GenState} {d : Drawn} {t : Nat} {os : OsState}
variable {nm q : Str} {C N : Addr} {bs bm mb : List Value} {hdct : Bool} {sn : List Str} {sub : List Value} {ab : Bool} {col : Option Bool} {dd : Option Addr} {k0 k1 k2 k3 k5 : Option Value} {B idN idI : String}
theorem chk_new (F : ExcBaseFacts B idN idI mb) (hT : ∀ X : String, bm.contains (.type X) = mb.contains (.type X)) {rs : List Value} {kw : List (Str × Value)} {Q : Unit → Shared → Prop}
    (hC : h.get? C = some (excClassObj nm q C N bs bm hdct sn sub ab col dd k0 k1 k2 k3 k5 idN)) (hq : Q () ⟨h, g, d, t, os⟩) :
    wpAny M A (checkBuiltinCall idN ⟨.ref C :: rs, kw⟩) Q E ⟨h, g, d, t, os⟩ := by
  have c1 : (Value.ref C :: bm).contains (.type B) = true := by
    rw [List.contains_cons, hT, F.hasB, Bool.or_true]
  have c2 := F.noStar
  simp only [checkBuiltinCall, F.newKind, F.newSplit, F.newRow]
  repeat (first | refine wpAny_loadPart_at hC ?_ | (refine wpAny_isSubtype_exc hC ?_; rw [c1]) | refine wpAny_staticBase_exc hC ?_ | refine wpAny_madeBy_exc hC ?_ | simp only [bne_self_eq_false, Bool.false_eq_true, if_false] | wp_step)
  exact hq
end
section
variable {prog : Program} {w : World} {A : Around} {E : Value → Shared → Prop} {R : Result → Shared → Prop} {h : Heap} {g : Array GenState} {d : Drawn} {t : Nat} {os : OsState}
variable {nm q : Str} {C N : Addr} {bs bm mb : List Value} {hdct : Bool} {sn : List Str} {sub : List Value} {ab : Bool} {col : Option Bool} {dd : Option Addr} {k0 k1 k2 k3 k5 : Option Value} {B idN idI : String}
theorem new_kw (F : ExcBaseFacts B idN idI mb) (hT : ∀ X : String, bm.contains (.type X) = mb.contains (.type X)) {rs : List Value} {kw : List (Str × Value)}
    (hC : h.get? C = some (excClassObj nm q C N bs bm hdct sn sub ab col dd k0 k1 k2 k3 k5 idN))
    (hq : R (.ok (.ret (.ref (h.objs.size + 1)))) ⟨(h.push (W.kdv_tup rs)).push (excO C h.objs.size), g, d, t, os⟩) (hrs : rs.length ≤ sizeLine) :
    codeAny (model prog w) A (.builtin idN ⟨.ref C :: rs, kw⟩) R ⟨h, g, d, t, os⟩ := by
  have c0 := F.ends
  have c1 : (Value.ref C :: bm).contains (.type B) = true := by
    rw [List.contains_cons, hT, F.hasB, Bool.or_true]
  have c2 : (Value.ref C :: bm).contains (.type "AttributeError") = false := by
    rw [List.contains_cons, hT, F.noAttr]; rfl
  have c3 : (Value.ref C :: bm).contains (.type "NameError") = false := by
    rw [List.contains_cons, hT, F.noName]; rfl
  refine codeAny_builtinAt F.entry ?_
  unfold Builtin.«BaseException.__new__»
  refine wpAt_bind ?_
  show wpAt _ _ _ (stack >>= _) _ _ _
  refine wpAt_bind (wpAt_stack fun p below => wpAt_of_wpAny ?_)
  wp_walk
  refine wpAt_of_wpAny ?_
  rw [F.owner]
  repeat (first | with_reducible refine wpAny_madeHere_exc F.canon hC ?_ | with_reducible refine wpAny_loadPart_at hC ?_ | (with_reducible refine wpAny_isSubtype_exc hC ?_; first | rw [c1] | rw [c2] | rw [c3]) | wp_step)
  show R _ _
  rw [Heap.size_push]
  exact hq
theorem tcall_kw (F : ExcBaseFacts B idN idI mb) (hT : ∀ X : String, bm.contains (.type X) = mb.contains (.type X)) {rs : List Value} {kw : List (Str × Value)} {fI : Addr} {Q : Fin → Shared → Prop}
    (hC : h.get? C = some (excClassObj nm q C N bs bm hdct sn sub ab col dd k0 k1 k2 k3 k5 idN))
    (hi : W.Looks (model prog w) h (typeLookup (.ref C) "__init__") (some (.ref fI))) (hb : ∀ self, W.Looks (model prog w) h (bindSpecial (.ref fI) self) (.ref fI, [self])) (hrs : rs.length ≤ sizeLine)
    (hq : codeAny (model prog w) A (.call (.ref fI) ⟨.ref (h.objs.size + 1) :: rs, kw⟩)
      (fun r s' => match r with | .ok (.ret v) => v = .none ∧ Q (.done (.ret (.ref (h.objs.size + 1)))) s' | .ok _ => False | .error e => E e s')
      ⟨(h.push (W.kdv_tup rs)).push (excO C h.objs.size), g, d, t, os⟩) :
    wpAny (model prog w) A (Builtin.«type.__call__» ⟨.ref C :: rs, kw⟩) Q E ⟨h, g, d, t, os⟩ := by
  repeat (first | with_reducible refine wpAny_loadPart_at hC ?_ | with_reducible refine wpAny_madeBy_exc hC ?_ | wp_step)
  refine codeAny_call_builtin_code (Code.quiet_builtin _ F.quiet) (chk_new F hT hC ?_)
  refine new_kw F hT hC ?_ hrs
  show wpAny _ _ _ _ _ _
  have k : ∀ b o, h.get? b = some o → ((h.push (W.kdv_tup rs)).push (excO C h.objs.size)).get? b = some o := fun b o e => Heap.get?_push_of_some _ (Heap.get?_push_of_some _ e)
  have hC1 := k _ _ hC
  have hget : ((h.push (W.kdv_tup rs)).push (excO C h.objs.size)).get? (h.objs.size + 1) = some (excO C h.objs.size) := by heap_get
  have hcC : (Value.ref C :: bm).contains (.ref C) = true := by simp
  have i1 := hi.keeps k
  have b1 := (hb (.ref (h.objs.size + 1))).keeps k
  unfold isInstance
  repeat (first | with_reducible refine wpAny_loadPart_at hget ?_ | (with_reducible refine wpAny_isSubtype_exc hC1 ?_; rw [hcC]) | wp_step)
  show wpAny _ _ (typeLookup (.ref C) _) _ _ _
  refine i1.at ?_
  refine wpAny_holding (wpAny_bind (b1.at ?_))
  refine wpAny_bind (wpAny_call (codeAny_mono hq fun r s' z => ?_))
  rcases r with e | (v | _ | _ | _) <;> first | exact z | exact z.elim | skip
  obtain ⟨rfl, z⟩ := z
  first
    | exact wpAny_pure (wpAny_pure z)
    | (wp_walk; exact z)
theorem call_kw (F : ExcBaseFacts B idN idI mb) (hT : ∀ X : String, bm.contains (.type X) = mb.contains (.type X)) {rs : List Value} {kw : List (Str × Value)} {fI : Addr}
    (hC : h.get? C = some (excClassObj nm q C N bs bm hdct sn sub ab col dd k0 k1 k2 k3 k5 idN))
    (hi : W.Looks (model prog w) h (typeLookup (.ref C) "__init__") (some (.ref fI))) (hb : ∀ self, W.Looks (model prog w) h (bindSpecial (.ref fI) self) (.ref fI, [self])) (hrs : rs.length ≤ sizeLine)
    (hq : codeAny (model prog w) (A.under (.builtin "type.__call__" ⟨.ref C :: rs, kw⟩)) (.call (.ref fI) ⟨.ref (h.objs.size + 1) :: rs, kw⟩) (W.InitBack (h.objs.size + 1) R)
      ⟨(h.push (W.kdv_tup rs)).push (excO C h.objs.size), g, d, t, os⟩) :
    codeAny (model prog w) A (.call (.ref C) ⟨rs, kw⟩) R ⟨h, g, d, t, os⟩ := by
  have f1 := tc_lookup
  have f2 := tc_bind (.ref C)
  have hTy : (⟨h, g, d, t, os⟩ : Shared).TypeIs (.ref C) "type" := ⟨_, hC, rfl⟩
  refine codeAny_of_tree ?_
  show wpAny _ _ (callAny (.ref C) _) _ _ _
  repeat (any_goals (first | assumption | with_reducible refine wpAny_loadPart_at hC ?_ | wp_step))
  refine ⟨rfl, ?_⟩
  refine codeAny_call_builtin_at (Code.quiet_builtin _ (by decide +kernel)) entry_typeCall (wpAny_check_type_call_sub hC (tcall_kw F hT hC hi hb hrs ?_))
  refine codeAny_mono hq fun r s' z => ?_
  rcases r with e | (v | _ | _ | _) <;> exact z
end
end MyX
end PySem

namespace My
open PySem PySem.Spec PyProof.Rows L2
/-! ### own exceptions as values -/
/-- what isinstance asks of the class of an exception -/
structure KitC (K : PySem.W.Frag) (C : Addr) : Prop where
  cl : (PySem.W.clsIn K C).isSome = true
  at_ : PySem.W.findIn K (.ref C) "__class__" = some (some (.builtin "object.__class__"))
  sp : PySem.W.specialIn K (.builtin "object.__class__") "__get__" = some (some (.builtin "getset_descriptor.__get__"))
  tk : PySem.W.takesIn K (.builtin "object.__class__") = some true
  ob : PySem.W.mroIn K C (.type "object") = some true
/-- an exception of the class at C stands at a: its one field f holds v -/
def ErrAt (H : Hp) (a C : Addr) (f : Str) (v : V) : Prop := ∃ d, H a = some (exo a C (some d)) ∧ H d = some (exd d [(f, v)])
theorem ErrAt.ext {H H' : Hp} {a C : Addr} {f : Str} {v : V} (e : ErrAt H a C f v) (x : Ext H H') : ErrAt H' a C f v := by
  obtain ⟨d, h1, h2⟩ := e
  exact ⟨d, x _ _ h1, x _ _ h2⟩
section
variable {X : Cx} {CX : CXT} {k : Nat} {C fI : Addr} {fd : FuncData} {ps : List Str} {sp : Sp}
theorem run_err {pins : List (Addr × Obj)} {σ : L2.St} {H : Hp} {s : Shared} {Q : VK} {us uz : List Value} {kw : List (Str × Value)} {vs : List V} (T : OexC X.K C) (iC : PySem.W.findIn X.K (.ref C) "__init__" = some (some (.ref fI)))
    (tI : PySem.W.typeIn X.K (.ref fI) = some (.type "function")) (Fn : FnOk X.prog X.w X.K X.mg X.base CX k fI fd ps sp) (hr : Room (k + 1) X.A) (hx : Passes CX X E0)
    (hb : ∀ (s : Shared) (a : Addr), X.K.In s.heap → BindsTo s fd ⟨.ref a :: us, kw⟩ (ps.zip (.ref a :: uz))) (hl : us.length ≤ 1000) (I : Inv X pins σ H s) (r : Vals vs uz)
    (h : ∀ a, H a = none → sp (.ref a :: vs) (upd H a (exo a C none)) (fun v H2 => v = .non ∧ Q (.ref a) H2) E0) :
    wpAny (model X.prog X.w) X.A (call (.ref C) us kw) (EP X pins σ Q) X.xe s := by
  obtain ⟨nm, q, N, bs, bm, sn, sub, ab, col, dd, k0, k1, k2, k3, k5, hC, hbm⟩ := T.cls
  obtain ⟨hp, g, dr, tk, os⟩ := s
  have hz : hp.objs.size ≤ hp.objs.size + 1 := Nat.le_succ _
  have hn : H (hp.objs.size + 1) = none := I.hok.fresh hz
  have hq := h (hp.objs.size + 1) hn
  have kk : ∀ b o, hp.get? b = some o → ((hp.push (PySem.W.kdv_tup us)).push (PySem.HandSPX.excO C hp.objs.size)).get? b = some o := fun b o e =>
    Heap.get?_push_of_some _ (Heap.get?_push_of_some _ e)
  have hg : ((hp.push (PySem.W.kdv_tup us)).push (PySem.HandSPX.excO C hp.objs.size)).get? (hp.objs.size + 1) = some (PySem.HandSPX.excO C hp.objs.size) := by
    heap_get
  have I2 : Inv X pins σ (upd H (hp.objs.size + 1) (exo (hp.objs.size + 1) C none)) ⟨(hp.push (PySem.W.kdv_tup us)).push (PySem.HandSPX.excO C hp.objs.size), g, dr, tk, os⟩ :=
    I.laid (t' := tk) (a := hp.objs.size + 1) (o := exo (hp.objs.size + 1) C none) (h' := (hp.push (PySem.W.kdv_tup us)).push (PySem.HandSPX.excO C hp.objs.size)) kk hz (exo_ok hg)
  have r2 : Vals (V.ref (hp.objs.size + 1) :: vs) (Value.ref (hp.objs.size + 1) :: uz) := .cons rfl r
  have hus : us.length ≤ sizeLine := by
    rw [sizeLine_eq]
    omega
  refine wpAny_call (PySem.MyX.call_kw PySem.F.excBase_ValueError (fun Y => PySem.HandSPX.refsVE_contains Y bm hbm) (I.kIn _ _ hC) (PySem.W.looks_findIn I.kIn iC) (fun self => PySem.W.bind_fn I.kIn self tI) hus
    (codeAny_mono (Fn.run _ X.stack _ _ ⟨Value.ref (hp.objs.size + 1) :: us, kw⟩ (Value.ref (hp.objs.size + 1) :: uz) _ _ E0 (hr.make C us kw) (I2.env0.make C us kw) (hb _ _ I2.kIn) r2 hq) fun r s' hq' => ?_))
  cases r with
  | error er => exact hx pins σ _ _ er s' I2 hq'
  | ok fl =>
    cases fl with
    | ret u =>
      obtain ⟨v, H', I3, rv, ev, q3⟩ := I2.after hq'
      subst ev
      exact ⟨rv, ⟨V.ref (hp.objs.size + 1), H', I3, rfl, q3⟩⟩
    | next => exact False.elim hq'
    | brk => exact False.elim hq'
    | cont => exact False.elim hq'
/-- C(e, ..) as a value -/
def tErr (C : Addr) (sp : Sp) (ta : TA) : TE := fun σ H Q => ta σ H fun vs H1 => vs.length ≤ 1000 ∧ ∀ a, H1 a = none → sp (.ref a :: vs) (upd H1 a (exo a C none)) (fun v H2 => v = .non ∧ Q (.ref a) H2) E0
theorem pe_err {x : Str} {e : Expr} {es : List Expr} {ta : TA} {p pos : Pos} (T : OexC X.K C) (iC : PySem.W.findIn X.K (.ref C) "__init__" = some (some (.ref fI)))
    (tI : PySem.W.typeIn X.K (.ref fI) = some (.type "function")) (Fn : FnOk X.prog X.w X.K X.mg X.base CX k fI fd ps sp) (hr : Room (k + 1) X.A) (hx : Passes CX X E0) (hb : Binds X.K fd ps [])
    (hg : Gl X x) (hm : X.mg x = some (.ref C)) (ha : PA X (e :: es) ta)
    (hdb : (x == ("__debug__" : Str)) = false := by decide) (he : starEach (e :: es) X.env = (false, eval e X.env) :: starEach es X.env := by rfl) (hpl : (backTo pos (starEach es X.env)).any (·.1) = false := by rfl) :
    PE X (.Call (.Name x p) (e :: es) [] pos) (tErr C sp ta) := by
  refine ⟨fun pins s σ H Q I h => ?_⟩
  refine wpAny_Call_Name_kw (ld_glob I hg hm ?_ hdb)
  refine PySem.W.callWith_K (h₀ := X.base) I.ok.mod.kin T.kC (thn (ha.run pos pins s σ H _ I h) fun us s1 ⟨vs, H1, I1, r1, hz, q1⟩ => ⟨I1.kIn, ?_⟩) he hpl
  have l0 : us.length ≤ 1000 := by
    rw [← Paired.length r1]
    exact hz
  have l1 : vs.length + 1 = ps.length := Fn.len _ _ _ _ (q1 (s1.heap.objs.size + 1) (I1.hok.fresh (Nat.le_succ _)))
  refine run_err T iC tI Fn hr hx (fun s a KX => ?_) l0 I1 r1 q1
  have z := hb s (Value.ref a :: us) KX (by rw [List.append_nil, List.length_cons, ← Paired.length r1]; exact l1)
  rw [List.append_nil] at z
  exact z
/-- C(f = e) as a value -/
theorem pe_errK {x kn : Str} {kws : List Keyword} {tk : TA} {p pos : Pos} (T : OexC X.K C) (iC : PySem.W.findIn X.K (.ref C) "__init__" = some (some (.ref fI)))
    (tI : PySem.W.typeIn X.K (.ref fI) = some (.type "function")) (Fn : FnOk X.prog X.w X.K X.mg X.base CX k fI fd ps sp) (hr : Room (k + 1) X.A) (hx : Passes CX X E0)
    (hb : ∀ (s : Shared) (u v : Value), X.K.In s.heap → BindsTo s fd ⟨[u], [(kn, v)]⟩ (ps.zip [u, v])) (hg : Gl X x) (hm : X.mg x = some (.ref C)) (hkw : PK X kws tk)
    (hall : (backToKw pos (keywordEach kws X.env)).all (·.1.isSome) = true := by rfl) (hks : (backToKw pos (keywordEach kws X.env)).filterMap (·.1) = [kn] := by rfl) (hdb : (x == ("__debug__" : Str)) = false := by decide)
    (hpl : ((backTo pos (starEach [] X.env)).any (·.1) || (backToKw pos (keywordEach kws X.env)).any (·.1.isNone)) = false := by rfl) :
    PE X (.Call (.Name x p) [] kws pos) (fun σ H Q => tk σ H fun vs H1 => ∃ v, vs = [v] ∧ tErr C sp (fun _ H Q => Q [v] H) σ H1 Q) := by
  refine ⟨fun pins s σ H Q I h => ?_⟩
  refine wpAny_Call_Name_kw (ld_glob I hg hm ?_ hdb)
  refine PySem.W.callWith_KW0 (h₀ := X.base) I.ok.mod.kin T.kC hall ?_ hpl
  refine thn (hkw.run pos pins s σ H _ I h) fun ws s2 ⟨zs, H2, I2, rz, v, ez, l2, q2⟩ => ⟨I2.kIn, ?_⟩
  rw [hks]
  subst ez
  cases rz with
  | cons rv rn =>
    cases rn
    exact run_err (us := []) T iC tI Fn hr hx (fun s a KX => hb s (.ref a) _ KX) (by decide) I2 (.cons rv .nil) q2
/-- e.f of such a value -/
def tErF (K : PySem.W.Frag) (f : Str) (te : TE) : TE := fun σ H Q => te σ H fun x H1 => ∃ a C v, x = .ref a ∧ ErrAt H1 a C f v ∧ XfC K C ∧ PySem.W.findIn K (.ref C) f = some none ∧ Q v H1
theorem pe_erF {e : Expr} {te : TE} {n : Str} {pos : Pos} (he : PE X e te) (hb : attributeBase e n X.env (eval e X.env) = eval e X.env := by rfl) : PE X (.Attribute e n pos) (tErF X.K n te) := by
  refine ⟨fun pins s σ H Q I h => ?_⟩
  refine attr_of hb (thn (he.run pins s σ H _ I h) fun u s1 hh => ?_)
  obtain ⟨x, H1, I1, rx, a, C, v, ex, ⟨d, ha, hd⟩, T, hno, q⟩ := hh
  subst ex
  obtain rfl : u = Value.ref a := rx
  obtain ⟨t1, ho⟩ := exo_at I1.hok ha
  obtain ⟨mA, hns, hr⟩ := exd_at I1.hok hd
  obtain ⟨od, hod, hl⟩ := lookIn_ns hns
  have l : List.lookup n [(n, v)] = some v := by
    simp [List.lookup]
  obtain ⟨u, hu, ru⟩ := RelO.some_of (v := v) (o := mA n) (by rw [← l]; exact hr n)
  have J : PySem.W.InstAt s1.heap a { cls := .ref C, dict := some d, data := .fields #[.ref t1, .none, .none, .none, .bool false, .none] } C (some od) := ⟨ho, rfl, rfl, hod⟩
  exact HandSPX.exc_get I1.kIn J T.ga T.gg T.exC (PySem.W.findObj_own T.hdC hno rfl (by rw [hl, hu])) (handed_of ru) ⟨v, H1, I1.tok _, ru, q⟩
/-- isinstance(e, D) of such a value, or of one without fields -/
def rIsX (K : PySem.W.Frag) : List V → Hp → VK → Prop := fun xs H Q => ∃ (a C : Addr) (c : V) (u : Value) (b : Bool), xs = [.ref a, c] ∧ ClsV c u ∧ ((∃ f v, ErrAt H a C f v) ∨ H a = some (ExO (.ref C) a)) ∧ XfC K C ∧ KitC K C ∧
  PySem.W.kitOne K (.ref C) u = some b ∧ Q (.bl b) H
theorem call_isX : CallR X (.builtin "isinstance") (rIsX X.K) := by
  intro pins s σ H xs us Q I r h
  obtain ⟨a, C, c, u, b, rfl, kc, ha, T, Z, e, q⟩ := h
  obtain ⟨u1, u2, rfl, r1, r2⟩ := vals2 r
  obtain rfl : u1 = Value.ref a := r1
  have e2 := kc.eq r2
  subst e2
  rcases ha with ⟨f, v, d, ha, hd⟩ | ha
  · obtain ⟨t1, ho⟩ := exo_at I.hok ha
    obtain ⟨mA, hns, hr⟩ := exd_at I.hok hd
    obtain ⟨od, hod, hl⟩ := lookIn_ns hns
    have J : PySem.W.InstAt s.heap a { cls := .ref C, dict := some d, data := .fields #[.ref t1, .none, .none, .none, .bool false, .none] } C (some od) := ⟨ho, rfl, rfl, hod⟩
    exact PySem.W.kia_one (PySem.W.kitx_exc Z.cl T.ga T.gg T.exC Z.at_ Z.sp Z.tk Z.ob) I.kIn J e (fun z => nomatch z) fun tk => ⟨.bl b, H, I.tok tk, rfl, q⟩
  · obtain ⟨⟨oe, vs, ho, hz, hdt, _⟩, _, _⟩ := I.hok a _ ha
    have J : PySem.W.InstAt s.heap a oe C none := ⟨ho, hz.1, by unfold PySem.W.notCls; rw [hdt] <;> rfl, by rw [hz.2]; exact True.intro⟩
    exact PySem.W.kia_one (PySem.W.kitx_exc Z.cl T.ga T.gg T.exC Z.at_ Z.sp Z.tk Z.ob) I.kIn J e (fun z => nomatch z) fun tk => ⟨.bl b, H, I.tok tk, rfl, q⟩
/-- C(), a class without fields -/
theorem pe_exc0 {bmB : List Value} {B newId initId : String} {x : Str} {p pos : Pos} (F : ExcBaseFacts B newId initId bmB) (q : PySem.W.excIn X.K C bmB newId = true) (gC : X.mg x = some (.ref C)) (kC : PySem.W.keepIn X.K (.ref C) = true) (hg : Gl X x)
    (hdb : (x == ("__debug__" : Str)) = false := by decide) :
    PE X (.Call (.Name x p) [] [] pos) (fun _ H Q => ∀ a, H a = none → Q (.ref a) (upd H a (ExO (.ref C) a))) := by
  refine ⟨fun pins s σ H Q I h => ?_⟩
  refine wpAny_Call_Name_kw (ld_glob I hg gC ?_ hdb)
  refine PySem.W.callWith_K0 I.kIn kC ?_
  obtain ⟨bm, N, nm, qn, bs, hdct, sn, sub, ab, col, dd, k0, k1, k2, k3, k5, mN, hC, hN, hni, T⟩ := exc_obj I.kIn q
  refine wpAny_call_exc_subT F T hC hN hni (fun h' a hm => ?_) (Nat.zero_le _)
  have hn : H a = none := I.hok.gone hm.new
  obtain ⟨t, ht, _, _⟩ := hm.there
  exact ⟨.ref a, upd H a (ExO (.ref C) a), I.laidN hm.keeps hm.new hn (exO_ok ht ⟨rfl, rfl⟩ rfl rfl rfl (show 4 < 6 by decide)), rfl, h a hn⟩
end
end My

namespace My
open PySem PySem.Spec PyProof.Rows L2
/-! ### a class of errors with one field -/
/-- what the written part says of the class at C, called x, with the field f; its __init__ stands at fI -/
structure ErrC (K : PySem.W.Frag) (mg : Str → Option Value) (x f : Str) (C fI : Addr) : Prop where
  gl : mg x = some (.ref C)
  oex : OexC K C
  xf : XfC K C
  kit : KitC K C
  iC : PySem.W.findIn K (.ref C) "__init__" = some (some (.ref fI))
  tI : PySem.W.typeIn K (.ref fI) = some (.type "function")
  no : PySem.W.findIn K (.ref C) f = some none
/-- __init__ of an error: the field is stored -/
def spInit (C : Addr) (f : Str) : Sp := fun vs H Q _ => ∃ (a : Addr) (v : V), vs = [.ref a, v] ∧ H a = some (exo a C none) ∧
  ∀ dx, H dx = none → dx ≠ a → Q .non (upd (upd H dx (exd dx [(f, v)])) a (exo a C (some dx)))
section
variable {P : Program} {w : World} {K : PySem.W.Frag} {mg : Str → Option Value} {base : Heap} {C fI : Addr} {fd : FuncData} {x f : Str}
theorem ok_init {st : Stmt} {qual : Str} (T : ErrC K mg x f C fI) (F : FunD K "__init__" qual (defArgs st) (defBody st) (defScope st) [] [] fI fd) (S : FnScope ["self", f] ["self", f] (defScope st))
    (hb : ∃ q1 q2 q3 q4, defBody st = [.Assign [.Attribute (.Name "self" q1) f q2] (.Name f q3) q4]) (d1 : (f == ("__debug__" : Str)) = false) (d2 : (f == ("__classdict__" : Str)) = false) :
    FnOk P w K mg base CX0 1 fI fd ["self", f] (spInit C f) := by
  obtain ⟨q1, q2, q3, q4, hb⟩ := hb
  refine F.ok S (fun vs H Q E h => ?_) (fun cdv A outer s H vs Q E hr h => ⟨_, PSs.nox (by
    rw [hb]
    exact pss_one (ps_ost (pe_var (i := 0) rfl (vis_par S List.mem_cons_self)) (pe_var (i := 1) rfl (vis_par S (List.mem_cons_of_mem _ List.mem_cons_self)) d1 d2))), ?_⟩)
  · obtain ⟨a, v, rfl, _⟩ := h
    rfl
  · obtain ⟨a, v, rfl, ha, q⟩ := h
    exact ⟨_, rfl, _, rfl, a, C, rfl, T.oex, T.no, .inl ⟨ha, fun dx n ne => q dx n ne⟩⟩
/-- all that a caller wants of such a class -/
def Er (P : Program) (w : World) (K : PySem.W.Frag) (mg : Str → Option Value) (base : Heap) (x f : Str) (C : Addr) : Prop := ∃ (fI : Addr) (fd : FuncData), ErrC K mg x f C fI ∧ FnOk P w K mg base CX0 1 fI fd ["self", f] (spInit C f) ∧
  Binds K fd ["self", f] [] ∧ ∀ (s : Shared) (u v : Value), K.In s.heap → BindsTo s fd ⟨[u], [(f, v)]⟩ ((["self", f] : List Str).zip [u, v])
/-- C(e), C(f = e) as values -/
def tEr (C : Addr) (f : Str) (te : TE) : TE := fun σ H Q => te σ H fun v H1 => ∀ a H', H1 a = none → Ext H1 H' → ErrAt H' a C f v → Q (.ref a) H'
theorem tEr_of {C : Addr} {f : Str} {v : V} {H : Hp} {Q : VK} (h : ∀ a H', H a = none → Ext H H' → ErrAt H' a C f v → Q (.ref a) H') {a : Addr} (ha : H a = none) :
    spInit C f [.ref a, v] (upd H a (exo a C none)) (fun z H2 => z = .non ∧ Q (.ref a) H2) E0 := by
  refine ⟨a, v, rfl, upd_same, fun dx n ne => ⟨rfl, ?_⟩⟩
  have hn : H dx = none := by
    rw [upd_ne ne] at n
    exact n
  refine h a _ ha (fun b o e => ?_) ⟨dx, upd_same, ?_⟩
  · rw [upd_ne (ne_of_none e ha), upd_ne (ne_of_none e hn), upd_ne (ne_of_none e ha)]
    exact e
  · rw [upd_ne ne, upd_same]
end
section
variable {X : Cx} {x f : Str} {C : Addr} {e : Expr} {te : TE} {p pos kpos : Pos}
theorem pe_er (E : Er X.prog X.w X.K X.mg X.base x f C) (hr : Room 2 X.A) (he : PE X e te) (hg : Gl X x := by rfl) (hdb : (x == ("__debug__" : Str)) = false := by decide)
    (h1 : starEach [e] X.env = (false, eval e X.env) :: starEach [] X.env := by rfl) (h2 : (backTo pos (starEach [] X.env)).any (·.1) = false := by rfl) :
    PE X (.Call (.Name x p) [e] [] pos) (tEr C f te) := by
  obtain ⟨fI, fd, T, F, b, _⟩ := E
  refine ⟨fun pins s σ H Q I h => ?_⟩
  refine wpAny_Call_Name_kw (ld_glob I hg T.gl ?_ hdb)
  refine PySem.W.callWith_K (h₀ := X.base) I.ok.mod.kin T.oex.kC ?_ h1 h2
  have ha : PA X [e] (tCons te tNil) := pa_cons he pa_nil h1
  refine thn (ha.run pos pins s σ H (fun vs H1 => match vs with | [v] => ∀ a H', H1 a = none → Ext H1 H' → ErrAt H' a C f v → Q (.ref a) H' | _ => False) I h) fun us s1 ⟨vs, H1, I1, r1, q1⟩ => ⟨I1.kIn, ?_⟩
  cases r1 with
  | nil => exact False.elim q1
  | cons rv rn =>
    cases rn with
    | cons _ _ => exact False.elim q1
    | nil =>
      refine run_err T.oex T.iC T.tI F hr pass0 (fun s a KX => b s [Value.ref a, _] KX rfl) (show 1 ≤ 1000 by decide) I1 (.cons rv .nil) fun a ha => tEr_of q1 ha
theorem pe_erK (E : Er X.prog X.w X.K X.mg X.base x f C) (hr : Room 2 X.A) (he : PE X e te) (hg : Gl X x := by rfl) (hdb : (x == ("__debug__" : Str)) = false := by decide)
    (hall : (backToKw pos (keywordEach [⟨some f, e, kpos⟩] X.env)).all (·.1.isSome) = true := by rfl) (hks : (backToKw pos (keywordEach [⟨some f, e, kpos⟩] X.env)).filterMap (·.1) = [f] := by rfl)
    (hpl : ((backTo pos (starEach [] X.env)).any (·.1) || (backToKw pos (keywordEach [⟨some f, e, kpos⟩] X.env)).any (·.1.isNone)) = false := by rfl) :
    PE X (.Call (.Name x p) [] [⟨some f, e, kpos⟩] pos) (tEr C f te) := by
  obtain ⟨fI, fd, T, F, _, b⟩ := E
  refine ⟨fun pins s σ H Q I h => ?_⟩
  refine wpAny_Call_Name_kw (ld_glob I hg T.gl ?_ hdb)
  refine PySem.W.callWith_KW0 (h₀ := X.base) I.ok.mod.kin T.oex.kC hall ?_ hpl
  have ha : PK X [⟨some f, e, kpos⟩] (tCons te tNil) := pk_cons he pk_nil
  refine thn (ha.run pos pins s σ H (fun vs H1 => match vs with | [v] => ∀ a H', H1 a = none → Ext H1 H' → ErrAt H' a C f v → Q (.ref a) H' | _ => False) I h) fun us s1 ⟨vs, H1, I1, r1, q1⟩ => ⟨I1.kIn, ?_⟩
  rw [hks]
  cases r1 with
  | nil => exact False.elim q1
  | cons rv rn =>
    cases rn with
    | cons _ _ => exact False.elim q1
    | nil => exact run_err (us := []) T.oex T.iC T.tI F hr pass0 (fun s a KX => b s _ _ KX) (by decide) I1 (.cons rv .nil) fun a ha => tEr_of q1 ha
end
/-! ### many errors at once -/
def AllErr (H : Hp) (v : V) : List Addr → List (Addr × Str) → Prop
  | [], [] => True
  | a :: as, c :: cs => ErrAt H a c.1 c.2 v ∧ AllErr H v as cs
  | _, _ => False
theorem AllErr.ext {H H' : Hp} {v : V} (x : Ext H H') : ∀ {as : List Addr} {cs : List (Addr × Str)}, AllErr H v as cs → AllErr H' v as cs
  | [], [], _ => True.intro
  | a :: as, c :: cs, h => ⟨h.1.ext x, AllErr.ext x h.2⟩
  | [], _ :: _, h => h.elim
  | _ :: _, [], h => h.elim
theorem AllErr.len {H : Hp} {v : V} : ∀ {as : List Addr} {cs : List (Addr × Str)}, AllErr H v as cs → as.length = cs.length
  | [], [], _ => rfl
  | a :: as, c :: cs, h => by rw [List.length_cons, List.length_cons, AllErr.len h.2]
  | [], _ :: _, h => h.elim
  | _ :: _, [], h => h.elim
theorem AllErr.app {H : Hp} {v : V} : ∀ {as bs : List Addr} {cs ds : List (Addr × Str)}, AllErr H v as cs → AllErr H v bs ds → AllErr H v (as ++ bs) (cs ++ ds)
  | [], _, [], _, _, k => k
  | a :: as, _, c :: cs, _, h, k => ⟨h.1, AllErr.app h.2 k⟩
  | [], _, _ :: _, _, h, _ => h.elim
  | _ :: _, _, [], _, h, _ => h.elim
theorem AllErr.at_ {H : Hp} {v : V} : ∀ {as : List Addr} {cs : List (Addr × Str)} {i : Nat} {c : Addr × Str}, AllErr H v as cs → cs[i]? = some c → ∃ a, as[i]? = some a ∧ ErrAt H a c.1 c.2 v
  | [], [], _, _, _, e => by simp at e
  | a :: as, c :: cs, 0, _, h, e => ⟨a, rfl, by cases e; exact h.1⟩
  | a :: as, c :: cs, i + 1, _, h, e => AllErr.at_ (i := i) h.2 e
  | [], _ :: _, _, _, h, _ => h.elim
  | _ :: _, [], _, _, h, _ => h.elim
def tErL : List (Addr × Str) → TE → TA
  | [], _ => tNil
  | c :: cs, te => tCons (tEr c.1 c.2 te) (tErL cs te)
theorem erL_run {i : Nat} {σ : L2.St} {v : V} (hi : σ[i]? = some (some v)) : ∀ (cs : List (Addr × Str)) (H : Hp) (Q : List V → Hp → Prop), (∀ as H', Ext H H' → AllErr H' v as cs → Q (as.map V.ref) H') → tErL cs (tVar i) σ H Q
  | [], H, Q, h => h [] H Ext.rfl' True.intro
  | c :: cs, H, Q, h => ⟨v, hi, fun a H1 _ x1 e1 => erL_run hi cs H1 _ fun as H2 x2 e2 => h (a :: as) H2 (x1.trans x2) ⟨e1.ext x2, e2⟩⟩
end My

namespace PySem
namespace MyD
open PySem.W Builtin
section
variable {prog : Program} {w : World} {A : Around} {E : Value → Shared → Prop} {s : Shared} {K : Frag} {x C f : Addr} {ox : Obj} {od : Option Obj}
/-- y in x, x an instance with an own __contains__ -/
theorem contains_own {M : Model} {y : Value} {Q : Bool → Shared → Prop} (X : K.In s.heap) (I : InstAt s.heap x ox C od) (hs : findIn K (.ref C) "__contains__" = some (some (.ref f))) (hf : isFn K (.ref f) = true)
    (h : wpAny M A (call (.ref f) [.ref x, y]) (fun r s' => ∃ b, r = .bool b ∧ Q b s') E s) : wpAny M A (contains (.ref x) y) Q E s := by
  have body : wpAny M A (callSpecialUnlessNone? (.ref x) "__contains__" [y] (do rule "in.none"; raiseError "TypeError" s!"'{← typeNameOf (.ref x)}' object is not a container")) (fun r s' => ∃ b, r = some (.bool b) ∧ Q b s') E s := by
    unfold callSpecialUnlessNone?
    refine wpAny_bind (wpAny_bind (I.type.here ((looks_findIn X hs).here ?_)))
    refine wpAny_holding (wpAny_bind ((bind_fn X _ (beq_iff_eq.mp hf)).here ?_))
    refine wpAny_bind (wpAny_mono h (fun r s' hr => ?_) fun _ _ e => e)
    obtain ⟨b, rfl, q⟩ := hr
    exact wpAny_pure ⟨b, rfl, q⟩
  unfold contains
  refine wpAny_holding ?_
  refine wpAny_bind (wpAny_bind (I.type.here ((looks_findIn X hs).here ?_)))
  rw [if_neg (show ¬ (some (Value.ref f) == some Value.none) = true from Bool.false_ne_true)]
  refine wpAny_bind (wpAny_mono body (fun r s' hr => ?_) fun _ _ e => e)
  obtain ⟨b, rfl, q⟩ := hr
  exact wpAny_truthy_bool q
/-- x != b, the class of x with an own __eq__ and object's __ne__ -/
theorem ne_own {b tb : Value} {Q : Value → Shared → Prop} (hu : A.units + 1 < cLine) (X : K.In s.heap) (I : InstAt s.heap x ox C od) (hb : Looks (model prog w) s.heap (typeOf b) tb) (hn : notFirst K C tb = true)
    (hne : findIn K (.ref C) "__ne__" = some (some (.builtin "object.__ne__"))) (hob : mroIn K C (.type "object") = some true) (hs : findIn K (.ref C) "__eq__" = some (some (.ref f))) (hf : isFn K (.ref f) = true)
    (h : wpAny (model prog w) A.in1 (call (.ref f) [.ref x, b]) (fun r s' => ∃ k, r = .bool k ∧ Q (.bool (!k)) s') E s) : wpAny (model prog w) A (richCompare .NotEq (.ref x) b) Q E s := by
  have sub : Looks (model prog w) s.heap (isInstance (.ref x) (.type "object")) true := I.type.andThen (looks_mroIn X hob)
  have go : wpAny (model prog w) A (call (.builtin "object.__ne__") ([.ref x] ++ [b])) (fun v s' => ∃ k, v = .bool (!k) ∧ Q (.bool (!k)) s') E s := by
    show wpAny _ _ (call (.builtin "object.__ne__") [.ref x, b]) _ _ _
    refine wpAny_call (codeAny_call_builtin F.cmp_object.ne.plain F.cmpEntry_ne ?_)
    refine check_slot F.cmpKind_ne F.cmpSplit_ne sub (F.cmpArgs_ne _ _) ?_
    unfold Builtin.«object.__ne__»
    refine wpAny_bind (wpAny_of_eq (a := ((Value.ref x : Value), [b])) (by first | rfl | (simp only [slotArgs]; rfl)) ?_)
    refine wpAny_bind (wpAny_cRoomFor hu ?_)
    refine wpAny_bind (ifBound_K X I hs hf (wpAny_mono h (fun v s' hv => ?_) fun _ _ e => e))
    obtain ⟨k, rfl, q⟩ := hv
    refine wpAny_bind (wpAny_truthy_bool ?_)
    exact wpAny_pure ⟨k, rfl, q⟩
  have bnd : wpAny (model prog w) A (callSpecialIfBound? (.ref x) "__ne__" [b]) (fun r s' => ∃ k, r = some (.bool (!k)) ∧ Q (.bool (!k)) s') E s := by
    simp only [callSpecialIfBound?, bindSpecialIfBound?]
    refine wpAny_holding (wpAny_bind (wpAny_bind (wpAny_bind (I.type.here ((looks_findIn X hne).here ?_)))))
    refine wpAny_bind (wpAny_askSetting (wpAny_ite ?_))
    have fin : wpAny (model prog w) A (call (.builtin "object.__ne__") ([.ref x] ++ [b]) >>= fun v => pure (some v)) (fun r s' => ∃ k, r = some (.bool (!k)) ∧ Q (.bool (!k)) s') E s := by
      refine wpAny_bind (wpAny_mono go (fun v s' hv => ?_) fun _ _ e => e)
      obtain ⟨k, rfl, q⟩ := hv
      exact wpAny_pure ⟨k, rfl, q⟩
    split
    · exact wpAny_bind (wpAny_of_eq (F.cmp_object.ne.bind _) (wpAny_pure (by exact fin)))
    · exact wpAny_tryCatch (wpAny_bind (wpAny_of_eq (F.cmp_object.ne.bind _) (wpAny_pure (by exact fin))))
  have one : wpAny (model prog w) A (tryCompare (.ref x) "__ne__" b) (fun r s' => ∃ v, r = some v ∧ Q v s') E s := by
    unfold tryCompare
    refine wpAny_bind (wpAny_mono bnd (fun r s' hv => ?_) fun _ _ e => e)
    obtain ⟨k, rfl, q⟩ := hv
    exact wpAny_pure ⟨_, rfl, q⟩
  unfold richCompare
  simp only [oneThing_ref]
  refine wpAny_holding (wpAny_bind (wpAny_cRoomFor (by omega) ?_))
  refine wpAny_bind (I.type.here (wpAny_bind (hb.here ?_)))
  split
  · rename_i q
    have e : subIn K tb (.ref C) = some false := by
      rcases Bool.or_eq_true_iff.mp hn with e | e
      · rw [beq_iff_eq.mp e] at q
        simp at q
      · exact beq_iff_eq.mp e
    refine wpAny_bind ((looks_subIn X e).here ?_)
    simp only [Bool.false_eq_true, if_false]
    refine wpAny_bind (wpAny_mono one (fun r s' z => ?_) fun _ _ e => e)
    obtain ⟨v, rfl, hq⟩ := z
    exact wpAny_pure hq
  · refine wpAny_bind (wpAny_pure ?_)
    simp only [Bool.false_eq_true, if_false]
    refine wpAny_bind (wpAny_mono one (fun r s' z => ?_) fun _ _ e => e)
    obtain ⟨v, rfl, hq⟩ := z
    exact wpAny_pure hq
end
end MyD
end PySem

namespace L2
open PySem PySem.Spec PyProof.Rows
/-! ### own operators, run -/
section
variable {X : Cx} {pins : List (Addr × Obj)} {σ : St} {H : Hp} {s : Shared} {CI : CXT} {f : Addr} {fd : FuncData} {ps : List Str} {sp : Sp} {EI : XK} {n : Nat} {A1 : Around}
theorem envSub (I : Inv X pins σ H s) (sb : Sub X n A1) : Env0 X.prog X.w X.K X.mg X.base A1 X.stack s H := by
  have e := I.env0
  exact ⟨by rw [sb.fr]; exact e.frames, e.mod, e.bs, e.bsz, e.funs, e.frf, e.hok, e.bare⟩
theorem rv2 (a : Addr) {y : V} {u : Value} (r : RelV y u) : Vals [V.ref a, y] [Value.ref a, u] := .cons rfl (.cons r .nil)
/-- a known def runs somewhere below the body -/
theorem run_sub {xs : List V} {us : List Value} {Q : VK} {base : Heap} (sb : Sub X n A1) (F : FnOk X.prog X.w X.K X.mg base CI n f fd ps sp) (e0 : Env0 X.prog X.w X.K X.mg base A1 X.stack s H) (hb : Binds X.K fd ps []) (hx : Passes CI X EI)
    (I : Inv X pins σ H s) (rv : Vals xs us) (hsp : sp xs H Q EI) : wpAny (model X.prog X.w) A1 (call (.ref f) us) (EP X pins σ Q) X.xe s := by
  have hl := F.len _ _ _ _ hsp
  have hl' : us.length = ps.length := by rw [← rv.length]; exact hl
  refine wpAny_call (codeAny_mono (F.run A1 X.stack s H ⟨us, []⟩ us xs Q EI sb.room e0 (by
    have := hb s us I.kIn (by simpa using hl')
    simpa using this) rv hsp) fun r s' hq => ?_)
  cases r with
  | error e => exact hx pins σ H s e s' I hq
  | ok fl =>
    cases fl with
    | ret u => exact I.after hq
    | next => exact False.elim hq
    | brk => exact False.elim hq
    | cont => exact False.elim hq
/-- a method under its name -/
structure OwnM (K : PySem.W.Frag) (C : Addr) (m : Str) (f : Addr) : Prop where
  at_ : PySem.W.findIn K (.ref C) m = some (some (.ref f))
  fn : PySem.W.isFn K (.ref f) = true
/-- x in o -/
def rInO (C : Addr) (sp : Sp) (E : XK) : R2 := fun x y H Q => ∃ a dx fs, y = .ref a ∧ H a = some (.ins C dx fs) ∧ sp [.ref a, x] H (fun v H' => ∃ b, v = .bl b ∧ Q (.bl b) H') E
theorem op_inO {C : Addr} (hr : Room n X.A) (M : OwnM X.K C "__contains__" f) (F : FnOk X.prog X.w X.K X.mg X.base CI n f fd ps sp) (hb : Binds X.K fd ps []) (hx : Passes CI X EI) : OpR X (compareOp .In) (rInO C sp EI) := by
  intro pins s σ H x y v u Q I rx ry h
  obtain ⟨a, dx, fs, rfl, ha, hsp⟩ := h
  cases ry
  obtain ⟨mA, J, _⟩ := ins_get I.hok ha
  obtain ⟨od, J, _⟩ := J.look
  show wpAny _ _ (contains (.ref a) v >>= fun z => pure (Value.bool z)) _ _ s
  refine wpAny_bind (wpAny_mono (MyD.contains_own (Q := fun b s' => EP X pins σ Q (.bool b) s') I.kIn J M.at_ M.fn ?_) (fun b s' hb => wpAny_pure hb) fun _ _ z => z)
  refine wpAny_mono (run_sub ⟨hr, rfl⟩ F (envSub I ⟨hr, rfl⟩) hb hx I (rv2 a rx) hsp) (fun w s' hq => ?_) fun _ _ z => z
  obtain ⟨z, H', I', rz, b, rfl, q⟩ := hq
  cases rz
  exact ⟨b, rfl, .bl b, H', I', rfl, q⟩
/-- o == y, o an instance with its own __eq__, y anything whose type is not one below o's class -/
def rEqO (K : PySem.W.Frag) (C : Addr) (sp : Sp) (E : XK) : R2 := fun x y H Q => ∃ a dx fs t, x = .ref a ∧ H a = some (.ins C dx fs) ∧ TyX K H y t ∧ PySem.W.notFirst K C t = true ∧ sp [.ref a, y] H (fun v H' => ∃ b, v = .bl b ∧ Q (.bl b) H') E
theorem op_eqO {C : Addr} (hr : Room n X.A) (M : OwnM X.K C "__eq__" f) (F : FnOk X.prog X.w X.K X.mg X.base CI n f fd ps sp) (hb : Binds X.K fd ps []) (hx : Passes CI X EI) : OpR X (compareOp .Eq) (rEqO X.K C sp EI) := by
  intro pins s σ H x y v u Q I rx ry h
  obtain ⟨a, dx, fs, t, rfl, ha, ty, nf, hsp⟩ := h
  cases rx
  obtain ⟨mA, J, _⟩ := ins_get I.hok ha
  obtain ⟨od, J, _⟩ := J.look
  obtain ⟨m, hF⟩ := I.fr
  obtain ⟨P, Z, p, hx'⟩ := kit_of I ry ty
  show wpAny _ _ (richCompare .Eq (.ref a) u) _ _ _
  refine PySem.W.cmp_K (op := .Eq) (tb := t) hr.units0 hF I.ok.mod.kin J (Z.ty _ _ I.kIn p) nf M.at_ M.fn ?_
  refine wpAny_mono (run_sub ⟨hr, rfl⟩ F (envSub I ⟨hr, rfl⟩) hb hx I (rv2 a ry) hsp) (fun w s' hq => ?_) fun _ _ z => z
  obtain ⟨z, H', I', rz, b, rfl, q⟩ := hq
  cases rz
  exact ⟨.bl b, H', I', rfl, q⟩
/-- o != y -/
def rNeO (K : PySem.W.Frag) (C : Addr) (sp : Sp) (E : XK) : R2 := fun x y H Q => ∃ a dx fs t, x = .ref a ∧ H a = some (.ins C dx fs) ∧ TyX K H y t ∧ PySem.W.notFirst K C t = true ∧ sp [.ref a, y] H (fun v H' => ∃ b, v = .bl b ∧ Q (.bl (!b)) H') E
theorem op_neO {C : Addr} (hr : Room (n + 1) X.A) (M : OwnM X.K C "__eq__" f) (hne : PySem.W.findIn X.K (.ref C) "__ne__" = some (some (.builtin "object.__ne__"))) (hob : PySem.W.mroIn X.K C (.type "object") = some true)
    (F : FnOk X.prog X.w X.K X.mg X.base CI n f fd ps sp) (hb : Binds X.K fd ps []) (hx : Passes CI X EI) : OpR X (compareOp .NotEq) (rNeO X.K C sp EI) := by
  intro pins s σ H x y v u Q I rx ry h
  obtain ⟨a, dx, fs, t, rfl, ha, ty, nf, hsp⟩ := h
  cases rx
  obtain ⟨mA, J, _⟩ := ins_get I.hok ha
  obtain ⟨od, J, _⟩ := J.look
  obtain ⟨P, Z, p, hx'⟩ := kit_of I ry ty
  have sb : Sub X n X.A.in1 := Sub.in1 (⟨hr, rfl⟩ : Sub X (n + 1) X.A)
  show wpAny _ _ (richCompare .NotEq (.ref a) u) _ _ _
  refine MyD.ne_own (by have := hr.un; omega) I.kIn J (Z.ty _ _ I.kIn p) nf hne hob M.at_ M.fn ?_
  refine wpAny_mono (run_sub sb F (envSub I sb) hb hx I (rv2 a ry) hsp) (fun w s' hq => ?_) fun _ _ z => z
  obtain ⟨z, H', I', rz, b, rfl, q⟩ := hq
  cases rz
  exact ⟨b, rfl, .bl (!b), H', I', rfl, q⟩
/-- len(o) -/
def rLenO (C : Addr) (sp : Sp) (E : XK) : List V → Hp → VK → Prop := fun xs H Q => ∃ a dx fs, xs = [.ref a] ∧ H a = some (.ins C dx fs) ∧ sp [.ref a] H (fun v H' => ∃ k : Int, v = .int k ∧ 0 ≤ k ∧ k < 2 ^ 63 ∧ Q (.int k) H') E
theorem call_lenO {C : Addr} (hr : Room (n + 1) X.A) (M : OwnM X.K C "__len__" f) (F : FnOk X.prog X.w X.K X.mg X.base CI n f fd ps sp) (hb : Binds X.K fd ps []) (hx : Passes CI X EI) : CallR X (.builtin "len") (rLenO C sp EI) := by
  intro pins s σ H xs us Q I rv h
  obtain ⟨a, dx, fs, rfl, ha, hsp⟩ := h
  obtain ⟨u, rfl, ru⟩ := rv.one
  cases ru
  obtain ⟨mA, J, _⟩ := ins_get I.hok ha
  obtain ⟨od, J, _⟩ := J.look
  obtain ⟨m, hF⟩ := I.fr
  have sb : Sub X n X.A.in1 := Sub.in1 (⟨hr, rfl⟩ : Sub X (n + 1) X.A)
  refine PySem.W.len_K hF I.ok.mod.kin J M.at_ M.fn ?_
  refine wpAny_mono (run_sub sb F (envSub I sb) hb hx I rv hsp) (fun w s' hq => ?_) fun _ _ z => z
  obtain ⟨z, H', I', rz, k, rfl, k0, k1, q⟩ := hq
  obtain ⟨t, rfl⟩ := rz
  exact ⟨⟨k0, k1⟩, .int k, H', I'.tok _, ⟨_, rfl⟩, q⟩
end
end L2

namespace L2
open PySem PySem.Spec PyProof.Rows
/-! ### a base with room behind it: what is not in it is young -/
def deadO : Obj := ⟨.none, none, .freed, #[]⟩
def padB (h : Heap) (n : Nat) : Heap := ⟨h.objs ++ Array.replicate n deadO, h.life⟩
theorem padB_get (h : Heap) (n : Nat) (b : Addr) : (padB h n).get? b = h.get? b := by
  by_cases k : b < h.objs.size
  · have e : (padB h n).objs[b]? = h.objs[b]? := by show (h.objs ++ Array.replicate n deadO)[b]? = _; rw [Array.getElem?_append_left k]
    unfold Heap.get?
    rw [e]
  · have e : h.get? b = none := by
      unfold Heap.get?
      rw [Array.getElem?_eq_none (Nat.le_of_not_lt k)]
    rw [e]
    unfold Heap.get?
    have e2 : (padB h n).objs[b]? = (Array.replicate n deadO)[b - h.objs.size]? := by
      show (h.objs ++ Array.replicate n deadO)[b]? = _
      rw [Array.getElem?_append_right (Nat.le_of_not_lt k)]
    rw [e2, Array.getElem?_replicate]
    split
    · rename_i q
      split at q
      · cases q; rfl
      · cases q
    · rename_i q
      split at q
      · exact absurd rfl (q _ _ _)
      · rw [if_neg (by assumption)]
theorem padB_size (h : Heap) (n : Nat) : (padB h n).objs.size = h.objs.size + n := by
  show (h.objs ++ Array.replicate n deadO).size = _
  rw [Array.size_append, Array.size_replicate]
theorem padB_keeps (h : Heap) (n : Nat) : ∀ b o, h.get? b = some o → (padB h n).get? b = some o := fun b o e => by rw [padB_get]; exact e
theorem Mod.pad {K : PySem.W.Frag} {mg : Str → Option Value} {base : Heap} (m : Mod K mg base) (n : Nat) : Mod K mg (padB base n) :=
  ⟨fun a o e => padB_keeps _ _ _ _ (m.kin a o e), m.glob.keeps (padB_keeps _ _), m.blt.elim fun mb h => ⟨mb, h.1.keeps (padB_keeps _ _), h.2⟩, m.nolimit.keeps (padB_keeps _ _)⟩
theorem funFrames_pad {h base : Heap} (n : Nat) : ∀ {l : List Env}, h.FunFrames base l → h.FunFrames (padB base n) l
  | [], _ => True.intro
  | _ :: _, ⟨a, ⟨L, o, e1, e2, e3⟩, r⟩ => ⟨a, ⟨L, o, e1, by rw [padB_get]; exact e2, e3⟩, funFrames_pad n r⟩
theorem Env0.pad {P : Program} {w : World} {K : PySem.W.Frag} {mg : Str → Option Value} {base : Heap} {A : Around} {outer : List Env} {s : Shared} {H : Hp} (e : Env0 P w K mg base A outer s H) {n : Nat} (hn : base.objs.size + n ≤ s.heap.objs.size) :
    Env0 P w K mg (padB base n) A outer s H := ⟨e.frames, e.mod.pad n, fun b o q => e.bs b o (by rw [padB_get] at q; exact q), by rw [padB_size]; exact hn, funFrames_pad n e.funs, e.frf, e.hok, e.bare⟩
/-! ### iter(tuple) as a value -/
def itT (l : Addr) (i : Nat) : Obj := { cls := .type "tuple_iterator", data := .fields #[.ref l, .int i 0] }
def ItoT (l it : Addr) : HO := .ext fun h => h.get? it = some (itT l 0)
theorem itoT_ok {P : Program} {w : World} {H : Hp} {h : Heap} {l it : Addr} (e : h.get? it = some (itT l 0)) : ObjOk P w H h it (ItoT l it) := ⟨e, ⟨_, e⟩, fun h1 h2 q k => k _ q⟩
def rIterT (K : PySem.W.Frag) (n : Nat) : List V → Hp → VK → Prop := fun xs H Q => ∃ (l : Addr) (zs : List V), xs = [.ref l] ∧ SqT K H l zs ∧ ∀ it, H it = Option.none → n ≤ it → Q (.ref it) (upd H it (ItoT l it))
section
variable {X : Cx} {pins : List (Addr × Obj)} {σ : St} {H : Hp} {s : Shared}
theorem call_iter_tup {prog : Program} {w : World} {A : Around} {E : Value → Shared → Prop} {l : Addr} {items : Array Value} {Q : Value → Shared → Prop} (hl : s.heap.IsTuple l items) (h : Q (.ref s.heap.objs.size) { s with heap := s.heap.push (itT l 0) }) : wpAny (model prog w) A (call (.builtin "iter") [.ref l]) Q E s := by
  refine Calls.call_function_entry (by decide +kernel) (by decide +kernel) PySem.W.kdk_entry_iter (PySem.W.kdk_args_iter _) ?_
  unfold Builtin.«iter»
  refine wpAny_bind (m := someArgs "iter" 1 2 _) (wpAny_of_eq (a := [Value.ref l]) (by first | rfl | kernel_rfl!) ?_)
  show wpAny _ _ (pyIter (.ref l) >>= _) _ _ _
  refine wpAny_bind (wpAny_pyIter_tuple hl ?_)
  exact wpAny_pure ⟨_, rfl, h⟩
theorem call_iterT : CallR X (.builtin "iter") (rIterT X.K X.base.objs.size) := by
  intro pins s σ H xs us Q I r h
  obtain ⟨l, zs, rfl, hq, q⟩ := h
  obtain ⟨u, rfl, ru⟩ := vals1 r
  cases ru
  obtain ⟨its, rv, pl, hz⟩ := I.tuple hq
  refine call_iter_tup (show s.heap.IsTuple l its.toArray from pl) ?_
  exact ⟨.ref s.heap.objs.size, _, I.laid (t' := s.toks) (fun b u e => Heap.get?_push_of_some _ e) (Nat.le_refl _) (itoT_ok (Heap.get?_push_size _ rfl)), rfl, q _ (I.hok.fresh (Nat.le_refl _)) (Nat.le_trans I.ok.bsz I.sz)⟩
theorem rv1 (a : Addr) : Vals [V.ref a] [Value.ref a] := .cons rfl .nil
/-! ### walked: an instance whose __iter__ gives iter(tuple) -/
/-- what __iter__ promises: N of the instance is a tuple at l -/
def spIter (K : PySem.W.Frag) (C : Addr) (N : Str) (n : Nat) : Sp := fun vs H Q _ => ∃ a dx fs l zs, vs = [.ref a] ∧ H a = some (.ins C dx fs) ∧ fs.lookup N = some (.ref l) ∧ SqT K H l zs ∧ ∀ it, H it = none → n ≤ it → Q (.ref it) (upd H it (ItoT l it))
def iOwn (K : PySem.W.Frag) (C : Addr) (N : Str) (te : TE) : TI := fun σ H R => te σ H fun x H1 => ∃ a dx fs l zs, x = .ref a ∧ H1 a = some (.ins C dx fs) ∧ fs.lookup N = some (.ref l) ∧ SqT K H1 l zs ∧ R (Itt K l) H1
variable {tg e : Expr} {te : TE} {C f : Addr} {fd : FuncData} {N : Str} {ps : List Str} {n : Nat}
theorem pi_own (hr : Room n X.A) (M : OwnM X.K C "__iter__" f) (Fi : ∀ base, FnOk X.prog X.w X.K X.mg base CX0 n f fd ps (spIter X.K C N base.objs.size)) (hb : Binds X.K fd ps []) (he : PE X e te) : PI X tg e (iOwn X.K C N te) := by
  refine ⟨fun pins s σ H R I h => ?_⟩
  refine thn (he.run pins s σ H _ I h) fun v s1 ⟨x, H1, I1, r1, q1⟩ => ?_
  obtain ⟨a, dx, fs, l, zs, rfl, ha, hf, hl, q⟩ := q1
  cases r1
  obtain ⟨mA, J, _⟩ := ins_get I1.hok ha
  obtain ⟨od, J, _⟩ := J.look
  obtain ⟨m, hF⟩ := I1.fr
  have sb : Sub X n X.A := ⟨hr, rfl⟩
  refine PySem.W.owit_iter hF I1.ok.mod.kin J M.at_ M.fn ?_
  have hsz : X.base.objs.size + (X.s_0.heap.objs.size - X.base.objs.size) = X.s_0.heap.objs.size := by have := I1.ok.bsz; omega
  have e0 := (envSub I1 sb).pad (n := X.s_0.heap.objs.size - X.base.objs.size) (by rw [hsz]; exact I1.sz)
  refine wpAny_mono (run_sub (Q := fun v H' => ∃ it, v = .ref it ∧ H1 it = none ∧ X.s_0.heap.objs.size ≤ it ∧ H' = upd H1 it (ItoT l it)) sb (Fi _) e0 hb (EI := fun _ _ _ => False) pass0 I1 (rv1 a) ⟨a, dx, fs, l, zs, rfl, ha, hf, hl, fun it h1 h2 => ⟨it, rfl, h1, by rw [padB_size, hsz] at h2; exact h2, rfl⟩⟩) (fun w s' hq => ?_) fun _ _ z => z
  obtain ⟨z, H', I', rz, it, rfl, hn, hy, rfl⟩ := hq
  cases rz
  have hit : upd H1 it (ItoT l it) it = some (ItoT l it) := upd_same
  have eo : s'.heap.get? it = some (itT l 0) := (I'.hok it _ hit).1
  have st : s'.heap.IsTupleIter it l 0 := ⟨_, eo, rfl, rfl⟩
  unfold PySem.W.OwitIt
  refine wpAny_specialOf st.typeIs PySem.F.slot_tuple_iterator_next.lookup ?_
  have hd : ItX.dropH (upd H1 it (ItoT l it)) it = H1 := ItX.dropH_upd hn
  have I2 := ItX.inv_drop I' (a := it) (φ := fun h => h.get? it = some (itT l 0)) hit
  have fp := ItX.inv_fp I' hit hy
  rw [hd] at I2 fp
  refine ⟨it, [it], _, _, H1, rfl, I2, turn_tuple l it, st, fun b hb => ?_, q⟩
  have e : b = it := by simpa using hb
  rw [e]
  exact fp
end
end L2

namespace PySem
namespace MyE
open PySem.W
/-- enumerate(v), one argument -/
theorem new1 {v : Value} {o : Obj} {H : Heap → Prop} (B : Begins v o H) :
    Meets (Builtin.«enumerate.__new__» ⟨[.type "enumerate", v], []⟩) (fun _ R s => H s.heap ∧
      R (.ok (.ret (.ref (s.heap.push o).objs.size))) { s with heap := (s.heap.push o).push { cls := .type "enumerate", data := .fields #[.none, .bool false, .ref s.heap.objs.size, rawInt 0, .none, .none] } }) :=
  .of_wp fun P1 w1 A1 R1 s1 z => by
    obtain ⟨hp, gs, dr, tk, oz⟩ := s1
    obtain ⟨z1, z2⟩ := z
    have subE := sub_enumerate
    have its : ∀ {A' : Around} {E : Value → Shared → Prop} {Q : Value → Shared → Prop}, Q (.ref hp.objs.size) ⟨hp.push o, gs, dr, tk, oz⟩ → wpAny (model P1 w1) A' (pyIter v) Q E ⟨hp, gs, dr, tk, oz⟩ :=
      fun q => B.iter P1 w1 _ _ ⟨hp, gs, dr, tk, oz⟩ _ z1 q
    wp_walk using its
    refine wpAny_stack_any fun _ => wpAny_pure ?_
    split
    · rename_i c _ _ _ _ _
      cases (c == Value.type "enumerate") <;> (wp_walk using its; exact ⟨_, rfl, z2⟩)
    · wp_walk using its
      exact ⟨_, rfl, z2⟩
theorem call1 {prog : Program} {w : World} {A : Around} {E : Value → Shared → Prop} {s : Shared} {v : Value} {o : Obj} {H : Heap → Prop} {Q : Value → Shared → Prop} (B : Begins v o H) (h1 : H s.heap)
    (h : ∀ h', IsEnum h' (s.heap.objs.size + 1) s.heap.objs.size 0 .none → h'.get? s.heap.objs.size = some o → (∀ b u, s.heap.get? b = some u → h'.get? b = some u) → Q (.ref (s.heap.objs.size + 1)) { s with heap := h' }) :
    wpAny (model prog w) A (call (.type "enumerate") [v]) Q E s := by
  refine callType_new F.called_enumerate (by decide) (F.typeCall_enumerate_1 _) (F.newCall_enumerate_1 _) (fun obj => F.args_object_init_2 obj _) F.entry_enumerate_new (new1 B) ⟨h1, ?_⟩
  have hz : (s.heap.push o).objs.size = s.heap.objs.size + 1 := Heap.size_push ..
  have he := Heap.get?_push_size (s.heap.push o) (o := { cls := .type "enumerate", data := .fields #[.none, .bool false, .ref s.heap.objs.size, rawInt 0, .none, .none] }) rfl
  show _ ∧ _
  rw [hz] at he ⊢
  exact ⟨⟨_, he, rfl⟩, h _ he (Heap.get?_push_of_some _ (Heap.get?_push_size _ B.free)) fun b u x => Heap.get?_push_of_some _ (Heap.get?_push_of_some _ x)⟩
end MyE
end PySem
namespace L2
open PySem PySem.Spec PyProof.Rows
/-! ### enumerate(tuple) -/
def IteT (K : PySem.W.Frag) (a : Addr) : It :=
  ⟨fun i H => ∃ (xs : List V) (x : V), SqT K H a xs ∧ xs[i]? = some x, fun i H v H' => ∃ T x, v = .ref T ∧ H T = none ∧ H' = upd H T (.tup [.int (i : Nat), x]) ∧ ∀ xs, SqT K H a xs → xs[i]? = some x, fun i H => ∃ xs : List V, SqT K H a xs ∧ xs.length = i⟩
theorem enum_ne {h : Heap} {e it l : Addr} {i : Int} {old : Value} {items : Array Value} (he : IsEnum h e it i old) (hl : h.IsTuple l items) : l ≠ e := fun z => by
  obtain ⟨o, ho, _, n, hd⟩ := hl
  rw [z, he] at ho
  cases ho
  cases hd
theorem iterT_ne {h : Heap} {it l : Addr} {i : Nat} {items : Array Value} (hi : h.IsTupleIter it l i) (hl : h.IsTuple l items) : l ≠ it := fun z => by
  obtain ⟨o, ho, _, n, hd⟩ := hl
  obtain ⟨o2, ho2, _, hd2⟩ := hi
  rw [z, ho2] at ho
  cases ho
  rw [hd2] at hd
  cases hd
theorem turn_enumT {P : Program} {w : World} {K : PySem.W.Frag} {elts : List Expr} {kk : Nat} {tpos : Pos} (a e it : Addr) :
    Turn P w K (.Tuple elts kk tpos) (IteT K a) [e, it] e (fun i h => (∃ old, IsEnum h e it ((i : Nat) : Int) old) ∧ h.IsTupleIter it a i ∧ e ≠ it) where
  mem := List.mem_cons_self
  obj := fun i h st b hb => by
    obtain ⟨⟨old, he⟩, ⟨o, ho, hc, hd⟩, _⟩ := st
    rcases List.mem_cons.mp hb with rfl | hb
    · exact ⟨_, he, fun v q => nomatch q⟩
    · rw [List.mem_singleton.mp hb]
      exact ⟨o, ho, fun v q => by rw [hd] at q; cases q⟩
  keep := fun i h h' st k => ⟨st.1.elim fun old z => ⟨old, k e List.mem_cons_self _ z⟩, st.2.1.at fun o q => k it (List.mem_cons_of_mem _ List.mem_cons_self) o q, st.2.2⟩
  item := by
    intro X hP hw hK hc i pins s σ H E I hf st hg
    subst hP hw hK
    obtain ⟨⟨old, he⟩, hit, hne⟩ := st
    obtain ⟨xs, x, hq, hx⟩ := hg
    obtain ⟨its, rv, p, hz⟩ := I.tuple hq
    obtain ⟨u, hu, ru⟩ := rv.get hx
    have pt : s.heap.IsTuple a its.toArray := p
    have hel : e < s.heap.objs.size := Heap.lt_size he
    have hlen : i < its.toArray.size := by
      rw [List.size_toArray]
      exact (List.getElem?_eq_some_iff.mp hu).1
    refine wpAny_pyNext_enum_itemD (Draws.tuple (A := X.A.in1) (I.ok.hd hc) it a (iterT_ne hit pt) its.toArray) he ⟨hit, pt⟩ hlen hne (by
      intro z
      rcases List.mem_cons.mp z with z | z
      · exact hne z
      · exact enum_ne he pt (List.mem_singleton.mp z).symm) fun y h' tk hy ho hit' hT hsz hk => ?_
    have ey : y = u := by
      rw [List.getElem?_toArray, hu] at hy
      exact (Option.some.inj hy).symm
    subst ey
    refine ⟨_, rfl, wpAny_letOwnedTupleGo_enum (s := { s with heap := h', toks := tk + 1 }) ho fun h'' he' sb => ?_⟩
    have hT2 : h''.get? s.heap.objs.size = some { cls := .type "tuple", data := .seq #[.int i tk, y] } := (sb.2 _ (Nat.ne_of_gt hel)).trans hT
    have new : ObjOk X.prog X.w (upd H s.heap.objs.size (.tup [.int (i : Nat), x])) h'' s.heap.objs.size (.tup [.int (i : Nat), x]) :=
      ⟨Nat.le_of_ble_eq_true rfl, [.int i tk, y], .cons ⟨_, rfl⟩ (.cons ru .nil), ⟨_, hT2, rfl, _, rfl⟩⟩
    have I1 : Inv X pins σ (upd H s.heap.objs.size (.tup [.int (i : Nat), x])) { s with heap := h'', toks := tk + 1 } :=
      I.turnedNew (ch := [e, it]) (fun b ob hb q => (sb.2 b (fun z => hb (by simp [z]))).trans (hk b ob (fun z => hb (by simp [z])) (fun z => hb (by simp [z])) q)) hf (Nat.le_refl _) new
    have hfr : H s.heap.objs.size = none := I.hok.fresh (Nat.le_refl _)
    refine ⟨.ref s.heap.objs.size, _, I1, rfl, ⟨_, x, rfl, hfr, rfl, fun ys hy => by rw [I.tuple_inj hy hq]; exact hx⟩, ⟨⟨y, ?_⟩, hit'.1.at fun o q => (sb.2 it (Ne.symm hne)).trans q, hne⟩, fun b hb => ?_⟩
    · have e1 : ((i + 1 : Nat) : Int) = (i : Int) + 1 := by omega
      rw [e1]
      exact he'
    · have bl : b < s.heap.objs.size := by
        rcases List.mem_cons.mp hb with rfl | hb
        · exact hel
        · rw [List.mem_singleton.mp hb]
          obtain ⟨_, z, _⟩ := hit
          exact Heap.lt_size z
      rw [upd_ne (Nat.ne_of_lt bl)]
      exact (hf b hb).1
  done := by
    intro X hP hw hK hc i pins s σ H E I hf st hg
    subst hP hw hK
    obtain ⟨⟨old, he⟩, hit, hne⟩ := st
    obtain ⟨xs, hq, hx⟩ := hg
    obtain ⟨its, rv, p, hz⟩ := I.tuple hq
    obtain ⟨f0, f1, f2, f3, f4, f5⟩ := hf it (List.mem_cons_of_mem _ List.mem_cons_self)
    have pt : s.heap.IsTuple a its.toArray := p
    have hn : its.toArray.size = i := by
      rw [List.size_toArray, ← rv.length]
      exact hx
    exact wpAny_pyNext_enum_endD (Draws.tuple (A := X.A.in1) (I.ok.hd hc) it a (iterT_ne hit pt) its.toArray) he (by rw [hn]; exact ⟨hit, pt⟩) fun h' eb => ⟨rfl, I.turned (t' := s.toks) (fun b o hb q => eb b o hb q) f0 f1 f3 f4 f5⟩
  self := fun A i s Q E st h => st.1.elim fun _ he => wpAny_pyIter_enum he h
def iEnumT (K : PySem.W.Frag) (ta : TA) : TI := fun σ H R => ta σ H fun vs H1 => ∃ a xs, vs = [.ref a] ∧ SqT K H1 a xs ∧ R (IteT K a) H1
/-- enumerate of a list or of a tuple -/
def iEnumS (K : PySem.W.Frag) (ta : TA) : TI := fun σ H R => ta σ H fun vs H1 => ∃ a xs, vs = [.ref a] ∧ ((SqL K H1 a xs ∧ R (Ite K a) H1) ∨ (SqT K H1 a xs ∧ R (IteT K a) H1))
theorem pi_enumS {X : Cx} {e : Expr} {ta : TA} {p pos tpos : Pos} {elts : List Expr} {kk : Nat} (hg : Gl X "enumerate") (hm : X.mg "enumerate" = none) (ha : PA X [e] ta) (hs : starEach [e] X.env = [(false, eval e X.env)] := by rfl) :
    PI X (.Tuple elts kk tpos) (.Call (.Name "enumerate" p) [e] [] pos) (iEnumS X.K ta) := by
  refine ⟨fun pins s σ H R I h => ?_⟩
  refine Call_ (ld_blt I hg hm boot_enumerate (PyProof.Rows.callWith_type1 (thn (ha.run pos pins s σ H _ I h) fun us s1 ⟨vs, H1, I1, r1, q1⟩ => ?_) hs rfl))
  obtain ⟨a, xs, rfl, q⟩ := q1
  obtain ⟨u, rfl, ru⟩ := r1.one
  cases ru
  have young : ∀ b, b ∈ [s1.heap.objs.size + 1, s1.heap.objs.size] → s1.heap.objs.size ≤ b := fun b hb => by
    rcases List.mem_cons.mp hb with z | z
    · rw [z]; exact Nat.le_add_right _ _
    · rw [List.mem_singleton.mp z]; exact Nat.le_refl _
  rcases q with ⟨hq, q⟩ | ⟨hq, q⟩
  · obtain ⟨its, rv, p', hz⟩ := I1.list hq
    refine MyE.call1 (begins_list a its.toArray) p'.isList fun h' he hit hk => wpAny_pyIter_enum he ?_
    exact ⟨s1.heap.objs.size + 1, [s1.heap.objs.size + 1, s1.heap.objs.size], _, _, H1, rfl, I1.kept (t' := s1.toks) hk, turn_enum a (s1.heap.objs.size + 1) s1.heap.objs.size, ⟨⟨.none, he⟩, ⟨_, hit, rfl, rfl⟩, Nat.succ_ne_self _⟩, fun b hb => I1.fpOk (young b hb) (I1.hok.fresh (young b hb)), q⟩
  · obtain ⟨its, rv, p', hz⟩ := I1.tuple hq
    refine MyE.call1 (begins_tuple a its.toArray) (show s1.heap.IsTuple a its.toArray from p') fun h' he hit hk => wpAny_pyIter_enum he ?_
    exact ⟨s1.heap.objs.size + 1, [s1.heap.objs.size + 1, s1.heap.objs.size], _, _, H1, rfl, I1.kept (t' := s1.toks) hk, turn_enumT a (s1.heap.objs.size + 1) s1.heap.objs.size, ⟨⟨.none, he⟩, ⟨_, hit, rfl, rfl⟩, Nat.succ_ne_self _⟩, fun b hb => I1.fpOk (young b hb) (I1.hok.fresh (young b hb)), q⟩
theorem walk_enumT {K : PySem.W.Frag} {a : Addr} {xs : List V} : Walk (IteT K a) xs.length (fun H => SqT K H a xs) (YPair (fun i => some (.int (i : Nat))) (fun i => xs[i]?)) := by
  refine ⟨fun i _ hi q => ⟨xs, xs[i], q, by simp [hi]⟩, fun _ q => ⟨xs, q, rfl⟩, fun i H v H' _ q y => ?_⟩
  obtain ⟨T, x, h1, h2, h3, h4⟩ := y
  exact ⟨T, .int (i : Nat), x, h1, h2, h3, rfl, h4 xs q⟩
end L2

namespace L2
open PySem
theorem SqT.extX {K : PySem.W.Frag} {H H' : Hp} {a : Addr} {xs : List V} (h : SqT K H a xs) (e : Ext H H') : SqT K H' a xs := SqT.ext h e
theorem TyX.ext {K : PySem.W.Frag} {H H' : Hp} {x : V} {t : Value} (h : TyX K H x t) (e : Ext H H') : TyX K H' x t := by
  cases h with
  | base h =>
    refine .base ?_
    cases h with
    | non => exact .non
    | bl x => exact .bl x
    | int i => exact .int i
    | str x => exact .str x
    | flt x => exact .flt x
    | lst z => exact .lst (e _ _ z)
    | frz z => exact .frz (e _ _ z)
    | tup z => exact .tup (e _ _ z)
    | dK z => exact .dK (e _ _ z)
    | dT z => exact .dT (e _ _ z)
    | ins z a b c d f => exact .ins (e _ _ z) a b c d f
  | byt b => exact .byt b
  | set z => exact .set (e _ _ z)
  | kList z c => exact .kList z c
  | kTuple z c => exact .kTuple z c
  | kDict z c => exact .kDict z c
  | fTuple z => exact .fTuple (e _ _ z)
  | fDict z => exact .fDict (e _ _ z)
/-- a place that was free may be written -/
theorem Ext.over {H H' : Hp} {D : Addr} {o : HO} (x : Ext H H') (h : H D = none) : Ext H (L2.upd H' D o) := fun a u e => by
  rw [upd_ne (ne_of_none e h)]
  exact x a u e
theorem tyx_lst {K : PySem.W.Frag} {H : Hp} {a : Addr} {xs : List V} (h : H a = some (.lst xs)) : TyX K H (.ref a) (.type "list") := .base (.lst h)
theorem tyx_tup {K : PySem.W.Frag} {H : Hp} {a : Addr} {xs : List V} (h : H a = some (.tup xs)) : TyX K H (.ref a) (.type "tuple") := .base (.tup h)
end L2
namespace My
open PySem PySem.Spec PyProof.Rows L2
theorem scIsList : FnScope ["thing"] ["thing"] (defScope sIsList) := ⟨rfl, rfl, rfl, by decide +kernel, rfl, by decide +kernel, by decide +kernel⟩
theorem scIsName : FnScope ["thing", "letter"] ["thing"] (defScope sIsName) := ⟨rfl, rfl, rfl, by decide +kernel, rfl, by decide +kernel, by decide +kernel⟩
theorem lcYes {σ : L2.St} {H : Hp} {A B : Hp → Prop} (h : A H) : tYes σ H (fun b H3 => if b = true then A H3 else B H3) := by
  show (if true = true then A H else B H)
  rw [if_pos rfl]
  exact h
def letters : Str := "abcdefghijklmnopqrstuvwxyz"
def signB (z : Str) : List Bool := z.cps.toList.map fun c => decide (c ∈ letters.cps.toList)
theorem sign_snoc {z : Str} {i c : Nat} (h : z.cps[i]? = some c) : (signB z).take i ++ [decide (c ∈ letters.cps.toList)] = (signB z).take (i + 1) := by
  have e : (signB z)[i]? = some (decide (c ∈ letters.cps.toList)) := by
    unfold signB
    rw [List.getElem?_map, Array.getElem?_toList, h]
    rfl
  rw [List.take_add_one, e]
  rfl
def nameB (z : Str) : Bool := decide ((1 : Int) ≤ z.length) && (decide ((z.length : Int) ≤ 8) && (signB z).all id)
/-- isinstance(x, (list, tuple)) -/
def spIsList (K : PySem.W.Frag) : Sp := fun vs H Q _ => ∃ x t b, vs = [x] ∧ TyX K H x t ∧ PySem.W.kitAny K t [.type "list", .type "tuple"] = some b ∧ ∀ H', Ext H H' → Q (.bl b) H'
/-- whether x is a name -/
def spIsName (K : PySem.W.Frag) : Sp := fun vs H Q _ => ∃ x, vs = [x] ∧ ((∃ z, x = .str z ∧ z.length ≤ sizeLine ∧ ∀ H', Ext H H' → Q (.bl (nameB z)) H') ∨ (∃ t, TyX K H x t ∧ PySem.W.kitOne K t (.type "str") = some false ∧ ∀ H', Ext H H' → Q (.bl false) H'))
section
variable {P : Program} {w : World} {K : PySem.W.Frag} {mg : Str → Option Value} {base : Heap} {f : Addr} {fd : FuncData}
theorem ok_isList (Fn : FnP K "is_list" sIsList f fd) (gI : mg "isinstance" = none) (gL : mg "list" = none) (gT : mg "tuple" = none) : FnOk P w K mg base CX0 1 f fd ["thing"] (spIsList K) := by
  refine Fn.ok scIsList (fun vs H Q E h => ?_) (fun cdv A outer s H vs Q E hr h => ⟨_, PSs.nox
    (pss_one (ps_ret (pe_callB call_isiT (by rfl) gI boot_isinstance (pa_cons (pv 0) (pa_cons (pe_tup (pa_cons (pe_bltn (v := .ty "list") (by rfl) gL boot_list rfl) (pa_cons (pe_bltn (v := .ty "tuple") (by rfl) gT boot_tuple rfl) pa_nil))) pa_nil))))), ?_⟩)
  · obtain ⟨x, t, b, rfl, _⟩ := h
    rfl
  · obtain ⟨x, t, b, rfl, ty, kt, q⟩ := h
    exact ⟨_, rfl, Nat.le_of_ble_eq_true rfl, fun p hp => ⟨x, p, [.ty "list", .ty "tuple"], t, _, b, rfl, upd_same, .cons (.ty _) (.cons (.ty _) .nil), ty.ext (Ext.upd hp), kt, q _ (Ext.upd hp)⟩⟩
theorem ok_isName (Fn : FnP K "is_name" sIsName f fd) (gI : mg "isinstance" = none) (gS : mg "str" = none) (gN : mg "len" = none) (gA : mg "all" = none) {t8 tL : Tok} (g8 : mg "LONGEST" = some (.int 8 t8)) (gL : mg "LETTERS" = some (.str letters tL)) :
    FnOk P w K mg base CX0 1 f fd ["thing"] (spIsName K) := by
  refine Fn.ok scIsName (fun vs H Q E h => ?_) (fun cdv A outer s H vs Q E hr h => ⟨_, PSs.nox
    (pss_cons (ps_if (PW.pt (pw_or (pt_not (pt_val (pe_callB call_isi (by rfl) gI boot_isinstance (pa_cons (pv 0) (pa_cons (pe_bltn (v := .ty "str") (by rfl) gS boot_str rfl) pa_nil)))))
        (pw_or1 (pt_not (pt_chain op_le op_le pe_int (pe_callB call_len (by rfl) gN boot_len (pa_cons (pv 0) pa_nil)) (pe_glob (v := .int 8) (by rfl) g8 ⟨_, rfl⟩)))))) (pss_one (ps_ret pe_bl)) pss_nil)
    (pss_one (ps_ret (pe_callB (cr_all rfl) (by rfl) gA boot_all (pa_cons (pe_lc (own := [("letter", 1)]) (g := gName 1) (tt := tYes) rfl scIsName.nd (pi_str (pv 0)) (blkOk_by (N := ["thing", "letter"]) (sc := defScope sIsName) (by decide +kernel))
      (fun _ _ _ _ _ => pg_name (i := 1) scIsName.nd rfl (Or.inl rfl)) (fun _ _ _ _ _ => pts_nil) (fun _ _ _ _ _ => pe_cmpR op_in_sign (pv 1) (pe_glob (v := .str letters) (by rfl) gL ⟨_, rfl⟩) (by rfl))) pa_nil))))), ?_⟩)
  · obtain ⟨x, rfl, _⟩ := h
    rfl
  · obtain ⟨x, rfl, h⟩ := h
    rcases h with ⟨z, rfl, hz, q⟩ | ⟨t, ty, kt, q⟩
    · refine ⟨_, rfl, .str z, .ty "str", .type "str", .type "str", true, rfl, .ty _, .base (.str _), kit_ty (by decide +kernel), true, rfl, ?_⟩
      refine iteF ?_
      refine ⟨_, rfl, .str z, z.length, rfl, ⟨hz, rfl⟩, _, _, rfl, rfl, _, rfl, ?_⟩
      refine ite2 (fun h1 => ?_) (fun h1 => ?_)
      · refine ⟨_, _, rfl, rfl, _, rfl, ?_⟩
        refine ite2 (fun h2 => ?_) (fun h2 => ?_)
        · have h2' : (!decide ((z.length : Int) ≤ 8)) = true := h2
          have q1 := q H Ext.rfl'
          have e : nameB z = false := by
            unfold nameB
            rw [show decide ((z.length : Int) ≤ 8) = false by simpa using h2', Bool.false_and, Bool.and_false]
          rw [e] at q1
          exact q1
        · have e2 : decide ((z.length : Int) ≤ 8) = true := by simpa using h2
          have e1 : decide ((1 : Int) ≤ z.length) = true := h1
          refine ⟨_, rfl, _, rfl, fun D hD => lc_it (walk_str (z := z)) (fun i H' => Ext H H' ∧ H' D = some (.lst (((signB z).take i).map V.bl))) ⟨Ext.upd hD, upd_same⟩ (fun _ _ _ _ => True.intro) ?_ ?_⟩
          · intro i x H1 H2 hi ⟨x1, l1⟩ hy
            obtain ⟨rfl, c, hc, rfl⟩ := hy
            refine ⟨rfl, ?_⟩
            refine lcYes ?_
            refine ⟨_, rfl, c, letters, rfl, rfl, _, l1, ?_, ?_, ?_⟩
            · rw [List.length_map, List.length_take]
              exact Nat.lt_of_le_of_lt (Nat.min_le_left _ _) (Nat.lt_of_lt_of_le hi hz)
            · exact x1.over hD
            · rw [upd_same, ← sign_snoc hc, List.map_append]
              rfl
          · intro H1 ⟨x1, l1⟩
            refine ⟨D, signB z, rfl, ?_, ?_⟩
            · have e : (signB z).take z.cps.size = signB z := by
                rw [List.take_of_length_le]
                unfold signB
                rw [List.length_map, Array.length_toList]
                exact Nat.le_refl _
              rw [e] at l1
              exact SqL.of l1
            · have e : nameB z = (signB z).all id := by
                unfold nameB
                rw [e1, e2, Bool.true_and, Bool.true_and]
              rw [← e]
              exact q H1 x1
      · have e1 : decide ((1 : Int) ≤ z.length) = false := by simpa using h1
        have e : nameB z = false := by
          unfold nameB
          rw [e1, Bool.false_and]
        have q1 := q H Ext.rfl'
        rw [e] at q1
        exact ⟨_, rfl, q1⟩
    · refine ⟨_, rfl, x, .ty "str", t, .type "str", false, rfl, .ty _, ty, kt, false, rfl, ?_⟩
      exact q _ Ext.rfl'
end
end My

namespace My
open PySem PySem.Spec PyProof.Rows L2
theorem scWrongName : FnScope ["things", "at", "thing"] ["things"] (defScope sWrongName) := ⟨rfl, rfl, rfl, by decide +kernel, rfl, by decide +kernel, by decide +kernel⟩
/-- what may be told to is_name -/
def Thing (K : PySem.W.Frag) (H : Hp) (x : V) : Prop := (∃ z, x = .str z ∧ z.length ≤ sizeLine) ∨ ((∀ z, x ≠ .str z) ∧ ∃ t, TyX K H x t ∧ PySem.W.kitOne K t (.type "str") = some false)
theorem Thing.ext {K : PySem.W.Frag} {H H' : Hp} {x : V} (h : Thing K H x) (e : Ext H H') : Thing K H' x := by
  rcases h with h | ⟨n, t, ty, k⟩
  · exact .inl h
  · exact .inr ⟨n, t, ty.ext e, k⟩
def nameV : V → Bool
  | .str z => nameB z
  | _ => false
theorem nameV_flat {x : V} (h : nameV x = true) : flatV x = true := by
  cases x <;> first | rfl | exact absurd (show false = true from h) Bool.false_ne_true
/-- the i-th is no name or stood before -/
def badAt (xs : List V) (i : Nat) : Bool := match xs[i]? with
  | some y => !nameV y || inV y (xs.take i)
  | none => false
def SeqAt2 (K : PySem.W.Frag) (H : Hp) (a : Addr) (xs : List V) : Prop := SqL K H a xs ∨ SqT K H a xs
theorem SeqAt2.ext {K : PySem.W.Frag} {H H' : Hp} {a : Addr} {xs : List V} (h : SeqAt2 K H a xs) (e : Ext H H') : SeqAt2 K H' a xs := h.elim (fun z => .inl (z.ext e)) fun z => .inr (z.ext e)
/-- the first wrong one's place | None -/
def spWrongName (K : PySem.W.Frag) : Sp := fun vs H Q _ => ∃ a xs, vs = [.ref a] ∧ SeqAt2 K H a xs ∧ (∀ y ∈ xs, Thing K H y) ∧ (∀ H', Ext H H' → (∀ i, i < xs.length → badAt xs i = false) → Q .non H') ∧
  ∀ i H', Ext H H' → i < xs.length → badAt xs i = true → (∀ j, j < i → badAt xs j = false) → Q (.int (i : Nat)) H'
theorem cut_take {xs : List V} {i : Nat} (h : i < xs.length) : cutV xs none (some ((i : Nat) : Int)) = xs.take i := by
  unfold cutV
  rw [HT.sIx_none, HT.sIx_nat, Nat.min_eq_left (Nat.le_of_lt h), Nat.sub_zero, List.drop_zero]
theorem flat_take {xs : List V} {i : Nat} (hb : ∀ j, j < i → badAt xs j = false) : (xs.take i).all flatV = true := by
  rw [List.all_eq_true]
  intro y hy
  obtain ⟨j, hj, e⟩ := List.getElem_of_mem hy
  rw [List.length_take] at hj
  have h2 : xs[j]? = some y := by
    rw [List.getElem_take] at e
    rw [← e]
    exact List.getElem?_eq_getElem _
  have h3 := hb j (Nat.lt_of_lt_of_le hj (Nat.min_le_left _ _))
  unfold badAt at h3
  rw [h2] at h3
  have h4 : nameV y = true := by
    cases h5 : nameV y with
    | true => rfl
    | false =>
      rw [show (match some y with | some y => !nameV y || inV y (xs.take j) | none => false) = (!nameV y || inV y (xs.take j)) from rfl, h5] at h3
      exact absurd h3 (by simp)
  exact nameV_flat h4
section
variable {P : Program} {w : World} {K : PySem.W.Frag} {mg : Str → Option Value} {base : Heap} {f fN : Addr} {fd fdN : FuncData}
theorem ok_wrongName (Fn : FnP K "wrong_name" sWrongName f fd) (FN : FnOk P w K mg base CX0 1 fN fdN ["thing"] (spIsName K)) (gN : mg "is_name" = some (.ref fN)) (kN : PySem.W.keepIn K (.ref fN) = true) (bN : Binds K fdN ["thing"] []) (gE : mg "enumerate" = none) :
    FnOk P w K mg base CX0 2 f fd ["things"] (spWrongName K) := by
  refine Fn.ok scWrongName (fun vs H Q E h => ?_) (fun cdv A outer s H vs Q E hr h => ⟨_, PSs.nox
    (pss_cons (ps_for PassesOwn.never rfl (pi_enumS (by rfl) gE (pa_cons (pv 0) pa_nil)) (pg_tup rfl (pgs_cons (pg_name (i := 1) scWrongName.nd rfl (Or.inl rfl)) (pgs_cons (pg_name (i := 2) scWrongName.nd rfl (Or.inl rfl)) pgs_nil)))
      (pss_one (ps_if (PW.pt (pw_or (pt_not (pt_val (pe_call FN hr (by rfl) gN kN bN .nil pass0 (pa_cons (pv 2) pa_nil))))
        (pw_or1 (pt_cmpR op_in_seq (pv 2) (pe_slice (sl_list.or sl_tupA) (pv 0) po_none (po_some (pv 1))) (by rfl))))) (pss_one (ps_ret (pv 1))) pss_nil)))
    (pss_one (ps_ret pe_non))), ?_⟩)
  · obtain ⟨a, xs, rfl, _⟩ := h
    rfl
  · obtain ⟨a, xs, rfl, sq, th, q0, q1⟩ := h
    refine ⟨_, rfl, a, xs, rfl, ?_⟩
    rcases sq with sq | sq
    · refine .inl ⟨sq, ?_⟩
      refine for_it (walk_enum (xs := xs)) (fun i σ H' => Ext H H' ∧ (∃ u v, σ = [some (.ref a), u, v]) ∧ ∀ j, j < i → badAt xs j = false) ⟨Ext.rfl', ⟨none, none, rfl⟩, fun j hj => absurd hj (Nat.not_lt_zero _)⟩ (fun i σ H' _ p => sq.ext p.1) ?_ ?_
      · intro i x σ H1 H2 hi p y
        obtain ⟨x1, ⟨u, v, rfl⟩, hb⟩ := p
        obtain ⟨T, y1, y2, rfl, hT, rfl, e1, e2⟩ := y
        cases e1
        have e2 : xs[i]? = some y2 := e2
        have x2 : Ext H (upd H1 T (.tup [.int i, y2])) := x1.upd' hT
        refine ⟨T, _, rfl, SqT.of upd_same, rfl, _, _, rfl, _, _, rfl, rfl, ?_⟩
        have hmem : y2 ∈ xs := List.mem_of_getElem? e2
        have notbad : badAt xs i = false → ∀ j, j < i + 1 → badAt xs j = false := fun h j hj => by
          rcases Nat.lt_or_eq_of_le (Nat.le_of_lt_succ hj) with z | z
          · exact hb j z
          · rw [z]; exact h
        have eb : badAt xs i = (!nameV y2 || inV y2 (xs.take i)) := by
          unfold badAt
          rw [e2]
        have bad : badAt xs i = true → ∀ H', Ext H H' → Q (.int (i : Nat)) H' := fun h H' z => q1 i H' z hi h hb
        rcases th y2 hmem with ⟨z, rfl, hz⟩ | ⟨hns, t, ty, kt⟩
        · refine ⟨_, rfl, _, rfl, .inl ⟨z, rfl, hz, fun H3 x3 => ?_⟩⟩
          refine ⟨nameB z, rfl, ?_⟩
          have x13 : Ext H H3 := x2.trans x3
          cases hn : nameB z with
          | false =>
            exact ⟨_, rfl, bad (by rw [eb]; show (!nameB z || _) = true; rw [hn]; rfl) H3 x13⟩
          | true =>
            have fl := flat_take hb
            have cont : ∀ H4, Ext H H4 → (if inV (.str z) (xs.take i) = true then (∃ v, ([some (.ref a), some (.int (i : Nat)), some (.str z)] : L2.St)[1]? = some (some v) ∧ Q v H4) else Ext H H4 ∧ (∃ u v, ([some (.ref a), some (.int (i : Nat)), some (.str z)] : L2.St) = [some (.ref a), u, v]) ∧ ∀ j, j < i + 1 → badAt xs j = false) := fun H4 x4 => by
              cases hi2 : inV (.str z) (xs.take i) with
              | true => exact ⟨_, rfl, bad (by rw [eb, hi2, Bool.or_true]) H4 x4⟩
              | false => exact ⟨x4, ⟨_, _, rfl⟩, notbad (by rw [eb, hi2]; show (!nameB z || false) = false; rw [hn]; rfl)⟩
            refine ⟨_, rfl, _, rfl, _, rfl, _, rfl, .inl ⟨a, xs, rfl, sq.ext x13, fun p hp => ?_⟩⟩
            rw [cut_take hi]
            refine ⟨p, _, rfl, .inl (SqL.of upd_same), rfl, fl, _, rfl, ?_⟩
            exact cont _ (x13.upd' hp)
        · refine ⟨_, rfl, _, rfl, .inr ⟨t, ty.ext x2, kt, fun H3 x3 => ?_⟩⟩
          refine ⟨false, rfl, ?_⟩
          exact ⟨_, rfl, bad (by
            rw [eb]
            have e : nameV y2 = false := by
              cases y2 <;> first | rfl | exact absurd rfl (hns _)
            rw [e]; rfl) H3 (x2.trans x3)⟩
      · intro σ H1 p
        exact q0 H1 p.1 p.2.2
    · refine .inr ⟨sq, ?_⟩
      refine for_it (walk_enumT (xs := xs)) (fun i σ H' => Ext H H' ∧ (∃ u v, σ = [some (.ref a), u, v]) ∧ ∀ j, j < i → badAt xs j = false) ⟨Ext.rfl', ⟨none, none, rfl⟩, fun j hj => absurd hj (Nat.not_lt_zero _)⟩ (fun i σ H' _ p => sq.ext p.1) ?_ ?_
      · intro i x σ H1 H2 hi p y
        obtain ⟨x1, ⟨u, v, rfl⟩, hb⟩ := p
        obtain ⟨T, y1, y2, rfl, hT, rfl, e1, e2⟩ := y
        cases e1
        have e2 : xs[i]? = some y2 := e2
        have x2 : Ext H (upd H1 T (.tup [.int i, y2])) := x1.upd' hT
        refine ⟨T, _, rfl, SqT.of upd_same, rfl, _, _, rfl, _, _, rfl, rfl, ?_⟩
        have hmem : y2 ∈ xs := List.mem_of_getElem? e2
        have notbad : badAt xs i = false → ∀ j, j < i + 1 → badAt xs j = false := fun h j hj => by
          rcases Nat.lt_or_eq_of_le (Nat.le_of_lt_succ hj) with z | z
          · exact hb j z
          · rw [z]; exact h
        have eb : badAt xs i = (!nameV y2 || inV y2 (xs.take i)) := by
          unfold badAt
          rw [e2]
        have bad : badAt xs i = true → ∀ H', Ext H H' → Q (.int (i : Nat)) H' := fun h H' z => q1 i H' z hi h hb
        rcases th y2 hmem with ⟨z, rfl, hz⟩ | ⟨hns, t, ty, kt⟩
        · refine ⟨_, rfl, _, rfl, .inl ⟨z, rfl, hz, fun H3 x3 => ?_⟩⟩
          refine ⟨nameB z, rfl, ?_⟩
          have x13 : Ext H H3 := x2.trans x3
          cases hn : nameB z with
          | false =>
            exact ⟨_, rfl, bad (by rw [eb]; show (!nameB z || _) = true; rw [hn]; rfl) H3 x13⟩
          | true =>
            have fl := flat_take hb
            have cont : ∀ H4, Ext H H4 → (if inV (.str z) (xs.take i) = true then (∃ v, ([some (.ref a), some (.int (i : Nat)), some (.str z)] : L2.St)[1]? = some (some v) ∧ Q v H4) else Ext H H4 ∧ (∃ u v, ([some (.ref a), some (.int (i : Nat)), some (.str z)] : L2.St) = [some (.ref a), u, v]) ∧ ∀ j, j < i + 1 → badAt xs j = false) := fun H4 x4 => by
              cases hi2 : inV (.str z) (xs.take i) with
              | true => exact ⟨_, rfl, bad (by rw [eb, hi2, Bool.or_true]) H4 x4⟩
              | false => exact ⟨x4, ⟨_, _, rfl⟩, notbad (by rw [eb, hi2]; show (!nameB z || false) = false; rw [hn]; rfl)⟩
            refine ⟨_, rfl, _, rfl, _, rfl, _, rfl, .inr ⟨a, xs, rfl, sq.ext x13, fun hw => ?_, fun _ p hp => ?_⟩⟩
            · have h2 := hw.2
              rw [HT.sIx_nat, Nat.min_eq_left (Nat.le_of_lt hi)] at h2
              exact absurd hi (by omega)
            rw [cut_take hi]
            refine ⟨p, _, rfl, .inr (SqT.of upd_same), rfl, fl, _, rfl, ?_⟩
            exact cont _ (x13.upd' hp)
        · refine ⟨_, rfl, _, rfl, .inr ⟨t, ty.ext x2, kt, fun H3 x3 => ?_⟩⟩
          refine ⟨false, rfl, ?_⟩
          exact ⟨_, rfl, bad (by
            rw [eb]
            have e : nameV y2 = false := by
              cases y2 <;> first | rfl | exact absurd rfl (hns _)
            rw [e]; rfl) H3 (x2.trans x3)⟩
      · intro σ H1 p
        exact q0 H1 p.1 p.2.2
end
end My

namespace L2
open PySem
theorem tyx_sqL {K : PySem.W.Frag} {H : Hp} {a : Addr} {xs : List V} (h : SqL K H a xs) : TyX K H (.ref a) (.type "list") := by
  rcases h with (h | ⟨o, h⟩) | ⟨o, its, n, h1, h2, _⟩
  · exact .base (.lst h)
  · exact .base (.frz h)
  · exact .kList h1 h2
theorem tyx_sqT {K : PySem.W.Frag} {H : Hp} {a : Addr} {xs : List V} (h : SqT K H a xs) : TyX K H (.ref a) (.type "tuple") := by
  rcases h with (h | ⟨o, h⟩) | ⟨o, its, n, h1, h2, _⟩
  · exact .base (.tup h)
  · exact .fTuple h
  · exact .kTuple h1 h2
end L2
namespace My
open PySem PySem.Spec PyProof.Rows L2
theorem scWrongPart : FnScope ["folders", "things", "at"] ["folders", "things"] (defScope sWrongPart) := ⟨rfl, rfl, rfl, by decide +kernel, rfl, by decide +kernel, by decide +kernel⟩
def optV : Option Nat → V
  | none => .non
  | some i => .int (i : Nat)
def wrongOf (xs : List V) : Option Nat := (List.range xs.length).find? (badAt xs)
def spWN (K : PySem.W.Frag) : Sp := fun vs H Q _ => ∃ a xs, vs = [.ref a] ∧ SeqAt2 K H a xs ∧ (∀ y ∈ xs, Thing K H y) ∧ ∀ H', Ext H H' → Q (optV (wrongOf xs)) H'
theorem wrong_none {xs : List V} (h : ∀ i, i < xs.length → badAt xs i = false) : wrongOf xs = none := List.find?_range_eq_none.mpr fun i hi => by rw [h i hi]; rfl
theorem wrong_some {xs : List V} {i : Nat} (hi : i < xs.length) (h : badAt xs i = true) (h2 : ∀ j, j < i → badAt xs j = false) : wrongOf xs = some i := List.find?_range_eq_some.mpr ⟨h, List.mem_range.mpr hi, fun j hj => by rw [h2 j hj]; rfl⟩
theorem wn_imp {K : PySem.W.Frag} (vs : List V) (H : Hp) (Q : VK) (E : XK) (h : spWN K vs H Q E) : spWrongName K vs H Q E := by
  obtain ⟨a, xs, rfl, sq, th, q⟩ := h
  refine ⟨a, xs, rfl, sq, th, fun H' x h => ?_, fun i H' x hi h h2 => ?_⟩
  · have z := q H' x
    rw [wrong_none h] at z
    exact z
  · have z := q H' x
    rw [wrong_some hi h h2] at z
    exact z
/-- a list or a tuple of things, or neither -/
def Lk (K : PySem.W.Frag) (H : Hp) (x : V) : Option (List V) → Prop
  | some xs => ∃ a, x = .ref a ∧ SeqAt2 K H a xs ∧ ∀ y ∈ xs, Thing K H y
  | none => ∃ t, TyX K H x t ∧ PySem.W.kitAny K t [.type "list", .type "tuple"] = some false
theorem Lk.ext {K : PySem.W.Frag} {H H' : Hp} {x : V} {o : Option (List V)} (h : Lk K H x o) (e : Ext H H') : Lk K H' x o := by
  cases o with
  | none =>
    obtain ⟨t, ty, k⟩ := h
    exact ⟨t, ty.ext e, k⟩
  | some xs =>
    obtain ⟨a, rfl, sq, th⟩ := h
    exact ⟨a, rfl, sq.ext e, fun y hy => (th y hy).ext e⟩
theorem Lk.kit {K : PySem.W.Frag} {H : Hp} {x : V} {o : Option (List V)} (h : Lk K H x o) : ∃ t, TyX K H x t ∧ PySem.W.kitAny K t [.type "list", .type "tuple"] = some o.isSome := by
  cases o with
  | none => exact h
  | some xs =>
    obtain ⟨a, rfl, sq, _⟩ := h
    rcases sq with sq | sq
    · exact ⟨_, tyx_sqL sq, kitAny_cons (b := true) (kit_ty (by decide +kernel)) (fun z => nomatch z) (fun _ => rfl)⟩
    · exact ⟨_, tyx_sqT sq, kitAny_cons (b := false) (kit_ty (by decide +kernel)) (fun _ => kitAny_cons (b := true) (kit_ty (by decide +kernel)) (fun z => nomatch z) (fun _ => rfl)) (fun z => nomatch z)⟩
theorem kit_no {K : PySem.W.Frag} {a : String} (h1 : kitB a "list" = some false) (h2 : kitB a "tuple" = some false) : PySem.W.kitAny K (.type a) [.type "list", .type "tuple"] = some false :=
  kitAny_cons (b := false) (kit_ty h1) (fun _ => kitAny_cons (b := false) (kit_ty h2) (fun _ => kitAny_nil) (fun z => nomatch z)) (fun z => nomatch z)
/-- BadHouse's index | None -/
def partOf (o o' : Option (List V)) : Option Nat := match o with
  | none => some 0
  | some xs => if xs.length = 0 then some 0 else match o' with
    | some ys => wrongOf (xs ++ ys)
    | none => match wrongOf xs with
      | none => some xs.length
      | some i => some i
def spWrongPart (K : PySem.W.Frag) : Sp := fun vs H Q _ => ∃ x y o o', vs = [x, y] ∧ Lk K H x o ∧ Lk K H y o' ∧ (∀ xs ys, o = some xs → o' = some ys → (xs ++ ys).length ≤ sizeLine) ∧ ∀ H', Ext H H' → Q (optV (partOf o o')) H'
section
variable {P : Program} {w : World} {K : PySem.W.Frag} {mg : Str → Option Value} {base : Heap} {f fL fW : Addr} {fd fdL fdW : FuncData}
theorem ok_wrongPart (Fn : FnP K "wrong_part" sWrongPart f fd) (FL : FnOk P w K mg base CX0 1 fL fdL ["thing"] (spIsList K)) (gL : mg "is_list" = some (.ref fL)) (kL : PySem.W.keepIn K (.ref fL) = true) (bL : Binds K fdL ["thing"] [])
    (FW : FnOk P w K mg base CX0 2 fW fdW ["things"] (spWN K)) (gW : mg "wrong_name" = some (.ref fW)) (kW : PySem.W.keepIn K (.ref fW) = true) (bW : Binds K fdW ["things"] []) (gN : mg "len" = none) :
    FnOk P w K mg base CX0 3 f fd ["folders", "things"] (spWrongPart K) := by
  refine Fn.ok scWrongPart (fun vs H Q E h => ?_) (fun cdv A outer s H vs Q E hr h => ⟨_, PSs.nox
    (pss_cons (ps_if (PW.pt (pw_or (pt_not (pt_val (pe_call FL (hr.mono (by decide)) (by rfl) gL kL bL .nil pass0 (pa_cons (pv 0) pa_nil)))) (pw_or1 (pt_cmpR op_eq (pe_callB call_len (by rfl) gN boot_len (pa_cons (pv 0) pa_nil)) pe_int (nomark _))))) (pss_one (ps_ret pe_int)) pss_nil)
    (pss_cons (ps_if (pt_val (pe_call FL (hr.mono (by decide)) (by rfl) gL kL bL .nil pass0 (pa_cons (pv 1) pa_nil))) (pss_one (ps_ret (pe_call FW hr (by rfl) gW kW bW .nil pass0 (pa_cons (pe_lst (StX.pa_star (pv 0) (StX.pa_star (pv 1) pa_nil))) pa_nil)))) pss_nil)
    (pss_cons (ps_set (i := 2) scWrongPart.nd rfl (.inl rfl) (pe_call FW hr (by rfl) gW kW bW .nil pass0 (pa_cons (pv 0) pa_nil)))
    (pss_one (ps_ret (pe_ifExp (pt_cmpR op_isN (pv 2) pe_non (nomark _)) (pe_callB call_len (by rfl) gN boot_len (pa_cons (pv 0) pa_nil)) (pv 2))))))), ?_⟩)
  · obtain ⟨x, y, o, o', rfl, _⟩ := h
    rfl
  · obtain ⟨x, y, o, o', rfl, hx, hy, hz, q⟩ := h
    obtain ⟨tx, tyx, kx⟩ := hx.kit
    refine ⟨x, rfl, x, tx, _, rfl, tyx, kx, fun H1 x1 => ?_⟩
    refine ⟨_, rfl, ?_⟩
    cases o with
    | none => exact q H1 x1
    | some xs =>
      obtain ⟨a, rfl, sq, th⟩ := hx
      have sq1 := sq.ext x1
      refine iteF ?_
      refine ⟨_, rfl, _, xs.length, rfl, ?_, rfl, _, rfl, ?_⟩
      · exact sq1.elim (fun z => .inl ⟨_, z, rfl⟩) fun z => .inr ⟨_, z, rfl⟩
      refine ite2 (fun h0 => ?_) (fun h0 => ?_)
      · have e : partOf (some xs) o' = some 0 := if_pos (by simpa using h0)
        have z := q H1 x1
        rw [e] at z
        exact z
      · have n0 : ¬ xs.length = 0 := by simpa using h0
        obtain ⟨ty, tyy, ky⟩ := (hy.ext x1).kit
        refine ⟨y, rfl, y, ty, _, rfl, tyy, ky, fun H2 x2 => ?_⟩
        refine ⟨_, rfl, ?_⟩
        have sq2 := sq1.ext x2
        have th2 : ∀ z ∈ xs, Thing K H2 z := fun z hz => ((th z hz).ext x1).ext x2
        cases o' with
        | some ys =>
          obtain ⟨b, rfl, sqy, thy⟩ := hy
          have sy2 := (sqy.ext x1).ext x2
          refine iteT ?_
          refine ⟨_, rfl, a, xs, rfl, sq2.symm, _, rfl, b, ys, rfl, sy2.symm, ?_⟩
          have hlen := hz xs ys rfl rfl
          refine ⟨(show (xs ++ (ys ++ [])).length ≤ sizeLine by rw [List.append_nil]; exact hlen), fun p hp => ⟨p, xs ++ ys, rfl, .inl (SqL.of (by rw [upd_same, List.append_nil])), fun z hz => ?_, fun H3 x3 => ?_⟩⟩
          · refine Thing.ext ?_ (Ext.upd hp)
            rcases List.mem_append.mp hz with hz | hz
            · exact th2 z hz
            · exact ((thy z hz).ext x1).ext x2
          · have e : partOf (some xs) (some ys) = wrongOf (xs ++ ys) := if_neg n0
            rw [← e]
            exact q H3 (((x1.trans x2).upd' hp).trans x3)
        | none =>
          refine iteF ?_
          refine ⟨_, rfl, a, xs, rfl, sq2, th2, fun H3 x3 => ?_⟩
          have z := q H3 ((x1.trans x2).trans x3)
          refine ⟨_, rfl, rfl, _, rfl, ?_⟩
          cases hw : wrongOf xs with
          | none =>
            have e : partOf (some xs) none = some xs.length := by
              show (if xs.length = 0 then some 0 else match wrongOf xs with | none => some xs.length | some i => some i) = _
              rw [if_neg n0, hw]
            rw [e] at z
            refine iteT ?_
            exact ⟨_, rfl, _, xs.length, rfl, (sq2.ext x3).elim (fun z => .inl ⟨_, z, rfl⟩) (fun z => .inr ⟨_, z, rfl⟩), z⟩
          | some i =>
            have e : partOf (some xs) none = some i := by
              show (if xs.length = 0 then some 0 else match wrongOf xs with | none => some xs.length | some i => some i) = _
              rw [if_neg n0, hw]
            rw [e] at z
            refine iteF ?_
            exact ⟨_, rfl, z⟩
end
end My

namespace My
open PySem PySem.Spec PyProof.Rows L2
theorem scHInit : FnScope ["self", "folders", "things", "at"] ["self", "folders", "things"] (defScope sHInit) := ⟨rfl, rfl, rfl, by decide +kernel, rfl, by decide +kernel, by decide +kernel⟩
theorem scHLen : FnScope ["self"] ["self"] (defScope sHLen) := ⟨rfl, rfl, rfl, by decide +kernel, rfl, by decide +kernel, by decide +kernel⟩
theorem scHHas : FnScope ["self", "x"] ["self", "x"] (defScope sHHas) := ⟨rfl, rfl, rfl, by decide +kernel, rfl, by decide +kernel, by decide +kernel⟩
theorem scHIter : FnScope ["self"] ["self"] (defScope sHIter) := ⟨rfl, rfl, rfl, by decide +kernel, rfl, by decide +kernel, by decide +kernel⟩
theorem scHEq : FnScope ["self", "other"] ["self", "other"] (defScope sHEq) := ⟨rfl, rfl, rfl, by decide +kernel, rfl, by decide +kernel, by decide +kernel⟩
/-- a house stands at a: its folders, its things -/
def HouseAt (H : Hp) (K : PySem.W.Frag) (C a : Addr) (fo th : List V) : Prop := ∃ dx fs f t n, H a = some (.ins C dx fs) ∧ fs.lookup ("folders" : Str) = some (V.ref f) ∧ fs.lookup ("things" : Str) = some (V.ref t) ∧ fs.lookup ("nodes" : Str) = some (V.ref n) ∧
  SqT K H f fo ∧ SqT K H t th ∧ SqT K H n (fo ++ th)
theorem HouseAt.ext {H H' : Hp} {K : PySem.W.Frag} {C a : Addr} {fo th : List V} (h : HouseAt H K C a fo th) (e : Ext H H') : HouseAt H' K C a fo th := by
  obtain ⟨dx, fs, f, t, n, h1, h2, h3, h4, h5, h6, h7⟩ := h
  exact ⟨dx, fs, f, t, n, e _ _ h1, h2, h3, h4, h5.ext e, h6.ext e, h7.ext e⟩
/-- what the written part says of the class -/
structure HouC (K : PySem.W.Frag) (C : Addr) : Prop where
  cl : Cls K C
  nf : NoAttr K C "folders"
  nt : NoAttr K C "things"
  nn : NoAttr K C "nodes"
  ha : PySem.W.findIn K (.ref C) "__class__" = some (some (.builtin "object.__class__"))
  hn : PySem.W.specialIn K (.builtin "object.__class__") "__get__" = some (some (.builtin "getset_descriptor.__get__"))
  htk : PySem.W.takesIn K (.builtin "object.__class__") = some true
  hm : PySem.W.mroIn K C (.type "object") = some true
/-- all but what stands at a stays -/
def But (H H' : Hp) (a : Addr) : Prop := ∀ b u, b ≠ a → H b = some u → H' b = some u
theorem ext_but {H H' : Hp} {a : Addr} (e : Ext H H') : But H H' a := fun b u _ k => e b u k
theorem But.trans {H H1 H2 : Hp} {a : Addr} (x : But H H1 a) (y : But H1 H2 a) : But H H2 a := fun b u n k => y b u n (x b u n k)
theorem But.upd {H H1 : Hp} {a : Addr} {o : HO} (x : But H H1 a) : But H (L2.upd H1 a o) a := fun b u n k => by
  rw [upd_ne n]
  exact x b u n k
theorem sqT_but {K : PySem.W.Frag} {H H' : Hp} {a C dx f : Addr} {fs : List (Str × V)} {xs : List V} (h : SqT K H f xs) (b : But H H' a) (ha : H a = some (.ins C dx fs)) : SqT K H' f xs := by
  rcases h with (h | ⟨o, h⟩) | h
  · exact .inl (.inl (b _ _ (ne_of h ha (fun z => nomatch z)) h))
  · exact .inl (.inr ⟨o, b _ _ (ne_of h ha (fun z => nomatch z)) h⟩)
  · exact .inr h
theorem sqL_but {K : PySem.W.Frag} {H H' : Hp} {a C dx f : Addr} {fs : List (Str × V)} {xs : List V} (h : SqL K H f xs) (b : But H H' a) (ha : H a = some (.ins C dx fs)) : SqL K H' f xs := by
  rcases h with (h | ⟨o, h⟩) | h
  · exact .inl (.inl (b _ _ (ne_of h ha (fun z => nomatch z)) h))
  · exact .inl (.inr ⟨o, b _ _ (ne_of h ha (fun z => nomatch z)) h⟩)
  · exact .inr h
/-- tuple(a) -/
theorem tup_of {K : PySem.W.Frag} {H : Hp} {a : Addr} {xs : List V} {Q : VK} (sq : SeqAt2 K H a xs) (q : ∀ t H', Ext H H' → SqT K H' t xs → Q (.ref t) H') :
    ∃ p ys, [V.ref a] = [.ref p] ∧ ((SqL K H p ys ∧ ∀ l, H l = none → Q (.ref l) (L2.upd H l (.tup ys))) ∨ (SqT K H p ys ∧ Q (.ref p) H)) := by
  rcases sq with sq | sq
  · exact ⟨a, xs, rfl, .inl ⟨sq, fun l hl => q l _ (Ext.upd hl) (SqT.of upd_same)⟩⟩
  · exact ⟨a, xs, rfl, .inr ⟨sq, q a H Ext.rfl' sq⟩⟩
/-- a + b, tuples -/
theorem cat_of {K : PySem.W.Frag} {H : Hp} {a b : Addr} {xs ys : List V} {Q : VK} (h1 : SqT K H a xs) (h2 : SqT K H b ys) (hz : (xs ++ ys).length ≤ sizeLine) (q : ∀ t H', Ext H H' → SqT K H' t (xs ++ ys) → Q (.ref t) H') : rCatA K (.ref a) (.ref b) H Q := by
  refine ⟨a, b, xs, ys, rfl, rfl, h1, h2, by rw [← List.length_append]; exact hz, fun e => ?_, fun _ e => ?_, fun _ _ p hp => q p _ (Ext.upd hp) (SqT.of upd_same)⟩
  · subst e
    exact q b H Ext.rfl' h2
  · subst e
    exact q a H Ext.rfl' (by rw [List.append_nil]; exact h1)
def rTup (K : PySem.W.Frag) : List V → Hp → VK → Prop := fun xs H Q => ∃ a zs, xs = [.ref a] ∧ SeqAt2 K H a zs ∧ ∀ t H', Ext H H' → SqT K H' t zs → Q (.ref t) H'
theorem call_tup {X : Cx} : CallR X (.type "tuple") (rTup X.K) := by
  intro pins s σ H xs us Q I rv h
  obtain ⟨a, zs, rfl, sq, q⟩ := h
  exact call_tuple_of pins s σ H _ us Q I rv (tup_of sq q)
def rCat (K : PySem.W.Frag) : R2 := fun x y H Q => ∃ a b xs ys, x = .ref a ∧ y = .ref b ∧ SqT K H a xs ∧ SqT K H b ys ∧ (xs ++ ys).length ≤ sizeLine ∧ ∀ t H', Ext H H' → SqT K H' t (xs ++ ys) → Q (.ref t) H'
theorem op_cat {X : Cx} : OpR X (binaryOp .Add) (rCat X.K) := by
  intro pins s σ H x y v u Q I rx ry h
  obtain ⟨a, b, xs, ys, rfl, rfl, h1, h2, hz, q⟩ := h
  exact op_catA pins s σ H _ _ v u Q I rx ry (cat_of h1 h2 hz q)
/-- House.__init__ -/
def spHInit (K : PySem.W.Frag) (C CB : Addr) : Sp := fun vs H Q E => ∃ a dx x y o o', vs = [.ref a, x, y] ∧ H a = some (.ins C dx []) ∧ Lk K H x o ∧ Lk K H y o' ∧ (∀ xs ys, o = some xs → o' = some ys → (xs ++ ys).length ≤ sizeLine) ∧
  (∀ xs ys H', o = some xs → o' = some ys → partOf o o' = none → But H H' a → HouseAt H' K C a xs ys → Q .non H') ∧
  ∀ i d H', partOf o o' = some i → Ext H H' → H d = none → H' d = some (.xd [(("index" : Str), V.int (i : Nat))]) → E (.ref CB) (some d) H'
theorem part_some {o o' : Option (List V)} (h : partOf o o' = none) : ∃ xs ys, o = some xs ∧ o' = some ys := by
  cases o with
  | none => cases h
  | some xs =>
    cases o' with
    | some ys => exact ⟨xs, ys, rfl, rfl⟩
    | none =>
      unfold partOf at h
      split at h
      · cases h
      · rename_i z
        cases z
        split at h
        · cases h
        · split at h
          · rename_i z
            cases z
          · split at h <;> cases h
section
variable {P : Program} {w : World} {K : PySem.W.Frag} {mg : Str → Option Value} {base : Heap} {f fW C CB : Addr} {fd fdW : FuncData} {dvs : List V}
theorem ok_hInit (Fn : FunD K "__init__" "House.__init__" (defArgs sHInit) (defBody sHInit) (defScope sHInit) dvs [] f fd) (T : HouC K C) (FW : FnOk P w K mg base CX0 3 fW fdW ["folders", "things"] (spWrongPart K)) (gW : mg "wrong_part" = some (.ref fW)) (kW : PySem.W.keepIn K (.ref fW) = true) (bW : Binds K fdW ["folders", "things"] [])
    (EB : Er P w K mg base "BadHouse" "index" CB) (gT : mg "tuple" = none) :
    FnOk P w K mg base (L2.CX P w) 4 f fd ["self", "folders", "things"] (spHInit K C CB) := by
  obtain ⟨fI, fdI, TB, FB, bB, _⟩ := EB
  refine Fn.ok scHInit (fun vs H Q E h => ?_) (fun cdv A outer s H vs Q E hr h => ⟨_,
    (pss_cons (ps_set (i := 3) scHInit.nd rfl (.inl rfl) (pe_call FW hr (by rfl) gW kW bW .nil pass0 (pa_cons (pv 1) (pa_cons (pv 2) pa_nil))))
    (pss_cons (ps_if (pt_cmpR op_notN (pv 3) pe_non (nomark _)) (pss_one (ps_raise rfl (takes_of rfl rfl rfl rfl) (pmk_oex TB.oex TB.iC TB.tI FB (hr.mono (by decide)) bB .nil pass0 (by rfl) TB.gl (pa_cons (pv 3) pa_nil)))) pss_nil)
    (pss_cons (ps_fld (pv 0) (pe_callTy call_tup (by rfl) gT (by decide +kernel) (pa_cons (pv 1) pa_nil)) rfl)
    (pss_cons (ps_fld (pv 0) (pe_callTy call_tup (by rfl) gT (by decide +kernel) (pa_cons (pv 2) pa_nil)) rfl)
    (pss_one (ps_fld (pv 0) (pe_op op_cat (pe_fld (pv 0) rfl) (pe_fld (pv 0) rfl)) rfl)))))), ?_⟩)
  · obtain ⟨a, dx, x, y, o, o', rfl, _⟩ := h
    rfl
  · obtain ⟨a, dx, x, y, o, o', rfl, ha, hx, hy, hz, qn, qe⟩ := h
    refine ⟨_, rfl, _, rfl, x, y, o, o', rfl, hx, hy, hz, fun H1 x1 => ?_⟩
    refine ⟨_, rfl, rfl, _, rfl, ?_⟩
    cases hp : partOf o o' with
    | some i =>
      refine iteT ?_
      refine ⟨_, rfl, Nat.le_of_ble_eq_true rfl, fun e he => ?_⟩
      refine ⟨e, _, rfl, upd_same, fun d hd ne => ⟨rfl, d, [("index", optV (some i))], upd_same, ?_, ?_, ?_⟩⟩
      · rw [upd_ne ne, upd_same]
      · rw [upd_ne ne] at hd
        exact hd
      · rw [upd_ne ne] at hd
        refine qe i d _ hp (fun b u k => ?_) ?_ upd_same
        · have k1 := x1 b u k
          rw [upd_ne (ne_of_none k1 hd), del_ne (ne_of_none k1 he), upd_ne (ne_of_none k1 he), upd_ne (ne_of_none k1 hd), upd_ne (ne_of_none k1 he)]
          exact k1
        · cases hh : H d with
          | none => rfl
          | some u => exact absurd (x1 d u hh) (by rw [hd]; exact fun z => nomatch z)
    | none =>
      refine iteF ?_
      obtain ⟨xs, ys, rfl, rfl⟩ := part_some hp
      obtain ⟨ax, rfl, sqx, _⟩ := hx
      obtain ⟨ay, rfl, sqy, _⟩ := hy
      have hz' := hz xs ys rfl rfl
      refine ⟨_, rfl, ax, xs, rfl, sqx.ext x1, fun t2 H2 x2 s2 => ?_⟩
      have a2 : H2 a = some (.ins C dx []) := x2 _ _ (x1 _ _ ha)
      refine ⟨_, rfl, a, C, dx, _, rfl, a2, T.cl, T.nf, Nat.le_of_ble_eq_true rfl, ?_⟩
      obtain ⟨H3, hH3⟩ : ∃ H3, H3 = L2.upd H2 a (.ins C dx (putF "folders" (.ref t2) [])) := ⟨_, rfl⟩
      rw [← hH3]
      have a3 : H3 a = some (.ins C dx (putF "folders" (.ref t2) [])) := by rw [hH3, upd_same]
      have b3 : But H2 H3 a := by
        rw [hH3]
        exact But.upd (ext_but Ext.rfl')
      have b03 : But H H3 a := (ext_but (x1.trans x2)).trans b3
      have sqy3 : SeqAt2 K H3 ay ys := sqy.elim (fun z => .inl (sqL_but z b03 ha)) fun z => .inr (sqT_but z b03 ha)
      refine ⟨_, rfl, ay, ys, rfl, sqy3, fun t4 H4 x4 s4 => ?_⟩
      refine ⟨_, rfl, a, C, dx, _, rfl, x4 _ _ a3, T.cl, T.nt, Nat.le_of_ble_eq_true rfl, ?_⟩
      obtain ⟨H5, hH5⟩ : ∃ H5, H5 = L2.upd H4 a (.ins C dx (putF "things" (.ref t4) (putF "folders" (.ref t2) []))) := ⟨_, rfl⟩
      rw [← hH5]
      have a5 : H5 a = some (.ins C dx (putF "things" (.ref t4) (putF "folders" (.ref t2) []))) := by rw [hH5, upd_same]
      have b5 : But H4 H5 a := by
        rw [hH5]
        exact But.upd (ext_but Ext.rfl')
      have s2' : SqT K H5 t2 xs := sqT_but (sqT_but s2 (b3.trans (ext_but x4)) a2) b5 (x4 _ _ a3)
      have s4' : SqT K H5 t4 ys := sqT_but s4 b5 (x4 _ _ a3)
      refine ⟨_, rfl, a, C, dx, _, _, rfl, a5, T.cl, T.nf, rfl, _, rfl, a, C, dx, _, _, rfl, a5, T.cl, T.nt, rfl, t2, t4, xs, ys, rfl, rfl, s2', s4', hz', fun t6 H6 x6 s6 => ?_⟩
      refine ⟨_, rfl, a, C, dx, _, rfl, x6 _ _ a5, T.cl, T.nn, Nat.le_of_ble_eq_true rfl, ?_⟩
      obtain ⟨H7, hH7⟩ : ∃ H7, H7 = L2.upd H6 a (.ins C dx (putF "nodes" (.ref t6) (putF "things" (.ref t4) (putF "folders" (.ref t2) [])))) := ⟨_, rfl⟩
      rw [← hH7]
      have b7 : But H6 H7 a := by
        rw [hH7]
        exact But.upd (ext_but Ext.rfl')
      have a6 := x6 _ _ a5
      refine qn xs ys H7 rfl rfl hp (((b03.trans (ext_but x4)).trans b5).trans ((ext_but x6).trans b7)) ?_
      exact ⟨dx, _, t2, t4, t6, by rw [hH7, upd_same], rfl, rfl, rfl, sqT_but (s2'.ext x6) b7 a6, sqT_but (s4'.ext x6) b7 a6, sqT_but s6 b7 a6⟩
end
end My

namespace PySem
namespace MyN
open PySem.W Builtin PySem.SeqAt PySem.MeetsSeq MeetsSeq2
open AutoSeq1 (wpAny_loadPart')
/-- str.__eq__ with an object that holds no text -/
theorem str_no_plain (b : Str) (u : Tok) (l : Addr) (ob : Obj) (hd : ob.data = .plain) :
    Meets (Builtin.«str.__eq__» ⟨[.str b u, .ref l], []⟩) (fun _ R s => s.heap.get? l = some ob ∧ R (.ok (.ret .notImplemented)) s) :=
  .of_wp fun P1 w1 A1 R1 s1 z => by
    obtain ⟨hp, gs, dr, tk, oz⟩ := s1
    obtain ⟨z1, z2⟩ := z
    obtain ⟨oc, od, dt, sl⟩ := ob
    simp only at hd
    subst hd
    wp_walk using wpAny_loadPart' z1, wpAny_load z1
    exact ⟨_, rfl, z2⟩
theorem str_no_dict (b : Str) (u : Tok) (l : Addr) (ob : Obj) (es : Array DictEntry) (ep : Nat) (hd : ob.data = .dict es ep) :
    Meets (Builtin.«str.__eq__» ⟨[.str b u, .ref l], []⟩) (fun _ R s => s.heap.get? l = some ob ∧ R (.ok (.ret .notImplemented)) s) :=
  .of_wp fun P1 w1 A1 R1 s1 z => by
    obtain ⟨hp, gs, dr, tk, oz⟩ := s1
    obtain ⟨z1, z2⟩ := z
    obtain ⟨oc, od, dt, sl⟩ := ob
    simp only at hd
    subst hd
    wp_walk using wpAny_loadPart' z1, wpAny_load z1
    exact ⟨_, rfl, z2⟩
/-- dict.__eq__ with a text -/
theorem dict_no_str (b : Str) (u : Tok) (l : Addr) (ob : Obj) (hc : ob.cls = .type "dict") :
    Meets (Builtin.«dict.__eq__» ⟨[.ref l, .str b u], []⟩) (fun _ R s => s.heap.get? l = some ob ∧ R (.ok (.ret .notImplemented)) s) :=
  .of_wp fun P1 w1 A1 R1 s1 z => by
    obtain ⟨hp, gs, dr, tk, oz⟩ := s1
    obtain ⟨z1, z2⟩ := z
    obtain ⟨oc, od, dt, sl⟩ := ob
    simp only at hc
    subst hc
    have f1 := F.sub_str_dict
    wp_walk using wpAny_loadPart' z1, wpAny_load z1
    exact ⟨_, rfl, z2⟩
theorem eq_str_dict {A : Around} {s : Shared} {l : Addr} {ob : Obj} {es : Array DictEntry} {ep : Nat} (b : Str) (u : Tok) (hl : s.heap.get? l = some ob) (hc : ob.cls = .type "dict") (hd : ob.data = .dict es ep) (hu : A.units < cLine) : EqAt A s (.str b u) (.ref l) false := fun prog w E Q h => by
  unfold eqBool
  refine wpAny_holding ?_
  refine wpAny_ite_split (fun hab => absurd (eq_of_beq hab) nofun) (fun _ => ?_)
  refine wpAny_bind (rc_eq_decline_or (k := false) (typeIs_str s b u) ⟨_, hl, hc⟩ (by decide) F.sub_dict_str F.slot_str_eq F.slot_dict_eq_refl
    (fun _ hq => call_meets F.slot_str_eq (typeIs_str s b u) F.entry_str_eq (F.args_str_eq_2 _ _) (str_no_dict b u l ob es ep hd) ⟨hl, hq⟩)
    (fun _ hq => call_meets F.slot_dict_eq_refl ⟨_, hl, hc⟩ F.entry_dict_eq (F.args_dict_eq_2 _ _) (dict_no_str b u l ob hc) ⟨hl, hq⟩)
    (fun _ hq => wpAny_of_eq (rfl : isSame (.str b u) (.ref l) = pure false) hq) (.inr hu) (wpAny_truthy_bool h))
section
variable {prog : Program} {w : World} {A : Around} {E : Value → Shared → Prop} {s : Shared} {K : Frag} {x C f : Addr} {ox : Obj} {od : Option Obj}
/-- text == x, x an instance with its own __eq__: that one is asked -/
theorem eqb_str_own {b : Str} {u : Tok} {Q : Bool → Shared → Prop} (hu : A.units < cLine) (X : K.In s.heap) (I : InstAt s.heap x ox C od) (hp : ox.data = .plain) (nf : subIn K (.ref C) (.type "str") = some false)
    (hs : findIn K (.ref C) "__eq__" = some (some (.ref f))) (hf : isFn K (.ref f) = true)
    (h : wpAny (model prog w) A (call (.ref f) [.ref x, .str b u]) (fun r s' => ∃ k, r = .bool k ∧ Q k s') E s) : wpAny (model prog w) A (eqBool (.str b u) (.ref x)) Q E s := by
  have hx : s.heap.get? x = some ox := I.1
  have one : wpAny (model prog w) A (tryCompare (.ref x) "__eq__" (.str b u)) (fun r s' => ∃ k, r = some (.bool k) ∧ Q k s') E s := by
    unfold tryCompare
    refine wpAny_bind (ifBound_K X I hs hf (wpAny_mono h (fun v s' hv => ?_) fun _ _ e => e))
    obtain ⟨k, rfl, q⟩ := hv
    exact wpAny_pure ⟨k, rfl, q⟩
  unfold eqBool
  refine wpAny_holding ?_
  refine wpAny_ite_split (fun hab => absurd (eq_of_beq hab) nofun) (fun _ => ?_)
  refine wpAny_bind ?_
  have z := (typeIs_str s b u)
  simp only [richCompare, z.oneThing_none]
  refine wpAny_holding (wpAny_bind (wpAny_cRoomFor_or (.inr hu) ?_))
  refine wpAny_bind (wpAny_typeOf z (wpAny_bind (I.type.here ?_)))
  have ne : (Value.type "str" != Value.ref C) = true := rfl
  simp only [ne, if_true]
  refine wpAny_bind ((looks_subIn X nf).here ?_)
  simp only [Bool.false_eq_true, if_false, Bool.not_false, if_true]
  refine wpAny_bind (m := tryCompare (.str b u) _ (.ref x)) (wpAny_tryCompare_declines z F.slot_str_eq (call_meets F.slot_str_eq z F.entry_str_eq (F.args_str_eq_2 _ _) (str_no_plain b u x ox hp) ⟨hx, rfl, ?_⟩))
  refine wpAny_bind (m := tryCompare (.ref x) _ (.str b u)) (wpAny_mono one (fun r s' hr => ?_) fun _ _ e => e)
  obtain ⟨k, rfl, q⟩ := hr
  exact wpAny_pure (wpAny_truthy_bool q)
/-- x in a tuple, none of the items is equal to x; I stands all along -/
theorem in_none {l : Addr} {items : Array Value} {y : Value} {Q : Value → Shared → Prop} (J : Shared → Prop) (hl : s.heap.IsTuple l items)
    (turn : ∀ v, v ∈ items → ∀ s', J s' → wpAny (model prog w) A.in1 (eqBool v y) (fun r s2 => r = false ∧ J s2) E s') (fin : ∀ s', J s' → Q (.bool false) s') (h : J s) :
    wpAny (model prog w) A (compareOp .In y (.ref l)) Q E s := by
  obtain ⟨⟨cls, dd, data, sl⟩, ho, hc, n, hd⟩ := id hl
  simp only at hc hd
  subst hc hd
  have hT : s.TypeIs (.ref l) "tuple" := ⟨_, ho, rfl⟩
  have body : wpAny (model prog w) A (call (.builtin "tuple.__contains__") [.ref l, y]) (fun v s' => v = .bool false ∧ J s') E s := by
    refine GQ.call_here F.slot_tuple_contains hT F.entry_tuple_contains (F.args_tuple_contains_2 _ _) ?_
    obtain ⟨hp, gs, dr, tk, oz⟩ := s
    have go : ∀ v, v ∈ items.toList → ∀ s', J s' → wpAny (model prog w) A.in1 (eqBool v y) (fun r s2 => r = false ∧ J s2) (fun e s' => wants (fun v s' => v = Value.bool false ∧ J s') E (.error e) s') s' := fun v hv s' hj => turn v (by simpa using hv) s' hj
    wp_walk using wpAny_loadPart' ho, wpAny_forIn_array _ (fun rest b s' => b.1 = none ∧ (∀ v, v ∈ rest → v ∈ items.toList) ∧ J s') _
    case turn =>
      rintro v rest b s' ⟨hb, hmem, hJ⟩
      refine wpAny_bind (wpAny_mono (go v (hmem v (List.mem_cons_self ..)) s' hJ) (fun r s2 q => ?_) fun _ _ e => e)
      obtain ⟨rfl, hJ2⟩ := q
      wp_walk
      exact ⟨rfl, fun z hz => hmem z (List.mem_cons_of_mem _ hz), hJ2⟩
    case fin =>
      rintro ⟨b1, b2⟩ s' ⟨hb, -, hJ⟩
      simp only at hb
      subst hb
      wp_walk
      exact ⟨rfl, hJ⟩
    case h =>
      exact ⟨rfl, fun v hv => by simpa using hv, h⟩
  show wpAny _ A (do return .bool (← contains (.ref l) y)) Q E s
  refine wpAny_bind (wpAny_contains_slot hT F.slot_tuple_contains (wpAny_mono body (fun v s' hv => ?_) fun _ _ e => e))
  obtain ⟨rfl, hJ⟩ := hv
  exact wpAny_truthy_bool (wpAny_pure (fin s' hJ))
end
end MyN
end PySem

namespace L2
open PySem PySem.Spec PyProof.Rows
section
variable {X : Cx} {CI : CXT} {f : Addr} {fd : FuncData} {ps : List Str} {sp : Sp} {EI : XK} {n : Nat} {C : Addr}
/-- a list, a tuple or a dict -/
def NoText (K : PySem.W.Frag) (H : Hp) (x : V) : Prop := (∃ a xs, x = .ref a ∧ (SqL K H a xs ∨ SqT K H a xs)) ∨ ∃ a kvs, x = .ref a ∧ H a = some (.dK kvs)
theorem NoText.eqAt {pins : List (Addr × Obj)} {σ : St} {H : Hp} {s : Shared} {A : Around} {x : V} {u : Value} (I : Inv X pins σ H s) (rx : RelV x u) (h : NoText X.K H x) (hu : A.units < cLine) (b : Str) (t : Tok) : SeqAt.EqAt A s (.str b t) u false := by
  rcases h with ⟨a, xs, rfl, h | h⟩ | ⟨a, kvs, rfl, h⟩
  · cases rx
    obtain ⟨its, r, pl, _⟩ := I.list h
    exact SeqAt.EqAt.str_list b t pl.isList hu
  · cases rx
    obtain ⟨its, r, pl, _⟩ := I.tuple h
    exact SeqAt.EqAt.str_tuple b t (show s.heap.IsTuple a its.toArray from pl) hu
  · cases rx
    obtain ⟨_, _, vs, _, o, es, ep, h1, h2, h3, _⟩ := (show ObjOk X.prog X.w H s.heap a (.dK kvs) from I.hok a _ h)
    exact MyN.eq_str_dict b t h1 h2.1 h3 hu
theorem vals_str : ∀ {zs : List Str} {us : List Value}, Vals (zs.map V.str) us → ∀ u ∈ us, ∃ z t, z ∈ zs ∧ u = .str z t
  | [], _, .nil, u, hu => by cases hu
  | z :: zs, _, .cons r t, u, hu => by
    rcases List.mem_cons.mp hu with rfl | hu
    · obtain ⟨t, e⟩ := r
      exact ⟨z, t, List.mem_cons_self, e⟩
    · obtain ⟨z', t', h1, h2⟩ := vals_str t u hu
      exact ⟨z', t', List.mem_cons_of_mem _ h1, h2⟩
/-- x in a tuple of texts, x a list, a tuple, a dict -/
def rInN (K : PySem.W.Frag) : R2 := fun x y H Q => ∃ (p : Addr) (zs : List Str), y = .ref p ∧ SqT K H p (zs.map V.str) ∧ NoText K H x ∧ Q (.bl false) H
theorem op_inN (hu : X.A.units + 1 < cLine) : OpR X (compareOp .In) (rInN X.K) := by
  intro pins s σ H x y v u Q I rx ry h
  obtain ⟨p, zs, rfl, hq, nt, q⟩ := h
  cases ry
  obtain ⟨its, r, pl, hz⟩ := I.tuple hq
  refine SeqAt.in_tupleAt (fun _ => false) (show s.heap.IsTuple p its.toArray from pl) (fun w hw => ?_) ⟨.bl _, H, I, rfl, ?_⟩
  · obtain ⟨z, t, _, rfl⟩ := vals_str r w (by simpa using hw)
    exact nt.eqAt I rx (show X.A.in1.units < cLine from hu) z t
  · rw [show its.toArray.any (fun _ => false) = false by simp]
    exact q
/-- x in a tuple of texts, x an instance with its own == that gives False for them -/
def rInI (K : PySem.W.Frag) (C : Addr) (sp : Sp) (E : XK) : R2 := fun x y H Q => ∃ (p : Addr) (zs : List Str) (a dx : Addr) (fs : List (Str × V)), y = .ref p ∧ SqT K H p (zs.map V.str) ∧ x = .ref a ∧ H a = some (.ins C dx fs) ∧
  (∀ z H1, z ∈ zs → Ext H H1 → sp [.ref a, .str z] H1 (fun v H2 => v = .bl false ∧ Ext H1 H2) E) ∧ ∀ H', Ext H H' → Q (.bl false) H'
theorem op_inI (hr : Room (n + 1) X.A) (M : OwnM X.K C "__eq__" f) (nf : PySem.W.subIn X.K (.ref C) (.type "str") = some false) (F : FnOk X.prog X.w X.K X.mg X.base CI n f fd ps sp) (hb : Binds X.K fd ps []) (hx : Passes CI X EI) : OpR X (compareOp .In) (rInI X.K C sp EI) := by
  intro pins s σ H x y v u Q I rx ry h
  obtain ⟨p, zs, a, dx, fs, rfl, hq, rfl, ha, hsp, q⟩ := h
  cases ry
  cases rx
  obtain ⟨its, r, pl, hz⟩ := I.tuple hq
  have sb : Sub X n X.A.in1 := Sub.in1 (⟨hr, rfl⟩ : Sub X (n + 1) X.A)
  refine MyN.in_none (fun s' => ∃ H', Inv X pins σ H' s' ∧ Ext H H') (show s.heap.IsTuple p its.toArray from pl) (fun w hw s' hJ => ?_) (fun s' hJ => ?_) ⟨H, I, Ext.rfl'⟩
  · obtain ⟨z, t, hz, rfl⟩ := vals_str r w (by simpa using hw)
    obtain ⟨H', I', x'⟩ := hJ
    have ha' := x' _ _ ha
    obtain ⟨mA, J, _⟩ := ins_get I'.hok ha'
    obtain ⟨od, J, _⟩ := J.look
    refine MyN.eqb_str_own sb.room.units0 I'.kIn J rfl nf M.at_ M.fn ?_
    refine wpAny_mono (run_sub sb F (envSub I' sb) hb hx I' (rv2 a (y := .str z) (u := .str z t) ⟨t, rfl⟩) (hsp z H' hz x')) (fun w2 s2 hq2 => ?_) fun _ _ z => z
    obtain ⟨y2, H2, I2, rz, rfl, x2⟩ := hq2
    cases rz
    exact ⟨false, rfl, rfl, H2, I2, x'.trans x2⟩
  · obtain ⟨H', I', x'⟩ := hJ
    exact ⟨.bl false, H', I', rfl, q H' x'⟩
end
end L2

namespace My
open PySem PySem.Spec PyProof.Rows L2
/-! ### tuples and lists of texts as data -/
theorem dpAll_str {K : PySem.W.Frag} {H : Hp} : ∀ zs : List Str, DpAll K H (zs.map V.str) (zs.map PyData.str)
  | [] => .nil
  | z :: zs => .cons (.str z) (dpAll_str zs)
def OkS (zs : List Str) : Prop := ∀ z, z ∈ zs → PyData.strOk z = true
theorem canLay_str : ∀ zs : List Str, OkS zs → PyData.canLayAll0 (zs.map PyData.str) = true
  | [], _ => rfl
  | z :: zs, h => by
    show (PyData.strOk z && PyData.canLayAll0 (zs.map PyData.str)) = true
    rw [canLay_str zs fun y hy => h y (List.mem_cons_of_mem _ hy), h z List.mem_cons_self]
    rfl
theorem depths_str : ∀ zs : List Str, PyData.depthAll (zs.map PyData.str) ≤ 1
  | [] => Nat.zero_le _
  | z :: zs => Nat.max_le.mpr ⟨Nat.le_of_ble_eq_true rfl, depths_str zs⟩
theorem shaped_strT (zs : List Str) (h0 : OkS zs) : SeqAt.shaped (.tuple (zs.map PyData.str)) = true := by
  refine Bool.and_eq_true_iff.mpr ⟨canLay_str zs h0, decide_eq_true ?_⟩
  have h := depths_str zs
  show PyData.depthAll (zs.map PyData.str) + 1 ≤ 64
  omega
theorem shaped_strL (zs : List Str) (h0 : OkS zs) : SeqAt.shaped (.list (zs.map PyData.str)) = true := by
  refine Bool.and_eq_true_iff.mpr ⟨canLay_str zs h0, decide_eq_true ?_⟩
  have h := depths_str zs
  show PyData.depthAll (zs.map PyData.str) + 1 ≤ 64
  omega
theorem eqvAll_str : ∀ zs ws : List Str, PyData.eqvAll (zs.map PyData.str) (ws.map PyData.str) = decide (zs = ws)
  | [], [] => rfl
  | [], _ :: _ => rfl
  | _ :: _, [] => rfl
  | z :: zs, w :: ws => by
    show (PyData.eqv (.str z) (.str w) && PyData.eqvAll (zs.map PyData.str) (ws.map PyData.str)) = _
    rw [eqvAll_str zs ws]
    show ((z == w) && decide (zs = ws)) = _
    by_cases h : z = w
    · subst h
      simp
    · simp [h]
theorem eqv_strT (zs ws : List Str) : PyData.eqv (.tuple (zs.map PyData.str)) (.tuple (ws.map PyData.str)) = decide (zs = ws) := eqvAll_str zs ws
/-- a house of names -/
def Hou (H : Hp) (K : PySem.W.Frag) (C a : Addr) (fo th : List Str) : Prop := HouseAt H K C a (fo.map V.str) (th.map V.str) ∧ OkS fo ∧ OkS th
theorem Hou.ext {H H' : Hp} {K : PySem.W.Frag} {C a : Addr} {fo th : List Str} (h : Hou H K C a fo th) (e : Ext H H') : Hou H' K C a fo th := ⟨HouseAt.ext h.1 e, h.2⟩
theorem Hou.ins {H : Hp} {K : PySem.W.Frag} {C a : Addr} {fo th : List Str} (h : Hou H K C a fo th) : ∃ dx fs, H a = some (.ins C dx fs) := by
  obtain ⟨⟨dx, fs, _, _, _, h1, _⟩, _⟩ := h
  exact ⟨dx, fs, h1⟩
def spHLen (K : PySem.W.Frag) (C : Addr) : Sp := fun vs H Q _ => ∃ a fo th, vs = [.ref a] ∧ Hou H K C a fo th ∧ Q (.int ((fo ++ th).length : Nat)) H
def spHEq (K : PySem.W.Frag) (C : Addr) : Sp := fun vs H Q _ => ∃ a fo th y, vs = [.ref a, y] ∧ Hou H K C a fo th ∧ ((∃ t, TyX K H y t ∧ PySem.W.kitOne K t (.ref C) = some false ∧ Q (.bl false) H) ∨
  ∃ b fo2 th2, y = .ref b ∧ Hou H K C b fo2 th2 ∧ Q (.bl (decide (fo = fo2) && decide (th = th2))) H)
def spHHas (K : PySem.W.Frag) (C : Addr) : Sp := fun vs H Q _ => ∃ a fo th y, vs = [.ref a, y] ∧ Hou H K C a fo th ∧ ((flatV y = true ∧ Q (.bl (inV y ((fo ++ th).map V.str))) H) ∨ (NoText K H y ∧ Q (.bl false) H) ∨
  ∃ b fo2 th2, y = .ref b ∧ Hou H K C b fo2 th2 ∧ ∀ H', Ext H H' → Q (.bl false) H')
theorem tyH {K : PySem.W.Frag} {H : Hp} {C a : Addr} {fo th : List Str} (T : HouC K C) (h : Hou H K C a fo th) : TyX K H (.ref a) (.ref C) := by
  obtain ⟨dx, fs, e⟩ := h.ins
  exact .base (.ins e T.cl T.ha T.hn T.htk T.hm)
section
variable {P : Program} {w : World} {K : PySem.W.Frag} {mg : Str → Option Value} {base : Heap} {f fE C : Addr} {fd fdE : FuncData}
theorem ok_hLen (Fn : FunD K "__len__" "House.__len__" (defArgs sHLen) (defBody sHLen) (defScope sHLen) [] [] f fd) (T : HouC K C) (gN : mg "len" = none) : FnOk P w K mg base CX0 1 f fd ["self"] (spHLen K C) := by
  refine Fn.ok scHLen (fun vs H Q E h => ?_) (fun cdv A outer s H vs Q E hr h => ⟨_, PSs.nox (pss_one (ps_ret (pe_callB call_len (by rfl) gN boot_len (pa_cons (pe_fld (pv 0) rfl) pa_nil)))), ?_⟩)
  · obtain ⟨a, fo, th, rfl, _⟩ := h
    rfl
  · obtain ⟨a, fo, th, rfl, ⟨⟨dx, fs, f, t, n, h1, h2, h3, h4, h5, h6, h7⟩, ok1, ok2⟩, q⟩ := h
    refine ⟨_, rfl, a, C, dx, fs, _, rfl, h1, T.cl, T.nn, h4, _, _, rfl, .inr ⟨_, h7, rfl⟩, ?_⟩
    rw [← List.map_append, List.length_map]
    exact q
theorem ok_hIter (Fn : FunD K "__iter__" "House.__iter__" (defArgs sHIter) (defBody sHIter) (defScope sHIter) [] [] f fd) (T : HouC K C) (gI : mg "iter" = none) : FnOk P w K mg base CX0 1 f fd ["self"] (spIter K C "nodes" base.objs.size) := by
  refine Fn.ok scHIter (fun vs H Q E h => ?_) (fun cdv A outer s H vs Q E hr h => ⟨_, PSs.nox (pss_one (ps_ret (pe_callB call_iterT (by rfl) gI boot_iter (pa_cons (pe_fld (pv 0) rfl) pa_nil)))), ?_⟩)
  · obtain ⟨a, _, _, _, _, rfl, _⟩ := h
    rfl
  · obtain ⟨a, dx, fs, l, zs, rfl, h1, h2, h3, q⟩ := h
    exact ⟨_, rfl, a, C, dx, fs, _, rfl, h1, T.cl, T.nn, h2, l, zs, rfl, h3, q⟩
theorem ok_hEq (Fn : FunD K "__eq__" "House.__eq__" (defArgs sHEq) (defBody sHEq) (defScope sHEq) [] [] f fd) (T : HouC K C) (gI : mg "isinstance" = none) (gH : mg "House" = some (.ref C)) (kC : PySem.W.kitOne K (.ref C) (.ref C) = some true) :
    FnOk P w K mg base CX0 1 f fd ["self", "other"] (spHEq K C) := by
  refine Fn.ok scHEq (fun vs H Q E h => ?_) (fun cdv A outer s H vs Q E hr h => ⟨_, PSs.nox (pss_one (ps_ret
    (pe_and (pe_callB call_isi (by rfl) gI boot_isinstance (pa_cons (pv 1) (pa_cons (pe_glob (v := .ref C) (by rfl) gH rfl) pa_nil)))
    (pe_and (pe_cmpR (op_eqD hr.units) (pe_fld (pv 0) rfl) (pe_fld (pv 1) rfl) (nomark _))
    (pe_one (pe_cmpR (op_eqD hr.units) (pe_fld (pv 0) rfl) (pe_fld (pv 1) rfl) (nomark _))))))), ?_⟩)
  · obtain ⟨a, _, _, _, rfl, _⟩ := h
    rfl
  · obtain ⟨a, fo, th, y, rfl, ho, h⟩ := h
    rcases h with ⟨t, ty, kt, q⟩ | ⟨b, fo2, th2, rfl, ho2, q⟩
    · refine ⟨_, rfl, y, .ref C, t, .ref C, false, rfl, .own C, ty, kt, false, rfl, ?_⟩
      exact q
    · refine ⟨_, rfl, .ref b, .ref C, .ref C, .ref C, true, rfl, .own C, tyH T ho2, kC, true, rfl, ?_⟩
      refine iteT ?_
      obtain ⟨⟨dx, fs, f, t, n, h1, h2, h3, h4, h5, h6, h7⟩, ok1, ok2⟩ := ho
      obtain ⟨⟨dx', fs', f', t', n', g1, g2, g3, g4, g5, g6, g7⟩, pk1, pk2⟩ := ho2
      refine ⟨_, rfl, a, C, dx, fs, _, rfl, h1, T.cl, T.nf, h2, _, rfl, b, C, dx', fs', _, rfl, g1, T.cl, T.nf, g2, _, _, .tup h5 (dpAll_str fo), .tup g5 (dpAll_str fo2), shaped_strT fo ok1, shaped_strT fo2 pk1, _, rfl, ?_⟩
      rw [eqv_strT]
      refine ite2 (fun e => ?_) (fun e => ?_)
      · refine ⟨_, rfl, a, C, dx, fs, _, rfl, h1, T.cl, T.nt, h3, _, rfl, b, C, dx', fs', _, rfl, g1, T.cl, T.nt, g3, _, _, .tup h6 (dpAll_str th), .tup g6 (dpAll_str th2), shaped_strT th ok2, shaped_strT th2 pk2, ?_⟩
        rw [eqv_strT]
        rw [e, Bool.true_and] at q
        exact q
      · have e' : decide (fo = fo2) = false := by simpa using e
        rw [e', Bool.false_and] at q
        exact q
theorem ok_hHas (Fn : FunD K "__contains__" "House.__contains__" (defArgs sHHas) (defBody sHHas) (defScope sHHas) [] [] f fd) (T : HouC K C) (nf : PySem.W.subIn K (.ref C) (.type "str") = some false) (Me : OwnM K C "__eq__" fE)
    (FE : FnOk P w K mg base CX0 1 fE fdE ["self", "other"] (spHEq K C)) (bE : Binds K fdE ["self", "other"] []) (kS : PySem.W.kitOne K (.type "str") (.ref C) = some false) : FnOk P w K mg base CX0 3 f fd ["self", "x"] (spHHas K C) := by
  refine Fn.ok scHHas (fun vs H Q E h => ?_) (fun cdv A outer s H vs Q E hr h => ⟨_, PSs.nox (pss_one (ps_ret
    (pe_cmpR (OpR.or op_in_seq (OpR.or (op_inN (Nat.lt_of_le_of_lt (Nat.add_le_add_left (by decide : 1 ≤ 64) _) hr.units)) (op_inI (EI := E0) hr Me nf FE bE pass0))) (pv 1) (pe_fld (pv 0) rfl) (by rfl)))), ?_⟩)
  · obtain ⟨a, _, _, _, rfl, _⟩ := h
    rfl
  · obtain ⟨a, fo, th, y, rfl, ho, h⟩ := h
    have ho' := ho
    obtain ⟨⟨dx, fs, f, t, n, h1, h2, h3, h4, h5, h6, h7⟩, ok1, ok2⟩ := ho
    rw [← List.map_append] at h7
    refine ⟨_, rfl, _, rfl, a, C, dx, fs, _, rfl, h1, T.cl, T.nn, h4, ?_⟩
    rcases h with ⟨fy, q⟩ | ⟨ny, q⟩ | ⟨b, fo2, th2, rfl, ho2, q⟩
    · exact .inl ⟨n, _, rfl, .inr h7, fy, by rw [List.all_map]; exact List.all_eq_true.mpr fun _ _ => rfl, q⟩
    · exact .inr (.inl ⟨n, fo ++ th, rfl, h7, ny, q⟩)
    · obtain ⟨dx', fs', g1⟩ := ho2.ins
      refine .inr (.inr ⟨n, fo ++ th, b, dx', fs', rfl, h7, rfl, g1, fun z H1 _ x1 => ?_, q⟩)
      exact ⟨b, fo2, th2, .str z, rfl, ho2.ext x1, .inl ⟨_, .base (.str z), kS, rfl, Ext.rfl'⟩⟩
end
end My

namespace L2
open PySem PySem.Spec PyProof.Rows
/-- C(..) where __init__ may raise, wished for at the caller's slots -/
def tMakeS (C : Addr) (sp : Sp) (ws : List V) (W : L2.St → XK) (t : TA) : TE := fun σ H Q => t σ H fun vs H1 => ∀ x dx, H1 x = none → H1 dx = none → dx ≠ x →
  sp (.ref x :: (vs ++ ws)) (upd (upd H1 dx (.own x)) x (.ins C dx [])) (fun v H2 => v = .non ∧ Q (.ref x) H2) (W σ)
section
variable {X : Cx} {CI : CXT} {n : Nat} {fI C : Addr} {fd : FuncData} {ps : List Str} {sp : Sp} {ws : List V} {wu : List Value} {W : L2.St → XK} {x : Str} {p pos : Pos} {e : Expr} {es : List Expr} {t : TA}
theorem make_sub {pins : List (Addr × Obj)} {σ : L2.St} {H : Hp} {s : Shared} {Q : VK} {us : List Value} {vs : List V} {EW : XK} (M : Mk X.K C fI) (Fi : FnOk X.prog X.w X.K X.mg X.base CI n fI fd ps sp) (room : Room (n + 1) X.A)
    (bi : Binds X.K fd ps wu) (rw' : Vals ws wu) (let_ : PassesAt CI X σ EW) (I : Inv X pins σ H s) (rv : Vals vs us)
    (go : ∀ y dy, H y = none → H dy = none → dy ≠ y → sp (.ref y :: (vs ++ ws)) (upd (upd H dy (.own y)) y (.ins C dy [])) (fun v H2 => v = .non ∧ Q (.ref y) H2) EW) :
    wpAny (model X.prog X.w) X.A (call (.ref C) us) (EP X pins σ Q) X.xe s := by
  have want := go (s.heap.objs.size + 1) s.heap.objs.size (I.hok.fresh (Nat.le_succ _)) (I.hok.fresh (Nat.le_refl _)) (Nat.ne_of_lt (Nat.lt_succ_self _))
  have J := Inv.made (C := C) I
  have all : Vals (V.ref (s.heap.objs.size + 1) :: (vs ++ ws)) (Value.ref (s.heap.objs.size + 1) :: (us ++ wu)) := .cons rfl (rv.append rw')
  have many : (Value.ref (s.heap.objs.size + 1) :: us ++ wu).length = ps.length := all.length.symm.trans (Fi.len _ _ _ _ want)
  have ran := Fi.run _ X.stack _ _ ⟨Value.ref (s.heap.objs.size + 1) :: us, []⟩ _ _ _ EW (room.make C us []) (J.env0.make C us []) (bi _ _ J.kIn many) all want
  refine wpAny_call (make_map (f := fI) I.kIn M.makes M.init (beq_iff_eq.mp M.fn) (codeAny_mono ran ?_))
  rintro (er | fl) s' back
  · exact let_ pins _ _ er s' J back
  · cases fl with
    | ret u =>
      obtain ⟨v, H', J', ru, ⟨ev, q⟩⟩ := J.after back
      subst ev
      exact ⟨ru, .ref _, H', J', rfl, q⟩
    | next => exact back.elim
    | brk => exact back.elim
    | cont => exact back.elim
theorem pe_makeS (M : Mk X.K C fI) (Fi : FnOk X.prog X.w X.K X.mg X.base CI n fI fd ps sp) (room : Room (n + 1) X.A) (gl : Gl X x) (gm : X.mg x = some (.ref C)) (bi : Binds X.K fd ps wu) (rw' : Vals ws wu) (let_ : ∀ σ, PassesAt CI X σ (W σ))
    (ha : PA X (e :: es) t) (nd : (x == ("__debug__" : Str)) = false := by decide) (h1 : starEach (e :: es) X.env = (false, eval e X.env) :: starEach es X.env := by rfl) (h2 : (backTo pos (starEach es X.env)).any (·.1) = false := by rfl) :
    PE X (.Call (.Name x p) (e :: es) [] pos) (tMakeS C sp ws W t) :=
  ⟨fun pins s σ H Q I h => wpAny_Call_Name_kw (ld_glob I gl gm (PySem.W.callWith_K (h₀ := X.base) I.ok.mod.kin M.kp (thn (ha.run pos pins s σ H _ I h) fun _ _ ⟨_, _, I1, r, q⟩ => ⟨I1.kIn, make_sub M Fi room bi rw' (let_ σ) I1 r q⟩) h1 h2) nd)⟩
end
end L2

namespace L2
open PySem PySem.Spec PyProof.Rows
/-- a dict == a text -/
def rEqDS : R2 := fun x y H Q => ∃ a kvs z, x = .ref a ∧ y = .str z ∧ H a = some (.dK kvs) ∧ Q (.bl false) H
theorem op_eqDS {X : Cx} (hu : X.A.units < cLine) : OpR X (compareOp .Eq) rEqDS := by
  intro pins s σ H x y v u Q I rx ry h
  obtain ⟨a, kvs, z, rfl, rfl, ha, q⟩ := h
  cases rx
  obtain ⟨t, rfl⟩ := ry
  obtain ⟨_, _, vs, _, o, es, ep, h1, h2, h3, _⟩ := (show ObjOk X.prog X.w H s.heap a (.dK kvs) from I.hok a _ ha)
  show wpAny _ _ (richCompare .Eq (.ref a) (.str z t)) _ _ s
  exact SeqAt.rc_eq_decline_or (k := false) ⟨_, h1, h2.1⟩ (PySem.typeIs_str s z t) (by decide) F.sub_str_dict F.slot_dict_eq F.slot_str_eq_refl
    (fun _ hq => call_meets F.slot_dict_eq ⟨_, h1, h2.1⟩ F.entry_dict_eq (F.args_dict_eq_2 _ _) (MyN.dict_no_str z t a o h2.1) ⟨h1, hq⟩)
    (fun _ hq => call_meets F.slot_str_eq_refl (PySem.typeIs_str s z t) F.entry_str_eq (F.args_str_eq_2 _ _) (MyN.str_no_dict z t a o es ep h3) ⟨h1, hq⟩)
    (fun _ hq => wpAny_of_eq (rfl : isSame (.ref a) (.str z t) = pure false) hq) (.inr hu) ⟨.bl false, H, I, rfl, q⟩
end L2

namespace L2
open PySem PySem.Spec PyProof.Rows
theorem wp_notB {M : Model} {A : Around} {E : Value → Shared → Prop} {s : Shared} {m : Sem Bool} {Q Q' : Value → Shared → Prop}
  (h : wpAny M A (m >>= fun z => pure (Value.bool z)) Q E s) (hq : ∀ b s', Q (.bool b) s' → Q' (.bool (!b)) s') : wpAny M A (m >>= fun z => pure (Value.bool (!z))) Q' E s := by
  intro Γ p hi
  have z := h Γ p hi
  have z2 : Sem.wp M Γ (m.bind fun z => Sem.pure (Value.bool z)) (fun a x s' => Q a s') (fun e x s' => E e s') p s := z
  show Sem.wp M Γ (m.bind fun z => Sem.pure (Value.bool (!z))) (fun a x s' => Q' a s') (fun e x s' => E e s') p s
  rw [Sem.wp_bind] at z2 ⊢
  exact Sem.wp_mono _ _ _ (fun a p' s' q => hq a s' q) (fun _ _ _ e => e) _ _ z2
def rNot (r : R2) : R2 := fun x y H Q => r x y H (fun v H' => ∃ b, v = .bl b ∧ Q (.bl (!b)) H')
theorem OpR.notIn {X : Cx} {r : R2} (h : OpR X (compareOp .In) r) : OpR X (compareOp .NotIn) (rNot r) := by
  intro pins s σ H x y v u Q I rx ry h2
  have z := h pins s σ H x y v u _ I rx ry h2
  refine wp_notB z fun b s' q => ?_
  obtain ⟨w, H', I', rw', c, rfl, q⟩ := q
  have e : b = c := by cases rw'; rfl
  subst e
  exact ⟨.bl (!b), H', I', rfl, q⟩
end L2

namespace My
open PySem PySem.Spec PyProof.Rows L2
/-! ### names -/
def oddNm : List Str := ["zz", "zzz", "zy", "zr", "zs", "zt", "zu", "zv"]
def Nm (z : Str) : Prop := nameB z = true ∧ z.length ≠ 4 ∧ z ≠ "zq" ∧ z.length ≤ 8 ∧ PyData.strOk z = true ∧ ∀ b ∈ oddNm, z ≠ b
instance (z : Str) : Decidable (Nm z) := by unfold Nm; exact inferInstance
def az : Str := "abcdefghijklmnopqrstuvwxy"
def ap : Str := "abcdefghijklmnop"
def spares : List Str := ap.cps.toList.map fun c => ("z" : Str) ++ (⟨#[c]⟩ : Str) ++ ("q" : Str)
theorem spares_nm : ∀ z ∈ spares, Nm z := by decide +kernel
theorem spares_nd : spares.Nodup := by decide +kernel
theorem spares_len : spares.length = 16 := by decide +kernel
theorem nodup_sub : ∀ (as bs : List Str), as.Nodup → (∀ x, x ∈ as → x ∈ bs) → as.length ≤ bs.length
  | [], bs, _, _ => Nat.zero_le _
  | a :: as, bs, nd, h => by
    obtain ⟨na, nd'⟩ := List.nodup_cons.mp nd
    have ha := h a List.mem_cons_self
    have ih := nodup_sub as (bs.erase a) nd' fun x hx => (List.mem_erase_of_ne (fun e => by rw [e] at hx; exact na hx)).mpr (h x (List.mem_cons_of_mem _ hx))
    rw [List.length_erase_of_mem ha] at ih
    have : 0 < bs.length := List.length_pos_of_mem ha
    rw [List.length_cons]
    omega
theorem inV_str (z : Str) (zs : List Str) : inV (.str z) (zs.map V.str) = decide (z ∈ zs) := by
  unfold inV
  rw [List.any_map, Bool.eq_iff_iff, List.any_eq_true, decide_eq_true_iff]
  constructor
  · rintro ⟨x, hx, e⟩
    have e' : x = z := eq_of_beq e
    exact e' ▸ hx
  · intro h
    exact ⟨z, h, beq_self_eq_true z⟩
/-- the first of the spare ones that is not found as yet -/
def freshOf (w : Str) (zs : List Str) : List Str := (w :: spares).filter fun z => !decide (z ∈ zs)
theorem fresh_ne {w : Str} {zs : List Str} (h : zs.length < 16) : ∃ z r, freshOf w zs = z :: r := by
  cases e : freshOf w zs with
  | cons z r => exact ⟨z, r, rfl⟩
  | nil =>
    exfalso
    have hall : ∀ x, x ∈ spares → x ∈ zs := fun x hx => by
      have h1 := List.filter_eq_nil_iff.mp e x (List.mem_cons_of_mem _ hx)
      simpa using h1
    have := nodup_sub spares zs spares_nd hall
    rw [spares_len] at this
    omega
theorem fresh_mem {w z : Str} {zs r : List Str} (h : freshOf w zs = z :: r) (hw : Nm w) : Nm z ∧ z ∉ zs := by
  have hm : z ∈ freshOf w zs := by rw [h]; exact List.mem_cons_self
  obtain ⟨h1, h2⟩ := List.mem_filter.mp hm
  refine ⟨?_, by simpa using h2⟩
  rcases List.mem_cons.mp h1 with rfl | h1
  · exact hw
  · exact spares_nm z h1
/-- a word of signs from a to y -/
theorem joinL_one : ∀ cs : List Nat, TL.joinL [] (cs.map fun c => [c]) = cs
  | [] => rfl
  | [_] => rfl
  | c :: d :: r => by
    show [c] ++ ([] ++ TL.joinL [] ((d :: r).map fun c => [c])) = _
    rw [joinL_one (d :: r)]
    rfl
theorem join_one (cs : List Nat) : (Txt.join "" (cs.map fun c => (⟨#[c]⟩ : Str))).cps.toList = cs := by
  rw [TL.join_eq]
  have h := TL.tl_join "" (cs.map fun c => (⟨#[c]⟩ : Str))
  rw [List.map_map] at h
  exact h.trans (joinL_one cs)
theorem word_nm {z : Str} {cs : List Nat} (e : z.cps.toList = cs) (hc : ∀ c, c ∈ cs → c ∈ az.cps.toList) (hn : cs.length ∈ [1, 1, 2, 3, 8]) : Nm z := by
  have len : z.length = cs.length := by
    show z.cps.size = _
    rw [← Array.length_toList, e]
  have all : ∀ c, c ∈ cs → c ∈ letters.cps.toList ∧ c < 122 := fun c h => by
    have h1 := hc c h
    have key : ∀ c, c ∈ az.cps.toList → c ∈ letters.cps.toList ∧ c < 122 := by decide +kernel
    exact key c h1
  have l18 : 1 ≤ cs.length ∧ cs.length ≤ 8 ∧ cs.length ≠ 4 := by
    simp only [List.mem_cons, List.not_mem_nil, or_false] at hn
    omega
  refine ⟨?_, by rw [len]; exact l18.2.2, fun h => ?_, by rw [len]; exact l18.2.1, ?_, fun b hb h => ?_⟩
  · unfold nameB
    rw [decide_eq_true (by rw [len]; omega), decide_eq_true (by rw [len]; omega), Bool.true_and, Bool.true_and, List.all_eq_true]
    intro b hb
    unfold signB at hb
    obtain ⟨c, hc', rfl⟩ := List.mem_map.mp hb
    rw [e] at hc'
    exact decide_eq_true (all c hc').1
  · have h122 : (122 : Nat) ∈ cs := by
      rw [← e, h]
      decide +kernel
    exact absurd (all 122 h122).2 (Nat.lt_irrefl _)
  · show z.cps.all _ = true
    rw [← Array.all_toList, e, List.all_eq_true]
    intro c h
    exact decide_eq_true (Nat.lt_trans (all c h).2 (by decide))
  · have h122 : (122 : Nat) ∈ cs := by
      rw [← e, h]
      exact (show ∀ b ∈ oddNm, (122 : Nat) ∈ b.cps.toList by decide +kernel) b hb
    exact absurd (all 122 h122).2 (Nat.lt_irrefl _)
theorem sum_one : ∀ cs : List Nat, (((cs.map fun c => (⟨#[c]⟩ : Str))).map (·.length)).sum = cs.length
  | [] => rfl
  | c :: r => by
    show 1 + (((r.map fun c => (⟨#[c]⟩ : Str))).map (·.length)).sum = _
    rw [sum_one r, List.length_cons, Nat.add_comm]
theorem pool_ext {H H' : Hp} {p : Addr} {n : Int} (h : Pool H p n) (e : Ext H H') : Pool H' p n := by
  obtain ⟨g, m, c, h1, h2⟩ := h
  exact ⟨g, m, c, e _ _ h1, h2⟩
theorem pool_at {H H' : Hp} {p : Addr} {n : Int} (h : Pool H p n) (e : H' p = H p) : Pool H' p n := by
  obtain ⟨g, m, c, h1, h2⟩ := h
  exact ⟨g, m, c, by rw [e]; exact h1, h2⟩
theorem pool_ne {H : Hp} {p l : Addr} {n : Int} (h : Pool H p n) (e : H l = none) : l ≠ p := fun z => by
  obtain ⟨g, m, c, h1, _⟩ := h
  rw [z, h1] at e
  cases e
theorem But.ext {H H1 H2 : Hp} {a : Addr} (b : But H H1 a) (e : Ext H1 H2) : But H H2 a := b.trans (ext_but e)
/-- names: unlike, none of four signs, none zq -/
def Nms (zs : List Str) : Prop := zs.Nodup ∧ ∀ z, z ∈ zs → Nm z
structure HouseTxt (P : Program) (w : World) (K : PySem.W.Frag) (mg : Str → Option Value) (C CB : Addr) where
  T : HouC K C
  gH : mg "House" = some (.ref C)
  kCC : PySem.W.kitOne K (.ref C) (.ref C) = some true
  ne : PySem.W.findIn K (.ref C) "__ne__" = some (some (.builtin "object.__ne__"))
  noStr : PySem.W.subIn K (.ref C) (.type "str") = some false
  nb : ∀ T, T ∈ ["NoneType", "list", "tuple", "int", "str"] → PySem.W.notFirst K C (.type T) = true ∧ PySem.W.kitOne K (.type T) (.ref C) = some false
  fI : Addr
  fdI : FuncData
  M : Mk K C fI
  I : ∀ base, FnOk P w K mg base (L2.CX P w) 4 fI fdI ["self", "folders", "things"] (spHInit K C CB)
  bI : Binds K fdI ["self", "folders", "things"] []
  uD : Value
  bD : Binds K fdI ["self", "folders", "things"] [uD]
  aD : Addr
  eD : uD = .ref aD
  tD : ∀ H, SqT K H aD []
  fL : Addr
  fdL : FuncData
  mL : OwnM K C "__len__" fL
  L : ∀ base, FnOk P w K mg base CX0 1 fL fdL ["self"] (spHLen K C)
  bL : Binds K fdL ["self"] []
  fS : Addr
  fdS : FuncData
  mS : OwnM K C "__contains__" fS
  S : ∀ base, FnOk P w K mg base CX0 3 fS fdS ["self", "x"] (spHHas K C)
  bS : Binds K fdS ["self", "x"] []
  fW : Addr
  fdW : FuncData
  mW : OwnM K C "__iter__" fW
  W : ∀ base : Heap, FnOk P w K mg base CX0 1 fW fdW ["self"] (spIter K C "nodes" base.objs.size)
  bW : Binds K fdW ["self"] []
  fE : Addr
  fdE : FuncData
  mE : OwnM K C "__eq__" fE
  E : ∀ base, FnOk P w K mg base CX0 1 fE fdE ["self", "other"] (spHEq K C)
  bE : Binds K fdE ["self", "other"] []
/-! ### lists of truths as data -/
theorem dpAll_bl {K : PySem.W.Frag} {H : Hp} : ∀ bs : List Bool, DpAll K H (bs.map V.bl) (bs.map PyData.bool)
  | [] => .nil
  | b :: bs => .cons (.bl b) (dpAll_bl bs)
theorem canLay_bl : ∀ bs : List Bool, PyData.canLayAll0 (bs.map PyData.bool) = true
  | [] => rfl
  | b :: bs => by
    show (PyData.canLay0 (.bool b) && PyData.canLayAll0 (bs.map PyData.bool)) = true
    rw [canLay_bl bs]
    rfl
theorem depths_bl : ∀ bs : List Bool, PyData.depthAll (bs.map PyData.bool) ≤ 1
  | [] => Nat.zero_le _
  | b :: bs => by
    have h := depths_bl bs
    show max (PyData.depth (.bool b)) (PyData.depthAll (bs.map PyData.bool)) ≤ 1
    exact Nat.max_le.mpr ⟨by decide +revert, h⟩
theorem shaped_bl (bs : List Bool) : SeqAt.shaped (.list (bs.map PyData.bool)) = true := by
  refine Bool.and_eq_true_iff.mpr ⟨canLay_bl bs, decide_eq_true ?_⟩
  have h := depths_bl bs
  show PyData.depthAll (bs.map PyData.bool) + 1 ≤ 64
  omega
theorem inV_no {y : V} (h : ∀ z, eqV (.str z) y = false) (zs : List Str) : inV y (zs.map V.str) = false := by
  unfold inV
  rw [List.any_map, List.any_eq_false]
  intro z _ e
  have e' : eqV (.str z) y = true := e
  rw [h z] at e'
  cases e'
/-! ### lists of lists as data -/
theorem canLay_ds : ∀ ds : List PyData, (∀ d, d ∈ ds → d.canLay0 = true ∧ d.depth ≤ 2) → PyData.canLayAll0 ds = true ∧ PyData.depthAll ds ≤ 2
  | [], _ => ⟨rfl, Nat.zero_le _⟩
  | d :: ds, h => by
    obtain ⟨h1, h2⟩ := canLay_ds ds fun x hx => h x (List.mem_cons_of_mem _ hx)
    obtain ⟨h3, h4⟩ := h d List.mem_cons_self
    refine ⟨?_, Nat.max_le.mpr ⟨h4, h2⟩⟩
    show (d.canLay0 && PyData.canLayAll0 ds) = true
    rw [h1, h3]
    rfl
theorem shaped_ds (ds : List PyData) (h : ∀ d, d ∈ ds → d.canLay0 = true ∧ d.depth ≤ 2) : SeqAt.shaped (.list ds) = true := by
  obtain ⟨h1, h2⟩ := canLay_ds ds h
  refine Bool.and_eq_true_iff.mpr ⟨h1, decide_eq_true ?_⟩
  show PyData.depthAll ds + 1 ≤ 64
  omega
theorem flat_tup (zs : List Str) (h : OkS zs) : (PyData.tuple (zs.map PyData.str)).canLay0 = true ∧ (PyData.tuple (zs.map PyData.str)).depth ≤ 2 := ⟨canLay_str zs h, Nat.succ_le_succ (depths_str zs)⟩
theorem flat_lst (zs : List Str) (h : OkS zs) : (PyData.list (zs.map PyData.str)).canLay0 = true ∧ (PyData.list (zs.map PyData.str)).depth ≤ 2 := ⟨canLay_str zs h, Nat.succ_le_succ (depths_str zs)⟩
theorem dpAll_rep {K : PySem.W.Frag} {H : Hp} {d : PyData} : ∀ ws : List V, (∀ x, x ∈ ws → Dp K H x d) → DpAll K H ws (List.replicate ws.length d)
  | [], _ => .nil
  | x :: ws, h => .cons (h x List.mem_cons_self) (dpAll_rep ws fun y hy => h y (List.mem_cons_of_mem _ hy))
theorem flat_rep {α : Type} (n : Nat) (x : α) : (List.replicate n [x]).flatten = List.replicate n x := by
  induction n with
  | zero => rfl
  | succ n ih => rw [List.replicate_succ, List.flatten_cons, ih]; rfl
def Nok (zs : List Str) : Prop := zs.Nodup ∧ ∀ z, z ∈ zs → nameB z = true ∧ PyData.strOk z = true ∧ z.length ≤ sizeLine
theorem Nms.ok {zs : List Str} (h : Nms zs) : Nok zs := ⟨h.1, fun z hz => ⟨(h.2 z hz).1, (h.2 z hz).2.2.2.2.1, Nat.le_trans (h.2 z hz).2.2.2.1 (by rw [sizeLine_eq]; decide)⟩⟩
theorem Nok.perm {zs ws : List Str} (h : Nok zs) (p : ws.Perm zs) : Nok ws := ⟨p.nodup_iff.mpr h.1, fun z hz => h.2 z (p.mem_iff.mp hz)⟩
theorem Nok.zq {zs : List Str} (h : Nms zs) : Nok ("zq" :: zs) := by
  refine ⟨List.nodup_cons.mpr ⟨fun z => (h.2 _ z).2.2.1 rfl, h.1⟩, fun z hz => ?_⟩
  rcases List.mem_cons.mp hz with rfl | hz
  · decide +kernel
  · exact h.ok.2 z hz
theorem wrong_ok {zs : List Str} (h : Nok zs) : wrongOf (zs.map V.str) = none := by
  refine wrong_none fun i hi => ?_
  rw [List.length_map] at hi
  unfold badAt
  rw [List.getElem?_map, List.getElem?_eq_getElem hi]
  show (!nameB zs[i] || inV (.str zs[i]) ((zs.map V.str).take i)) = false
  rw [(h.2 _ (List.getElem_mem hi)).1, ← List.map_take, inV_str]
  have nd := h.1
  rw [← List.take_append_drop i zs, List.nodup_append] at nd
  have hd : zs[i] ∈ zs.drop i := by
    rw [List.drop_eq_getElem_cons hi]
    exact List.mem_cons_self
  rw [decide_eq_false fun hm => nd.2.2 _ hm _ hd rfl]
  rfl
theorem part_ok {fo th : List Str} (h : Nok (fo ++ th)) (hf : fo ≠ []) : partOf (some (fo.map V.str)) (some (th.map V.str)) = none := by
  have hl : ¬ (fo.map V.str).length = 0 := by
    rw [List.length_map]
    exact fun e => hf (List.eq_nil_of_length_eq_zero e)
  show (if (fo.map V.str).length = 0 then some 0 else wrongOf (fo.map V.str ++ th.map V.str)) = none
  rw [if_neg hl, ← List.map_append, wrong_ok h]
theorem things_ok {K : PySem.W.Frag} {H : Hp} {zs : List Str} (h : ∀ z, z ∈ zs → z.length ≤ sizeLine) : ∀ y, y ∈ zs.map V.str → Thing K H y := fun y hy => by
  obtain ⟨z, hz, rfl⟩ := List.mem_map.mp hy
  exact .inl ⟨z, rfl, h z hz⟩
/-- House(..) of good names -/
theorem mk_at {K : PySem.W.Frag} {C CB a b x' dx : Addr} {H : Hp} {fo th : List Str} {R : Hp → Prop} {E : XK} (sf : SeqAt2 K H a (fo.map V.str)) (st : SeqAt2 K H b (th.map V.str)) (ok : Nok (fo ++ th)) (hf : fo ≠ []) (hl : (fo ++ th).length ≤ sizeLine)
    (h1 : H x' = none) (h2 : H dx = none) (h3 : dx ≠ x') (q : ∀ H', Ext H H' → Hou H' K C x' fo th → R H') : spHInit K C CB [.ref x', .ref a, .ref b] (L2.upd (L2.upd H dx (.own x')) x' (.ins C dx [])) (fun v H2 => v = .non ∧ R H2) E := by
  have xn : Ext H (L2.upd (L2.upd H dx (.own x')) x' (.ins C dx [])) := fun c u k => by
    rw [upd_ne (ne_of_none k h1), upd_ne (ne_of_none k h2)]
    exact k
  have okf : ∀ z, z ∈ fo → _ := fun z hz => ok.2 z (List.mem_append_left _ hz)
  have okt : ∀ z, z ∈ th → _ := fun z hz => ok.2 z (List.mem_append_right _ hz)
  refine ⟨x', dx, _, _, some (fo.map V.str), some (th.map V.str), rfl, upd_same, ⟨a, rfl, sf.ext xn, things_ok fun z hz => (okf z hz).2.2⟩, ⟨b, rfl, st.ext xn, things_ok fun z hz => (okt z hz).2.2⟩, fun xs ys e1 e2 => ?_, fun xs ys H' e1 e2 _ bt hs => ⟨rfl, ?_⟩, fun i d H' e => ?_⟩
  · cases e1
    cases e2
    rw [← List.map_append, List.length_map]
    exact hl
  · cases e1
    cases e2
    refine q H' (fun c u k => bt c u (ne_of_none k h1) (xn c u k)) ⟨hs, fun z hz => (okf z hz).2.1, fun z hz => (okt z hz).2.1⟩
  · rw [part_ok ok hf] at e
    cases e
theorem HouseTxt.vD {P : Program} {w : World} {K : PySem.W.Frag} {mg : Str → Option Value} {C CB : Addr} (Z : HouseTxt P w K mg C CB) : Vals [V.ref Z.aD] [Z.uD] := .cons Z.eD .nil
theorem sqT_upd {K : PySem.W.Frag} {H : Hp} {l f : Addr} {ys zs xs : List V} (h : SqT K H f xs) (hl : H l = some (.lst ys)) : SqT K (L2.upd H l (.lst zs)) f xs := by
  rcases h with (h | ⟨o, h⟩) | h
  · exact .inl (.inl (by rw [upd_ne (ne_of h hl (fun z => nomatch z))]; exact h))
  · exact .inl (.inr ⟨o, by rw [upd_ne (ne_of h hl (fun z => nomatch z))]; exact h⟩)
  · exact .inr h
theorem hou_upd {H : Hp} {K : PySem.W.Frag} {C b l : Addr} {fo th : List Str} {ys zs : List V} (h : Hou H K C b fo th) (hl : H l = some (.lst ys)) : Hou (L2.upd H l (.lst zs)) K C b fo th := by
  obtain ⟨⟨dx, fs, f, t, n, h1, h2, h3, h4, h5, h6, h7⟩, ok⟩ := h
  exact ⟨⟨dx, fs, f, t, n, by rw [upd_ne (ne_of h1 hl (fun z => nomatch z))]; exact h1, h2, h3, h4, sqT_upd h5 hl, sqT_upd h6 hl, sqT_upd h7 hl⟩, ok⟩
def Has (P : Program) (w : World) (K : PySem.W.Frag) (mg : Str → Option Value) (base : Heap) (k : Nat) (x : Str) (ps : List Str) (sp : Sp) : Prop :=
  ∃ (f : Addr) (fd : FuncData), FnOk P w K mg base CX0 k f fd ps sp ∧ mg x = some (.ref f) ∧ PySem.W.keepIn K (.ref f) = true ∧ Binds K fd ps []
theorem pe_has {X : Cx} {k : Nat} {x : Str} {ps : List Str} {sp : Sp} {e : Expr} {es : List Expr} {t : TA} {p pos : Pos} (h : Has X.prog X.w X.K X.mg X.base k x ps sp) (hr : Room k X.A) (ha : PA X (e :: es) t) (hg : Gl X x := by rfl)
    (hdb : (x == ("__debug__" : Str)) = false := by decide) (h1 : starEach (e :: es) X.env = (false, eval e X.env) :: starEach es X.env := by rfl) (h2 : (backTo pos (starEach es X.env)).any (·.1) = false := by rfl) :
    PE X (.Call (.Name x p) (e :: es) [] pos) (tCall sp [] E0 t) := by
  obtain ⟨f, fd, F, m, kp, b⟩ := h
  exact pe_call F hr hg m kp b .nil pass0 ha hdb h1 h2
/-- list(a) -/
def rLst (K : PySem.W.Frag) : List V → Hp → VK → Prop := fun xs H Q => ∃ a zs, xs = [.ref a] ∧ SqL K H a zs ∧ ∀ l, H l = none → Q (.ref l) (L2.upd H l (.lst zs))
theorem call_lst {X : Cx} : CallR X (.type "list") (rLst X.K) := by
  intro pins s σ H xs us Q I rv h
  obtain ⟨a, zs, rfl, sq, q⟩ := h
  exact call_list_of pins s σ H _ us Q I rv ⟨a, zs, rfl, .inl sq, q⟩
theorem pool_mono {H : Hp} {p : Addr} {n m : Int} (h : Pool H p n) (e : n ≤ m) : Pool H p m := by
  obtain ⟨g, mm, c, h1, h2, h3, h4, h5, h6⟩ := h
  exact ⟨g, mm, c, h1, h2, h3, h4, h5, by omega⟩
theorem pool_upd {H : Hp} {p l : Addr} {o : HO} {n : Int} (h : Pool H p n) (e : l ≠ p) : Pool (L2.upd H l o) p n := pool_at h (upd_ne (Ne.symm e))
theorem cutV_take {xs : List V} {k : Nat} (h : k ≤ xs.length) : cutV xs none (some ((k : Nat) : Int)) = xs.take k := by
  unfold cutV
  rw [HT.sIx_none, HT.sIx_nat, Nat.min_eq_left h, Nat.sub_zero, List.drop_zero]
theorem cutV_drop {xs : List V} {k : Nat} (h : k ≤ xs.length) : cutV xs (some ((k : Nat) : Int)) none = xs.drop k := by
  unfold cutV
  rw [HT.sIx_none, HT.sIx_nat, Nat.min_eq_left h, List.take_of_length_le (by rw [List.length_drop]; exact Nat.le_refl _)]
end My

namespace L2
open PySem PySem.Spec PyProof.Rows
theorem PG.or {X : Cx} {t : Expr} {g g' : TG} (h : PG X t g) (h' : PG X t g') : PG X t (fun v σ H Q => g v σ H Q ∨ g' v σ H Q) :=
  ⟨fun pins s σ H v u Q I rv q => q.elim (h.run pins s σ H v u Q I rv) (h'.run pins s σ H v u Q I rv)⟩
theorem opK {X : Cx} {f : Value → Value → Sem Value} {r : PySem.W.Frag → R2} {K : PySem.W.Frag} (e : X.K = K) (h : OpR X f (r X.K)) : OpR X f (r K) := e ▸ h
theorem ixK {X : Cx} {r : PySem.W.Frag → R2} {K : PySem.W.Frag} (e : X.K = K) (h : IxR X (r X.K)) : IxR X (r K) := e ▸ h
theorem caK {X : Cx} {v : Value} {r : PySem.W.Frag → List V → Hp → VK → Prop} {K : PySem.W.Frag} (e : X.K = K) (h : CallR X v (r X.K)) : CallR X v (r K) := e ▸ h
theorem peK {X : Cx} {x : Expr} {r : PySem.W.Frag → TE} {K : PySem.W.Frag} (e : X.K = K) (h : PE X x (r X.K)) : PE X x (r K) := e ▸ h
end L2
namespace My
open PySem PySem.Spec PyProof.Rows L2
/-- an unpacking of a list or a tuple -/
def gSeq (K : PySem.W.Frag) (n : Nat) (t : TGs) : TG := fun v σ H Q => ∃ a xs, v = .ref a ∧ SeqAt2 K H a xs ∧ xs.length = n ∧ t xs σ H Q
theorem pg_seq {X : Cx} {pos : Pos} {es : List Expr} {k : Nat} {t : TGs} {n : Nat} (hc : X.calm = true) (h : PGs X es t) (h1 : (assignEach es X.env).length = n := by rfl) (h2 : List.findIdx? (fun x => x.fst) (assignEach es X.env) = none := by rfl) : PG X (Expr.Tuple es k pos) (gSeq X.K n t) :=
  ⟨fun pins s σ H v u Q I rv q => (PG.or (pg_tup hc h h1 h2) (pg_unl hc h h1 h2)).run pins s σ H v u Q I rv (by
    obtain ⟨a, xs, e, sq, l, q⟩ := q
    exact sq.elim (fun z => .inr ⟨a, xs, e, z, l, q⟩) fun z => .inl ⟨a, xs, e, z, l, q⟩)⟩
/-! ### facts -/
def wordsS : List Str := ["below", "not", "line"]
/-- what may stand in a fact: flat, or a list, a tuple, a dict -/
def Itm (K : PySem.W.Frag) (H : Hp) (x : V) : Prop := flatV x = true ∨ NoText K H x
theorem NoText.ext {K : PySem.W.Frag} {H H' : Hp} {x : V} (h : NoText K H x) (e : Ext H H') : NoText K H' x := by
  rcases h with ⟨a, xs, rfl, h | h⟩ | ⟨a, kvs, rfl, h⟩
  · exact .inl ⟨a, xs, rfl, .inl (h.ext e)⟩
  · exact .inl ⟨a, xs, rfl, .inr (h.ext e)⟩
  · exact .inr ⟨a, kvs, rfl, e _ _ h⟩
theorem Itm.ext {K : PySem.W.Frag} {H H' : Hp} {x : V} (h : Itm K H x) (e : Ext H H') : Itm K H' x := h.elim .inl fun z => .inr (NoText.ext z e)
theorem noText_inV {K : PySem.W.Frag} {H : Hp} {x : V} (h : NoText K H x) (zs : List Str) : inV x (zs.map V.str) = false := by
  refine inV_no (fun z => ?_) zs
  rcases h with ⟨a, xs, rfl, _⟩ | ⟨a, kvs, rfl, _⟩ <;> rfl
theorem eqV_strE {z : Str} {y : V} (h : eqV (.str z) y = true) : y = .str z := by
  cases y with
  | str w =>
    have e : z = w := eq_of_beq h
    rw [e]
  | _ => exact absurd (show false = true from h) Bool.false_ne_true
theorem inV_mem {y : V} {zs : List Str} (h : inV y (zs.map V.str) = true) : ∃ z, z ∈ zs ∧ y = .str z := by
  unfold inV at h
  rw [List.any_eq_true] at h
  obtain ⟨x, hx, e⟩ := h
  obtain ⟨z, hz, rfl⟩ := List.mem_map.mp hx
  exact ⟨z, hz, eqV_strE e⟩
theorem flat_strs (zs : List Str) : (zs.map V.str).all flatV = true := by
  rw [List.all_map]
  exact List.all_eq_true.mpr fun _ _ => rfl
/-- x in, not in a tuple of texts -/
def rInW (K : PySem.W.Frag) (neg : Bool) : R2 := fun x y H Q => ∃ (p : Addr) (zs : List Str), y = .ref p ∧ SqT K H p (zs.map V.str) ∧ Itm K H x ∧ Q (.bl (neg ^^ inV x (zs.map V.str))) H
theorem op_notInW {X : Cx} (hu : X.A.units + 1 < cLine) : OpR X (compareOp .NotIn) (rInW X.K true) := by
  intro pins s σ H x y v u Q I rx ry h
  obtain ⟨p, zs, rfl, sq, it, q⟩ := h
  rw [show (true ^^ inV x (zs.map V.str)) = !inV x (zs.map V.str) by cases inV x (zs.map V.str) <;> rfl] at q
  refine (OpR.or op_notIn_seq (OpR.notIn (op_inN hu))) pins s σ H x _ v u Q I rx ry ?_
  rcases it with fl | nt
  · exact .inl ⟨p, _, rfl, .inr sq, fl, flat_strs _, q⟩
  · rw [noText_inV nt] at q
    exact .inr ⟨p, zs, rfl, sq, nt, false, rfl, q⟩
theorem op_inW {X : Cx} (hu : X.A.units + 1 < cLine) : OpR X (compareOp .In) (rInW X.K false) := by
  intro pins s σ H x y v u Q I rx ry h
  obtain ⟨p, zs, rfl, sq, it, q⟩ := h
  rw [show (false ^^ inV x (zs.map V.str)) = inV x (zs.map V.str) by cases inV x (zs.map V.str) <;> rfl] at q
  refine (OpR.or op_in_seq (op_inN hu)) pins s σ H x _ v u Q I rx ry ?_
  rcases it with fl | nt
  · exact .inl ⟨p, _, rfl, .inr sq, fl, flat_strs _, q⟩
  · rw [noText_inV nt] at q
    exact .inr ⟨p, zs, rfl, sq, nt, q⟩
/-- x in, not in a house -/
def rInH (K : PySem.W.Frag) (C : Addr) (neg : Bool) : R2 := fun x y H Q => ∃ h fo th, y = .ref h ∧ Hou H K C h fo th ∧ Itm K H x ∧ Q (.bl (neg ^^ inV x ((fo ++ th).map V.str))) H
theorem op_inH {X : Cx} {C CB : Addr} (Z : HouseTxt X.prog X.w X.K X.mg C CB) (hr : Room 3 X.A) : OpR X (compareOp .In) (rInH X.K C false) := by
  intro pins s σ H x y v u Q I rx ry h
  obtain ⟨a, fo, th, rfl, ho, it, q⟩ := h
  rw [show (false ^^ inV x ((fo ++ th).map V.str)) = inV x ((fo ++ th).map V.str) by cases inV x ((fo ++ th).map V.str) <;> rfl] at q
  obtain ⟨dx, fs, hi⟩ := ho.ins
  refine (op_inO (EI := E0) hr Z.mS (Z.S _) Z.bS pass0) pins s σ H x _ v u Q I rx ry ⟨a, dx, fs, rfl, hi, a, fo, th, x, rfl, ho, ?_⟩
  rcases it with fl | nt
  · exact .inl ⟨fl, _, rfl, q⟩
  · rw [noText_inV nt] at q
    exact .inr (.inl ⟨nt, _, rfl, q⟩)
theorem op_notInH {X : Cx} {C CB : Addr} (Z : HouseTxt X.prog X.w X.K X.mg C CB) (hr : Room 3 X.A) : OpR X (compareOp .NotIn) (rInH X.K C true) := by
  intro pins s σ H x y v u Q I rx ry h
  obtain ⟨a, fo, th, rfl, ho, it, q⟩ := h
  refine (OpR.notIn (op_inH Z hr)) pins s σ H x _ v u Q I rx ry ⟨a, fo, th, rfl, ho, it, _, rfl, ?_⟩
  rw [Bool.false_xor]
  rw [Bool.true_xor] at q
  exact q
def factB (fo th : List Str) (w o p : V) : Bool := inV w (wordsS.map V.str) && (inV o ((fo ++ th).map V.str) && (inV p ((fo ++ th).map V.str) && (!decide (o = p) && (decide (w = .str "line") || inV p (fo.map V.str)))))
/-- whether x is a fact -/
def FactOf (K : PySem.W.Frag) (H : Hp) (fo th : List Str) (x : V) (b : Bool) : Prop := (b = false ∧ ∃ t, TyX K H x t ∧ PySem.W.kitAny K t [.type "list", .type "tuple"] = some false) ∨
  (b = false ∧ ∃ a xs, x = .ref a ∧ SeqAt2 K H a xs ∧ xs.length ≠ 3) ∨ ∃ a w o p, x = .ref a ∧ SeqAt2 K H a [w, o, p] ∧ Itm K H w ∧ Itm K H o ∧ Itm K H p ∧ b = factB fo th w o p
theorem FactOf.ext {K : PySem.W.Frag} {H H' : Hp} {fo th : List Str} {x : V} {b : Bool} (h : FactOf K H fo th x b) (e : Ext H H') : FactOf K H' fo th x b := by
  rcases h with ⟨h0, t, h1, h2⟩ | ⟨h0, a, xs, h1, h2, h3⟩ | ⟨a, w, o, p, h1, h2, h3, h4, h5, h6⟩
  · exact .inl ⟨h0, t, h1.ext e, h2⟩
  · exact .inr (.inl ⟨h0, a, xs, h1, h2.ext e, h3⟩)
  · exact .inr (.inr ⟨a, w, o, p, h1, h2.ext e, h3.ext e, h4.ext e, h5.ext e, h6⟩)
theorem seq_kit {K : PySem.W.Frag} {H : Hp} {a : Addr} {xs : List V} (h : SeqAt2 K H a xs) : ∃ t, TyX K H (.ref a) t ∧ PySem.W.kitAny K t [.type "list", .type "tuple"] = some true := by
  rcases h with h | h
  · exact ⟨_, tyx_sqL h, by rfl⟩
  · exact ⟨_, tyx_sqT h, by rfl⟩
def spIsFact (K : PySem.W.Frag) (C : Addr) : Sp := fun vs H Q _ => ∃ h x fo th b, vs = [.ref h, x] ∧ Hou H K C h fo th ∧ FactOf K H fo th x b ∧ ∀ H', Ext H H' → Q (.bl b) H'
abbrev nm_is_fact : List Str := ["house", "thing", "word", "one", "other"]
theorem sc_is_fact : FnScope nm_is_fact ["house", "thing"] (defScope s_is_fact) := ⟨rfl, rfl, rfl, by decide +kernel, rfl, by decide +kernel, by decide +kernel⟩
section
variable {P : Program} {w : World} {K : PySem.W.Frag} {mg : Str → Option Value} {base : Heap} {f C CB : Addr} {fd : FuncData}
theorem ok_isFact (Fn : FnP K "is_fact" s_is_fact f fd) (Z : HouseTxt P w K mg C CB) (his_list : Has P w K mg base 1 "is_list" ["thing"] (spIsList K)) (gB_len : mg "len" = none) {aW : Addr} (gW : mg "WORDS" = some (.ref aW)) (tW : ∀ H, SqT K H aW (wordsS.map V.str)) :
    FnOk P w K mg base CX0 5 f fd ["house", "thing"] (spIsFact K C) := by
  refine Fn.ok sc_is_fact (fun vs H Q E h => ?_) (fun cdv A outer s H vs Q E hr h => ⟨_, PSs.nox
    (pss_cons (ps_if (PW.pt (pw_or (pt_not (pt_val (pe_has his_list (hr.mono (by decide)) (pa_cons (pv 1) pa_nil)))) (pw_or1 (pt_cmpR op_ne (pe_callB call_len (by rfl) gB_len boot_len (pa_cons (pv 1) pa_nil)) pe_int (nomark _))))) (pss_one (ps_ret pe_bl)) pss_nil)
      (pss_cons (ps_asg (pv 1) (pg_seq rfl (pgs_cons (pg_name (i := 2) sc_is_fact.nd rfl (Or.inl rfl)) (pgs_cons (pg_name (i := 3) sc_is_fact.nd rfl (Or.inl rfl)) (pgs_cons (pg_name (i := 4) sc_is_fact.nd rfl (Or.inl rfl)) pgs_nil)))))
      (pss_cons (ps_if (PW.pt (pw_or (pt_cmpR (op_notInW (hu_of hr)) (pv 2) (pe_glob (v := .ref aW) (by rfl) gW rfl) (by rfl)) (pw_or (pt_cmpR (op_notInH Z (hr.mono (by decide))) (pv 3) (pv 0) (by rfl)) (pw_or1 (pt_cmpR (op_notInH Z (hr.mono (by decide))) (pv 4) (pv 0) (by rfl)))))) (pss_one (ps_ret pe_bl)) pss_nil)
      (pss_one (ps_ret (pe_and (pe_cmpR op_ne (pv 3) (pv 4) (nomark _)) (pe_one (pe_or (pe_cmpR op_eq (pv 2) pe_str (nomark _)) (pe_one (pe_cmpR op_in_seq (pv 4) (pe_fld (pv 0) rfl) (by rfl))))))))))), ?_⟩)
  · obtain ⟨h, x, fo, th, b, rfl, _⟩ := h
    rfl
  · obtain ⟨ho, x, fo, th, b, rfl, hou, hx, q⟩ := h
    have hx0 := hx
    rcases hx with ⟨rfl, t, ty, kt⟩ | ⟨rfl, a, xs, rfl, sq, nl⟩ | ⟨a, v1, v2, v3, rfl, sq, i1, i2, i3, rfl⟩
    · refine ⟨_, rfl, x, t, false, rfl, ty, kt, fun H1 x1 => ?_⟩
      exact ⟨false, rfl, q H1 x1⟩
    · obtain ⟨t, ty, kt⟩ := seq_kit sq
      refine ⟨_, rfl, _, t, true, rfl, ty, kt, fun H1 x1 => ?_⟩
      have sq1 := sq.ext x1
      refine ⟨true, rfl, _, rfl, _, xs.length, rfl, ?_, ?_⟩
      · exact sq1.elim (fun z => .inl ⟨_, z, rfl⟩) fun z => .inr ⟨_, z, rfl⟩
      refine ⟨rfl, _, rfl, ?_⟩
      refine ite2 (fun _ => q H1 x1) fun hn => absurd ?_ hn
      have : ¬ (V.int (xs.length : Nat) = V.int 3) := fun e => nl (by injection e with e; omega)
      rw [decide_eq_false this]
      rfl
    · obtain ⟨t, ty, kt⟩ := seq_kit sq
      refine ⟨_, rfl, _, t, true, rfl, ty, kt, fun H1 x1 => ?_⟩
      have sq1 := sq.ext x1
      refine ⟨true, rfl, _, rfl, _, 3, rfl, ?_, ?_⟩
      · exact sq1.elim (fun z => .inl ⟨_, z, rfl⟩) fun z => .inr ⟨_, z, rfl⟩
      refine ⟨rfl, _, rfl, ?_⟩
      refine iteNS rfl ?_
      have j1 := i1.ext x1
      have j2 := i2.ext x1
      have j3 := i3.ext x1
      have hou1 := hou.ext x1
      refine ⟨_, rfl, a, _, rfl, sq1, rfl, ?_⟩
      have qF : ∀ H2, Ext H1 H2 → factB fo th v1 v2 v3 = false → Q (.bl false) H2 := fun H2 x2 e => by
        have z := q H2 (x1.trans x2)
        rw [e] at z
        exact z
      refine ⟨_, _, rfl, _, _, rfl, _, _, rfl, rfl, ?_⟩
      -- the word
      refine ⟨_, rfl, aW, wordsS, rfl, tW H1, j1, _, rfl, ?_⟩
      refine ite2 (fun e => qF H1 Ext.rfl' ?_) fun e => ?_
      · have e' : inV v1 (wordsS.map V.str) = false := by simpa using e
        unfold factB
        rw [e', Bool.false_and]
      have e1 : inV v1 (wordsS.map V.str) = true := by simpa using e
      refine ⟨_, rfl, _, rfl, ho, fo, th, rfl, hou1, j2, _, rfl, ?_⟩
      refine ite2 (fun e => qF H1 Ext.rfl' ?_) fun e => ?_
      · have e' : inV v2 ((fo ++ th).map V.str) = false := by simpa using e
        unfold factB
        rw [e1, e', Bool.false_and]
        rfl
      have e2 : inV v2 ((fo ++ th).map V.str) = true := by simpa using e
      refine ⟨_, rfl, _, rfl, ho, fo, th, rfl, hou1, j3, _, rfl, ?_⟩
      refine ite2 (fun e => qF H1 Ext.rfl' ?_) fun e => ?_
      · have e' : inV v3 ((fo ++ th).map V.str) = false := by simpa using e
        unfold factB
        rw [e1, e2, e', Bool.false_and]
        rfl
      have e3 : inV v3 ((fo ++ th).map V.str) = true := by simpa using e
      obtain ⟨z1, _, rfl⟩ := inV_mem e1
      obtain ⟨z2, _, rfl⟩ := inV_mem e2
      obtain ⟨z3, _, rfl⟩ := inV_mem e3
      have ef : factB fo th (.str z1) (.str z2) (.str z3) = (!decide (V.str z2 = V.str z3) && (decide (V.str z1 = .str "line") || inV (.str z3) (fo.map V.str))) := by
        unfold factB
        rw [e1, e2, e3, Bool.true_and, Bool.true_and, Bool.true_and]
      rw [ef] at q
      refine ⟨_, rfl, _, rfl, rfl, _, rfl, ?_⟩
      refine ite2 (fun e => ?_) fun e => ?_
      · refine ⟨_, rfl, rfl, _, rfl, ?_⟩
        rw [e, Bool.true_and] at q
        refine ite2 (fun e' => ?_) fun e' => ?_
        · rw [e', Bool.true_or] at q
          exact q H1 x1
        · have e'' : decide (V.str z1 = .str "line") = false := by simpa using e'
          rw [e'', Bool.false_or] at q
          obtain ⟨⟨dx, fs, f, t, n, h1, h2, h3, h4, h5, h6, h7⟩, ok1, ok2⟩ := hou1
          exact ⟨_, rfl, _, rfl, ho, C, dx, fs, _, rfl, h1, Z.T.cl, Z.T.nf, h2, f, _, rfl, .inr h5, rfl, flat_strs _, q H1 x1⟩
      · have e'' : (!decide (V.str z2 = V.str z3)) = false := by simpa using e
        rw [e'', Bool.false_and] at q
        exact q H1 x1
end
end My

namespace My
open PySem PySem.Spec PyProof.Rows L2
/-! ### a fact as it is told -/
/-- the nodes of a line in the order of the house -/
def ordS (ns : List Str) (a b : Str) : List Str := ns.filter fun n => decide (n = a) || decide (n = b)
theorem ord_two : ∀ {ns : List Str} {a b : Str}, ns.Nodup → a ∈ ns → b ∈ ns → a ≠ b → ∃ c d, ordS ns a b = [c, d] ∧ ((c = a ∧ d = b) ∨ (c = b ∧ d = a))
  | [], a, b, _, ha, _, _ => by cases ha
  | n :: ns, a, b, nd, ha, hb, ne => by
    obtain ⟨nn, nd'⟩ := List.nodup_cons.mp nd
    have one : ∀ (x : Str), x ∈ ns → ∀ y, y ∉ ns → ordS ns x y = [x] ∧ ordS ns y x = [x] := by
      intro x hx y hy
      clear ha hb ne nn nd
      induction ns with
      | nil => cases hx
      | cons m ms ih =>
        obtain ⟨nm, ndm⟩ := List.nodup_cons.mp nd'
        have hym : m ≠ y := fun e => hy (by rw [e]; exact List.mem_cons_self)
        have hy' : y ∉ ms := fun e => hy (List.mem_cons_of_mem _ e)
        have none_ : ∀ u v : Str, u ∉ ms → v ∉ ms → ordS ms u v = [] := fun u v hu hv => by
          unfold ordS
          rw [List.filter_eq_nil_iff]
          intro k hk
          have h1 : k ≠ u := fun e => hu (e ▸ hk)
          have h2 : k ≠ v := fun e => hv (e ▸ hk)
          simp [h1, h2]
        rcases List.mem_cons.mp hx with rfl | hx'
        · have z1 := none_ x y nm hy'
          have z2 := none_ y x hy' nm
          unfold ordS at z1 z2 ⊢
          rw [List.filter_cons, List.filter_cons, z1, z2]
          simp
        · have hmx : m ≠ x := fun e => nm (e ▸ hx')
          obtain ⟨i1, i2⟩ := ih ndm hx' hy'
          unfold ordS at i1 i2 ⊢
          rw [List.filter_cons, List.filter_cons, i1, i2]
          simp [hmx, hym]
    rcases List.mem_cons.mp ha with rfl | ha'
    · have hb' : b ∈ ns := (List.mem_cons.mp hb).resolve_left fun e => ne e.symm
      have z := (one b hb' a nn).2
      refine ⟨a, b, ?_, .inl ⟨rfl, rfl⟩⟩
      unfold ordS at z ⊢
      rw [List.filter_cons, z]
      simp
    · rcases List.mem_cons.mp hb with rfl | hb'
      · have z := (one a ha' b nn).1
        refine ⟨b, a, ?_, .inr ⟨rfl, rfl⟩⟩
        unfold ordS at z ⊢
        rw [List.filter_cons, z]
        simp
      · have h1 : n ≠ a := fun e => nn (e ▸ ha')
        have h2 : n ≠ b := fun e => nn (e ▸ hb')
        obtain ⟨c, d, e, h⟩ := ord_two nd' ha' hb' ne
        refine ⟨c, d, ?_, h⟩
        unfold ordS at e ⊢
        rw [List.filter_cons, e]
        simp [h1, h2]
/-- a fact of strings -/
def IsF (fo th : List Str) (w a b : Str) : Prop := w ∈ wordsS ∧ a ∈ fo ++ th ∧ b ∈ fo ++ th ∧ a ≠ b ∧ (w = "line" ∨ b ∈ fo)
theorem fact_is {fo th : List Str} {w o p : V} (h : factB fo th w o p = true) : ∃ z a b, w = .str z ∧ o = .str a ∧ p = .str b ∧ IsF fo th z a b := by
  unfold factB at h
  obtain ⟨h1, h⟩ := Bool.and_eq_true_iff.mp h
  obtain ⟨h2, h⟩ := Bool.and_eq_true_iff.mp h
  obtain ⟨h3, h⟩ := Bool.and_eq_true_iff.mp h
  obtain ⟨h4, h5⟩ := Bool.and_eq_true_iff.mp h
  obtain ⟨z, hz, rfl⟩ := inV_mem h1
  obtain ⟨a, ha, rfl⟩ := inV_mem h2
  obtain ⟨b, hb, rfl⟩ := inV_mem h3
  refine ⟨z, a, b, rfl, rfl, rfl, hz, ha, hb, fun e => ?_, ?_⟩
  · subst e
    simp at h4
  · rcases Bool.or_eq_true_iff.mp h5 with h | h
    · have := of_decide_eq_true h
      injection this with e
      exact .inl e
    · obtain ⟨c, hc, e⟩ := inV_mem h
      injection e with e
      exact .inr (e ▸ hc)
theorem is_fact {fo th : List Str} {z a b : Str} (h : IsF fo th z a b) : factB fo th (.str z) (.str a) (.str b) = true := by
  obtain ⟨h1, h2, h3, h4, h5⟩ := h
  unfold factB
  rw [inV_str, inV_str, inV_str, inV_str, decide_eq_true h1, decide_eq_true h2, decide_eq_true h3]
  have : decide (V.str a = V.str b) = false := decide_eq_false fun e => h4 (by injection e)
  rw [this]
  rcases h5 with rfl | h5
  · simp
  · rw [decide_eq_true h5]
    simp
/-- the fact as told -/
def toldS (ns : List Str) (w a b : Str) : List Str := if w = "line" then "line" :: ordS ns a b else [w, a, b]
theorem told_three {fo th : List Str} {w a b : Str} (nd : (fo ++ th).Nodup) (h : IsF fo th w a b) : ∃ c d, toldS (fo ++ th) w a b = [w, c, d] ∧ ((c = a ∧ d = b) ∨ (w = "line" ∧ c = b ∧ d = a)) := by
  unfold toldS
  by_cases e : w = "line"
  · rw [if_pos e]
    obtain ⟨c, d, h1, h2⟩ := ord_two nd h.2.1 h.2.2.1 h.2.2.2.1
    refine ⟨c, d, by rw [h1, e], h2.imp id fun z => ⟨e, z⟩⟩
  · rw [if_neg e]
    exact ⟨a, b, rfl, .inl ⟨rfl, rfl⟩⟩
def spAsTold (K : PySem.W.Frag) (C : Addr) : Sp := fun vs H Q _ => ∃ h x fo th w a b, vs = [.ref h, .ref x] ∧ Hou H K C h fo th ∧ (fo ++ th).Nodup ∧ (fo ++ th).length < sizeLine ∧ IsF fo th w a b ∧ SeqAt2 K H x [.str w, .str a, .str b] ∧
  ∀ t H', Ext H H' → H' t = some (.tup ((toldS (fo ++ th) w a b).map V.str)) → Q (.ref t) H'
abbrev nm_as_told : List Str := ["house", "fact", "word", "one", "other", "first", "second", "node"]
theorem sc_as_told : FnScope nm_as_told ["house", "fact"] (defScope s_as_told) := ⟨rfl, rfl, rfl, by decide +kernel, rfl, by decide +kernel, by decide +kernel⟩
section
variable {P : Program} {w : World} {K : PySem.W.Frag} {mg : Str → Option Value} {base : Heap} {f C CB : Addr} {fd : FuncData}
theorem ok_asTold (Fn : FnP K "as_told" s_as_told f fd) (Z : HouseTxt P w K mg C CB) : FnOk P w K mg base CX0 1 f fd ["house", "fact"] (spAsTold K C) := by
  refine Fn.ok sc_as_told (fun vs H Q E h => ?_) (fun cdv A outer s H vs Q E hr h => ⟨_, PSs.nox
    (pss_cons (ps_asg (pv 1) (pg_seq rfl (pgs_cons (pg_name (i := 2) sc_as_told.nd rfl (Or.inl rfl)) (pgs_cons (pg_name (i := 3) sc_as_told.nd rfl (Or.inr rfl)) (pgs_cons (pg_name (i := 4) sc_as_told.nd rfl (Or.inr rfl)) pgs_nil)))))
      (pss_cons (ps_if (pt_cmpR op_ne (pv 2) pe_str (nomark _)) (pss_one (ps_ret (pe_tup (pa_cons (pv 2) (pa_cons (pv 3) (pa_cons (pv 4) pa_nil)))))) pss_nil)
      (pss_cons (ps_asg (pe_lc (own := [("node", 7)]) (g := (gName 7)) rfl sc_as_told.nd (pi_tup (pe_fld (pv 0) rfl)) (blkOk_by (N := nm_as_told) (sc := defScope s_as_told) (by decide +kernel)) (fun _ _ _ _ _ => (pg_name (i := 7) sc_as_told.nd rfl (Or.inl rfl))) (fun _ _ _ _ _ => pts_one (pt_cmpR (opK (r := fun K => rIn K false) (K := K) rfl op_in_seq) (pv 7) (pe_tup (pa_cons (pv 3) (pa_cons (pv 4) pa_nil))) (by rfl))) (fun _ _ _ _ _ => (pv 7))) (pg_unl rfl (pgs_cons (pg_name (i := 5) sc_as_told.nd rfl (Or.inl rfl)) (pgs_cons (pg_name (i := 6) sc_as_told.nd rfl (Or.inl rfl)) pgs_nil))))
      (pss_one (ps_ret (pe_tup (pa_cons (pv 2) (pa_cons (pv 5) (pa_cons (pv 6) pa_nil))))))))), ?_⟩)
  · obtain ⟨h, x, fo, th, w, a, b, rfl, _⟩ := h
    rfl
  · obtain ⟨ho, x, fo, th, wo, a, b, rfl, hou, nd, hz, hf, sq, q⟩ := h
    refine ⟨_, rfl, x, _, rfl, sq, rfl, ?_⟩
    refine ⟨_, _, rfl, _, _, rfl, _, _, rfl, rfl, ?_⟩
    refine ⟨_, rfl, rfl, _, rfl, ?_⟩
    unfold toldS at q
    refine ite2 (fun e => ?_) fun e => ?_
    · have e' : wo ≠ "line" := fun z => by
        subst z
        exact absurd e (by decide)
      rw [if_neg e'] at q
      refine ⟨_, rfl, _, rfl, _, rfl, Nat.le_of_ble_eq_true rfl, fun t ht => q t _ (Ext.upd ht) upd_same⟩
    · have e' : wo = "line" := by
        have z : V.str wo = V.str "line" := by simpa using e
        injection z
      rw [if_pos e'] at q
      subst e'
      obtain ⟨⟨dx, fs, f, t, n, h1, h2, h3, h4, h5, h6, h7⟩, ok1, ok2⟩ := hou
      refine ⟨_, rfl, ho, C, dx, fs, _, rfl, h1, Z.T.cl, Z.T.nn, h4, n, rfl, ⟨_, h7⟩, fun D hD => ?_⟩
      have enodes : fo.map V.str ++ th.map V.str = (fo ++ th).map V.str := (List.map_append ..).symm
      refine lc_tup (K := K) (a := n) (xs := (fo ++ th).map V.str) (fun i H' => Ext H H' ∧ H' D = some (.lst ((ordS ((fo ++ th).take i) a b).map V.str))) ⟨Ext.upd hD, upd_same⟩ (fun i H' _ p => by rw [← enodes]; exact h7.ext p.1) ?_ ?_
      · intro i v H1 hv ⟨x1, l1⟩
        obtain ⟨z, hz', rfl⟩ : ∃ z, (fo ++ th)[i]? = some z ∧ V.str z = v := by
          rw [List.getElem?_map] at hv
          cases hh : (fo ++ th)[i]? with
          | none => rw [hh] at hv; cases hv
          | some z => rw [hh] at hv; injection hv with hv; exact ⟨z, rfl, hv⟩
        have il : i < (fo ++ th).length := (List.getElem?_eq_some_iff.mp hz').1
        have tk : (fo ++ th).take (i + 1) = (fo ++ th).take i ++ [z] := by
          rw [List.take_add_one, hz']
          rfl
        refine ⟨rfl, _, rfl, _, rfl, _, rfl, Nat.le_of_ble_eq_true rfl, fun T hT => ⟨T, _, rfl, .inr (SqT.of upd_same), rfl, rfl, _, rfl, ?_⟩⟩
        have x2 : Ext H (upd H1 T (.tup [.str a, .str b])) := x1.upd' hT
        have l2 : (upd H1 T (.tup [.str a, .str b])) D = some (.lst ((ordS ((fo ++ th).take i) a b).map V.str)) := Ext.upd hT _ _ l1
        have ein : inV (.str z) [.str a, .str b] = (decide (z = a) || decide (z = b)) := by
          have := inV_str z [a, b]
          rw [show ([.str a, .str b] : List V) = [a, b].map V.str from rfl, this]
          simp
        refine ite2 (fun e => ?_) fun e => ?_
        · have e' : (decide (z = a) || decide (z = b)) = true := by rw [← ein]; exact e
          refine ⟨_, rfl, _, l2, ?_, ?_, ?_⟩
          · rw [List.length_map]
            refine Nat.lt_of_le_of_lt (List.length_filter_le _ _) ?_
            rw [List.length_take]
            omega
          · exact x2.over hD
          · rw [upd_same, tk]
            unfold ordS
            rw [List.filter_append, List.map_append, List.filter_cons, if_pos e']
            rfl
        · have e' : ¬ (decide (z = a) || decide (z = b)) = true := by rw [← ein]; exact e
          refine ⟨x2, ?_⟩
          rw [l2, tk]
          unfold ordS
          rw [List.filter_append, List.filter_cons, if_neg e', List.filter_nil, List.append_nil]
      · intro H1 ⟨x1, l1⟩
        rw [List.length_map, List.take_length] at l1
        obtain ⟨c, d, ecd, _⟩ := ord_two nd hf.2.1 hf.2.2.1 hf.2.2.2.1
        rw [ecd] at l1 q
        refine ⟨D, _, rfl, SqL.of l1, rfl, _, _, rfl, _, _, rfl, rfl, ?_⟩
        exact ⟨_, rfl, _, rfl, _, rfl, Nat.le_of_ble_eq_true rfl, fun t ht => q t _ (x1.upd' ht) upd_same⟩
end
end My

namespace My
open PySem PySem.Spec PyProof.Rows L2
/-! ### what is against a fact -/
/-- rows of texts, each a tuple -/
def Rows (K : PySem.W.Frag) (H : Hp) : List V → List (List Str) → Prop
  | [], [] => True
  | x :: xs, r :: rs => (∃ t, x = .ref t ∧ SqT K H t (r.map V.str)) ∧ Rows K H xs rs
  | _, _ => False
theorem Rows.ext {K : PySem.W.Frag} {H H' : Hp} (e : Ext H H') : ∀ {xs : List V} {rs : List (List Str)}, Rows K H xs rs → Rows K H' xs rs
  | [], [], _ => True.intro
  | _ :: _, _ :: _, ⟨⟨t, e1, h⟩, hr⟩ => ⟨⟨t, e1, h.ext e⟩, Rows.ext e hr⟩
  | [], _ :: _, h => h.elim
  | _ :: _, [], h => h.elim
theorem Rows.len {K : PySem.W.Frag} {H : Hp} : ∀ {xs : List V} {rs : List (List Str)}, Rows K H xs rs → xs.length = rs.length
  | [], [], _ => rfl
  | _ :: _, _ :: _, ⟨_, hr⟩ => congrArg (· + 1) (Rows.len hr)
  | [], _ :: _, h => h.elim
  | _ :: _, [], h => h.elim
theorem Rows.app {K : PySem.W.Frag} {H : Hp} : ∀ {xs ys : List V} {rs ss : List (List Str)}, Rows K H xs rs → Rows K H ys ss → Rows K H (xs ++ ys) (rs ++ ss)
  | [], _, [], _, _, h => h
  | _ :: _, _, _ :: _, _, ⟨h1, h2⟩, h => ⟨h1, Rows.app h2 h⟩
  | [], _, _ :: _, _, h, _ => h.elim
  | _ :: _, _, [], _, h, _ => h.elim
theorem Rows.at_ {K : PySem.W.Frag} {H : Hp} : ∀ {xs : List V} {rs : List (List Str)} {i : Nat} {x : V}, Rows K H xs rs → xs[i]? = some x → ∃ t r, x = .ref t ∧ SqT K H t (r.map V.str) ∧ rs[i]? = some r
  | _ :: _, r :: _, 0, _, ⟨⟨t, e1, h⟩, _⟩, e => by
    injection e with e
    subst e
    exact ⟨t, r, e1, h, rfl⟩
  | _ :: xs, _ :: rs, i + 1, x, ⟨_, h⟩, e => Rows.at_ (xs := xs) (rs := rs) h e
  | [], [], _, _, _, e => by cases e
  | [], _ :: _, _, _, h, _ => h.elim
  | _ :: _, [], _, _, h, _ => h.elim
/-- a list of rows -/
def RowsAt (K : PySem.W.Frag) (H : Hp) (l : Addr) (rs : List (List Str)) : Prop := ∃ xs, H l = some (.lst xs) ∧ Rows K H xs rs
theorem RowsAt.ext {K : PySem.W.Frag} {H H' : Hp} {l : Addr} {rs : List (List Str)} (h : RowsAt K H l rs) (e : Ext H H') : RowsAt K H' l rs := by
  obtain ⟨xs, h1, h2⟩ := h
  exact ⟨xs, e _ _ h1, h2.ext e⟩
theorem Rows.upd {K : PySem.W.Frag} {H : Hp} {l : Addr} {ys zs : List V} (hl : H l = some (.lst ys)) : ∀ {xs : List V} {rs : List (List Str)}, Rows K H xs rs → Rows K (L2.upd H l (.lst zs)) xs rs
  | [], [], _ => True.intro
  | _ :: _, _ :: _, ⟨⟨t, e1, h⟩, hr⟩ => ⟨⟨t, e1, sqT_upd h hl⟩, Rows.upd hl hr⟩
  | [], _ :: _, h => h.elim
  | _ :: _, [], h => h.elim
def agS (fo : List Str) (w c d : Str) : List (List Str) := if w = "below" then [["not", c, d]] else if w = "not" then [["below", c, d]] else (([(c, d), (d, c)] : List (Str × Str)).filter fun p => decide (p.2 ∈ fo)).map fun p => ["not", p.1, p.2]
/-- the same of a fact as it stands -/
def agF (fo th : List Str) (w a b : Str) : List (List Str) := match toldS (fo ++ th) w a b with
  | [w, c, d] => agS fo w c d
  | _ => []
end My

namespace My
open PySem PySem.Spec PyProof.Rows L2
/-- list(a) of a list or a tuple -/
def rLstS (K : PySem.W.Frag) : List V → Hp → VK → Prop := fun xs H Q => ∃ a zs, xs = [.ref a] ∧ SeqAt2 K H a zs ∧ ∀ l, H l = none → Q (.ref l) (L2.upd H l (.lst zs))
theorem call_lstS {X : Cx} : CallR X (.type "list") (rLstS X.K) := by
  intro pins s σ H xs us Q I rv h
  obtain ⟨a, zs, rfl, sq, q⟩ := h
  exact call_list_of pins s σ H _ us Q I rv ⟨a, zs, rfl, sq, q⟩
/-! ### dicts with text keys -/
abbrev Dic : Type := List (Str × V)
def kd (d : Dic) : List (Key × V) := d.map fun p => (Sum.inr p.1, p.2)
def getD (d : Dic) (z : Str) : Option V := (d.find? fun p => decide (p.1 = z)).map (·.2)
theorem val_kd (z : Str) : ∀ d : Dic, valV (kd d) (Sum.inr z) = getD d z
  | [] => rfl
  | (y, v) :: d => by
    have ih := val_kd z d
    unfold valV getD kd at *
    rw [List.map_cons, List.find?_cons, List.find?_cons]
    by_cases e : y = z
    · subst e
      simp
    · have e2 : ¬ ((Sum.inr y : Key) = Sum.inr z) := fun h => e (by injection h)
      simp only [e, e2, decide_false]
      exact ih
def setD (d : Dic) (z : Str) (v : V) : Dic := if (d.any fun p => decide (p.1 = z)) = true then d.map fun p => if p.1 = z then (p.1, v) else p else d ++ [(z, v)]
theorem any_kd (z : Str) (d : Dic) : ((kd d).any fun kv => decide (kv.1 = Sum.inr z)) = d.any fun p => decide (p.1 = z) := by
  unfold kd
  rw [List.any_map]
  congr 1
  funext p
  show decide ((Sum.inr p.1 : Key) = Sum.inr z) = decide (p.1 = z)
  by_cases e : p.1 = z
  · rw [decide_eq_true e, decide_eq_true (by rw [e])]
  · rw [decide_eq_false e, decide_eq_false fun h => e (by injection h)]
theorem put_kd (d : Dic) (z : Str) (v : V) : putK (kd d) (Sum.inr z) v = kd (setD d z v) := by
  unfold putK setD
  rw [any_kd]
  by_cases h : (d.any fun p => decide (p.1 = z)) = true
  · rw [if_pos h, if_pos h]
    unfold kd
    rw [List.map_map, List.map_map]
    refine List.map_congr_left fun p _ => ?_
    show (if (Sum.inr p.1 : Key) = Sum.inr z then ((Sum.inr p.1 : Key), v) else (Sum.inr p.1, p.2)) = _
    by_cases e : p.1 = z
    · rw [if_pos (by rw [e])]
      simp [e]
    · rw [if_neg fun h => e (by injection h)]
      simp [e]
  · rw [if_neg h, if_neg h]
    unfold kd
    rw [List.map_append]
    rfl
theorem setD_len (d : Dic) (z : Str) (v : V) : (setD d z v).length ≤ d.length + 1 := by
  unfold setD
  split
  · rw [List.length_map]
    exact Nat.le_succ _
  · rw [List.length_append]
    exact Nat.le_refl _
theorem setD_mem {d : Dic} {z : Str} {v : V} {p : Str × V} (h : p ∈ setD d z v) : p ∈ d ∨ p.2 = v := by
  unfold setD at h
  split at h
  · obtain ⟨q, hq, e⟩ := List.mem_map.mp h
    by_cases c : q.1 = z
    · rw [if_pos c] at e
      exact .inr (by rw [← e])
    · rw [if_neg c] at e
      exact .inl (e ▸ hq)
  · rcases List.mem_append.mp h with h | h
    · exact .inl h
    · rw [List.mem_singleton.mp h]
      exact .inr rfl
theorem getD_mem {d : Dic} {z : Str} {v : V} (h : getD d z = some v) : ∃ p, p ∈ d ∧ p.2 = v := by
  unfold getD at h
  cases e : d.find? fun p => decide (p.1 = z) with
  | none => rw [e] at h; cases h
  | some p =>
    rw [e] at h
    injection h with h
    exact ⟨p, List.mem_of_find?_eq_some e, h⟩
/-- the worths: None or folders -/
def DicOk (fo : List Str) (d : Dic) : Prop := ∀ p, p ∈ d → p.2 = .non ∨ ∃ z, z ∈ fo ∧ p.2 = .str z
def Opt (fo : List Str) (v : V) : Prop := v = .non ∨ ∃ z, z ∈ fo ∧ v = .str z
theorem getD_opt {fo : List Str} {d : Dic} (h : DicOk fo d) (z : Str) : Opt fo ((getD d z).getD .non) := by
  cases e : getD d z with
  | none => exact .inl rfl
  | some v =>
    obtain ⟨p, hp, e2⟩ := getD_mem e
    rw [← e2]
    exact h p hp
def stepV (d : Dic) : V → V
  | .str z => (getD d z).getD .non
  | v => v
theorem step_opt {fo : List Str} {d : Dic} (h : DicOk fo d) {v : V} (hv : Opt fo v) : Opt fo (stepV d v) := by
  rcases hv with rfl | ⟨z, _, rfl⟩
  · exact .inl rfl
  · exact getD_opt h z
/-! ### rows as data -/
def rowsD (rs : List (List Str)) : PyData := .list (rs.map fun r => .tuple (r.map PyData.str))
def OkR (rs : List (List Str)) : Prop := ∀ r, r ∈ rs → OkS r
theorem rows_dp {K : PySem.W.Frag} {H : Hp} : ∀ {xs : List V} {rs : List (List Str)}, Rows K H xs rs → DpAll K H xs (rs.map fun r => PyData.tuple (r.map PyData.str))
  | [], [], _ => .nil
  | _ :: _, r :: _, ⟨⟨t, e, h⟩, hr⟩ => by
    subst e
    exact .cons (.tup h (dpAll_str r)) (rows_dp hr)
  | [], _ :: _, h => h.elim
  | _ :: _, [], h => h.elim
theorem rows_shaped {rs : List (List Str)} (h : OkR rs) : SeqAt.shaped (rowsD rs) = true := shaped_ds _ fun d hd => by
  obtain ⟨r, hr, rfl⟩ := List.mem_map.mp hd
  exact flat_tup r (h r hr)
theorem eqvAll_rows : ∀ rs ss : List (List Str), PyData.eqvAll (rs.map fun r => PyData.tuple (r.map PyData.str)) (ss.map fun r => PyData.tuple (r.map PyData.str)) = decide (rs = ss)
  | [], [] => rfl
  | [], _ :: _ => rfl
  | _ :: _, [] => rfl
  | r :: rs, s :: ss => by
    show (PyData.eqv (.tuple (r.map PyData.str)) (.tuple (s.map PyData.str)) && PyData.eqvAll (rs.map fun r => PyData.tuple (r.map PyData.str)) (ss.map fun r => PyData.tuple (r.map PyData.str))) = _
    rw [eqvAll_rows rs ss, eqv_strT]
    by_cases h : r = s
    · subst h
      simp
    · simp [h]
theorem eqv_rows (rs ss : List (List Str)) : PyData.eqv (rowsD rs) (rowsD ss) = decide (rs = ss) := eqvAll_rows rs ss
def Three (rs : List (List Str)) : Prop := ∀ r, r ∈ rs → ∃ w a b, r = [w, a, b]
theorem filter_all {α : Type} (p : α → Bool) : ∀ xs : List α, decide (xs.filter (fun x => !p x) = ([] : List α)) = xs.all p
  | [] => rfl
  | x :: xs => by
    have ih := filter_all p xs
    rw [List.filter_cons, List.all_cons]
    cases h : p x with
    | true => simpa using ih
    | false => simp
theorem kd_len (d : Dic) : (kd d).length = d.length := List.length_map _
theorem ext_none {H H' : Hp} {p : Addr} (e : Ext H H') (h : H' p = none) : H p = none := by
  cases hh : H p with
  | none => rfl
  | some u => exact absurd (e p u hh) (by rw [h]; exact fun z => nomatch z)
theorem strs_at {zs : List Str} {i : Nat} {v : V} (h : (zs.map V.str)[i]? = some v) : ∃ z, zs[i]? = some z ∧ v = .str z := by
  rw [List.getElem?_map] at h
  cases e : zs[i]? with
  | none => rw [e] at h; cases h
  | some z =>
    rw [e] at h
    injection h with h
    exact ⟨z, rfl, h.symm⟩
/-! ### lines in the order of the house -/
theorem ord_app (a b : Str) (xs ys : List Str) : ordS (xs ++ ys) a b = ordS xs a b ++ ordS ys a b := List.filter_append ..
theorem ord_none {ns : List Str} {a b : Str} (ha : a ∉ ns) (hb : b ∉ ns) : ordS ns a b = [] := by
  unfold ordS
  rw [List.filter_eq_nil_iff]
  intro k hk
  have h1 : k ≠ a := fun e => ha (e ▸ hk)
  have h2 : k ≠ b := fun e => hb (e ▸ hk)
  simp [h1, h2]
theorem ord_comm (ns : List Str) (a b : Str) : ordS ns a b = ordS ns b a := by
  unfold ordS
  congr 1
  funext n
  rw [Bool.or_comm]
theorem ord_lt : ∀ {ns : List Str} {a b : Str} {i j : Nat}, ns.Nodup → ns[i]? = some a → ns[j]? = some b → i < j → ordS ns a b = [a, b]
  | n :: ns, a, b, 0, j + 1, nd, ha, hb, _ => by
    obtain ⟨nn, nd'⟩ := List.nodup_cons.mp nd
    injection ha with ha
    subst ha
    have hb' : b ∈ ns := List.mem_of_getElem? hb
    have nb : n ≠ b := fun e => nn (e ▸ hb')
    obtain ⟨c, d, e, h⟩ := ord_two nd List.mem_cons_self (List.mem_cons_of_mem _ hb') nb
    have e0 := e
    unfold ordS at e
    rw [List.filter_cons, if_pos (by simp)] at e
    injection e with e1 e2
    rw [e0]
    rcases h with ⟨h1, h2⟩ | ⟨h1, h2⟩
    · rw [h1, h2]
    · exact absurd (e1.trans h1) nb
  | n :: ns, a, b, i + 1, j + 1, nd, ha, hb, h => by
    obtain ⟨nn, nd'⟩ := List.nodup_cons.mp nd
    have ha' : a ∈ ns := List.mem_of_getElem? (i := i) ha
    have hb' : b ∈ ns := List.mem_of_getElem? (i := j) hb
    have h1 : n ≠ a := fun e => nn (e ▸ ha')
    have h2 : n ≠ b := fun e => nn (e ▸ hb')
    have ih := ord_lt (ns := ns) (i := i) (j := j) nd' ha hb (Nat.lt_of_succ_lt_succ h)
    unfold ordS at ih ⊢
    rw [List.filter_cons, ih]
    simp [h1, h2]
theorem agF_line {fo th : List Str} {a b c d : Str} (h : ordS (fo ++ th) a b = [c, d]) : agF fo th "line" a b = (([(c, d), (d, c)] : List (Str × Str)).filter fun p => decide (p.2 ∈ fo)).map fun p => [("not" : Str), p.1, p.2] := by
  unfold agF toldS
  rw [if_pos rfl, h]
  show agS fo "line" c d = _
  unfold agS
  rw [if_neg (by decide), if_neg (by decide)]
theorem agF_other {fo th : List Str} {w a b : Str} (h : w ≠ "line") : agF fo th w a b = agS fo w a b := by
  unfold agF toldS
  rw [if_neg h]
theorem strs_idx {ns : List Str} {j : Nat} {z : Str} (nd : ns.Nodup) (h : ns[j]? = some z) : ∀ (m : Nat) (z' : V), m < j → (ns.map V.str)[m]? = some z' → eqV z' (.str z) = false := fun m z' hm e => by
  obtain ⟨y, hy, rfl⟩ := strs_at e
  cases hh : eqV (.str y) (.str z) with
  | false => rfl
  | true =>
    have e2 : (V.str z) = .str y := eqV_strE hh
    injection e2 with e2
    subst e2
    obtain ⟨h1, e1⟩ := List.getElem?_eq_some_iff.mp h
    obtain ⟨h2, e3⟩ := List.getElem?_eq_some_iff.mp hy
    have := (List.getElem_inj nd).mp (e1.trans e3.symm)
    omega
theorem ag_three {fo th : List Str} {w a b : Str} (nd : (fo ++ th).Nodup) (h : IsF fo th w a b) : ∀ r, r ∈ agF fo th w a b → ∃ w2 a2 b2, r = [w2, a2, b2] ∧ w2 ∈ wordsS ∧ a2 ∈ fo ++ th ∧ b2 ∈ fo ++ th := fun r hr => by
  obtain ⟨c, d, et, hcd⟩ := told_three nd h
  have hc : c ∈ fo ++ th := by
    rcases hcd with ⟨rfl, rfl⟩ | ⟨_, rfl, rfl⟩
    · exact h.2.1
    · exact h.2.2.1
  have hd : d ∈ fo ++ th := by
    rcases hcd with ⟨rfl, rfl⟩ | ⟨_, rfl, rfl⟩
    · exact h.2.2.1
    · exact h.2.1
  unfold agF at hr
  rw [et] at hr
  have hr : r ∈ agS fo w c d := hr
  unfold agS at hr
  split at hr
  · rw [List.mem_singleton.mp hr]
    exact ⟨_, _, _, rfl, by decide, hc, hd⟩
  · split at hr
    · rw [List.mem_singleton.mp hr]
      exact ⟨_, _, _, rfl, by decide, hc, hd⟩
    · obtain ⟨p, hp, rfl⟩ := List.mem_map.mp hr
      have hp := (List.mem_filter.mp hp).1
      rcases List.mem_cons.mp hp with rfl | hp
      · exact ⟨_, _, _, rfl, by decide, hc, hd⟩
      · rw [List.mem_singleton.mp hp]
        exact ⟨_, _, _, rfl, by decide, hd, hc⟩
theorem ag_len {fo th : List Str} {w a b : Str} (nd : (fo ++ th).Nodup) (h : IsF fo th w a b) : (agF fo th w a b).length ≤ 2 := by
  obtain ⟨c, d, et, _⟩ := told_three nd h
  unfold agF
  rw [et]
  show (agS fo w c d).length ≤ 2
  unfold agS
  split
  · exact Nat.le_of_ble_eq_true rfl
  · split
    · exact Nat.le_of_ble_eq_true rfl
    · rw [List.length_map]
      exact Nat.le_trans (List.length_filter_le _ _) (Nat.le_of_ble_eq_true rfl)
theorem sqT_butL {K : PySem.W.Frag} {H H' : Hp} {p t : Addr} {ys xs : List V} (hp : H p = some (.lst ys)) (b : But H H' p) (h : SqT K H t xs) : SqT K H' t xs := by
  rcases h with (h | ⟨o, h⟩) | h
  · exact .inl (.inl (b _ _ (ne_of h hp (fun z => nomatch z)) h))
  · exact .inl (.inr ⟨o, b _ _ (ne_of h hp (fun z => nomatch z)) h⟩)
  · exact .inr h
theorem Rows.butL {K : PySem.W.Frag} {H H' : Hp} {p : Addr} {ys : List V} (hp : H p = some (.lst ys)) (b : But H H' p) : ∀ {xs : List V} {rs : List (List Str)}, Rows K H xs rs → Rows K H' xs rs
  | [], [], _ => True.intro
  | _ :: _, _ :: _, ⟨⟨t, e1, h⟩, hr⟩ => ⟨⟨t, e1, sqT_butL hp b h⟩, Rows.butL hp b hr⟩
  | [], _ :: _, h => h.elim
  | _ :: _, [], h => h.elim
theorem hou_butL {H H' : Hp} {K : PySem.W.Frag} {C h p : Addr} {fo th : List Str} {ys : List V} (hp : H p = some (.lst ys)) (b : But H H' p) (hh : Hou H K C h fo th) : Hou H' K C h fo th := by
  obtain ⟨⟨dx, fs, f, t, n, h1, h2, h3, h4, h5, h6, h7⟩, k⟩ := hh
  exact ⟨⟨dx, fs, f, t, n, b _ _ (ne_of h1 hp (fun z => nomatch z)) h1, h2, h3, h4, sqT_butL hp b h5, sqT_butL hp b h6, sqT_butL hp b h7⟩, k⟩
theorem Pool.lst {H : Hp} {p : Addr} {n : Int} (h : Pool H p n) : ∃ ys, H p = some (.lst ys) := by
  obtain ⟨g, m, c, h, _⟩ := h
  exact ⟨_, h⟩
theorem ext_but' {H H1 H2 : Hp} {p : Addr} (x : Ext H H1) (h : H p = none) (b : But H1 H2 p) : Ext H H2 := fun a u e => b a u (ne_of_none e h) (x a u e)
theorem cutV_takeA {xs : List V} {k : Nat} : cutV xs none (some ((k : Nat) : Int)) = xs.take k := by
  unfold cutV
  rw [HT.sIx_none, HT.sIx_nat, Nat.sub_zero, List.drop_zero]
  rcases Nat.le_total k xs.length with h | h
  · rw [Nat.min_eq_left h]
  · rw [Nat.min_eq_right h, List.take_of_length_le (Nat.le_refl _), List.take_of_length_le h]
/-! ### what is no fact -/
theorem no_kit {K : PySem.W.Frag} {H : Hp} {fo th : List Str} {x : V} {a : String} (h : TyX K H x (.type a)) (h1 : kitB a "list" = some false) (h2 : kitB a "tuple" = some false) : FactOf K H fo th x false := .inl ⟨rfl, _, h, kit_no h1 h2⟩
theorem no_len {K : PySem.W.Frag} {H : Hp} {fo th : List Str} {a : Addr} {xs : List V} (h : SeqAt2 K H a xs) (n : xs.length ≠ 3) : FactOf K H fo th (.ref a) false := .inr (.inl ⟨rfl, a, xs, rfl, h, n⟩)
theorem no_fact {K : PySem.W.Frag} {H : Hp} {fo th : List Str} {a : Addr} {w o p : V} (h : SeqAt2 K H a [w, o, p]) (h1 : Itm K H w) (h2 : Itm K H o) (h3 : Itm K H p) (e : factB fo th w o p = false) : FactOf K H fo th (.ref a) false := .inr (.inr ⟨a, w, o, p, rfl, h, h1, h2, h3, e.symm⟩)
theorem fb_w {fo th : List Str} {w o p : V} (h : inV w (wordsS.map V.str) = false) : factB fo th w o p = false := by
  unfold factB
  rw [h, Bool.false_and]
theorem fb_o {fo th : List Str} {w o p : V} (h : inV o ((fo ++ th).map V.str) = false) : factB fo th w o p = false := by
  unfold factB
  rw [h, Bool.false_and, Bool.and_false]
theorem fb_p {fo th : List Str} {w o p : V} (h : inV p ((fo ++ th).map V.str) = false) : factB fo th w o p = false := by
  unfold factB
  rw [h, Bool.false_and, Bool.and_false, Bool.and_false]
theorem fb_eq {fo th : List Str} {w o : V} : factB fo th w o o = false := by
  unfold factB
  rw [decide_eq_true (rfl : o = o)]
  simp
theorem fb_fo {fo th : List Str} {w o p : V} (hw : w ≠ .str "line") (h : inV p (fo.map V.str) = false) : factB fo th w o p = false := by
  unfold factB
  rw [h, decide_eq_false hw]
  simp
theorem inV_not {z : Str} {zs : List Str} (h : z ∉ zs) : inV (.str z) (zs.map V.str) = false := by
  rw [inV_str]
  exact decide_eq_false h
theorem inV_non (zs : List Str) : inV .non (zs.map V.str) = false := inV_no (fun _ => rfl) zs
/-- a fact under any L that tells what lies below what -/
def holdsG (L : Str → Str → Bool) (w a b : Str) : Bool := if w = "below" then L a b else if w = "not" then !L a b else L a b || L b a
def holdsGR (L : Str → Str → Bool) : List Str → Bool
  | [w, a, b] => holdsG L w a b
  | _ => true
theorem ag_allG {fo th : List Str} {L : Str → Str → Bool} {w a b : Str} (hL : ∀ x y, y ∉ fo → L x y = false) (nd : (fo ++ th).Nodup) (h : IsF fo th w a b) : (agF fo th w a b).all (holdsGR L) = !holdsG L w a b := by
  have hn : ∀ x y, holdsG L "not" x y = !L x y := fun x y => by
    unfold holdsG
    rw [if_neg (by decide), if_pos rfl]
  by_cases e1 : w = "below"
  · subst e1
    rw [agF_other (by decide)]
    show (holdsG L "not" a b && true) = !holdsG L "below" a b
    rw [hn, Bool.and_true]
    rfl
  by_cases e2 : w = "not"
  · subst e2
    rw [agF_other (by decide), hn, Bool.not_not]
    show (holdsG L "below" a b && true) = L a b
    rw [Bool.and_true]
    rfl
  obtain rfl : w = "line" := by
    have z := h.1
    unfold wordsS at z
    simp at z
    rcases z with z | z | z
    · exact absurd z e1
    · exact absurd z e2
    · exact z
  obtain ⟨c, e, ho, hh⟩ := ord_two nd h.2.1 h.2.2.1 h.2.2.2.1
  rw [agF_line ho]
  have one : ∀ x y : Str, ((([(x, y)] : List (Str × Str)).filter fun p => decide (p.2 ∈ fo)).map fun p => [("not" : Str), p.1, p.2]).all (holdsGR L) = !L x y := fun x y => by
    by_cases m : y ∈ fo
    · rw [List.filter_cons, if_pos (decide_eq_true m)]
      show (holdsG L "not" x y && true) = _
      rw [hn, Bool.and_true]
    · rw [List.filter_cons, if_neg (show ¬ decide ((x, y).2 ∈ fo) = true from fun z => m (of_decide_eq_true z)), hL x y m]
      rfl
  have two : ((([(c, e), (e, c)] : List (Str × Str)).filter fun p => decide (p.2 ∈ fo)).map fun p => [("not" : Str), p.1, p.2]).all (holdsGR L) = (!L c e && !L e c) := by
    rw [← one c e, ← one e c, ← List.all_append, ← List.map_append, ← List.filter_append]
    rfl
  rw [two]
  have hb : holdsG L "line" a b = (L a b || L b a) := by
    unfold holdsG
    rw [if_neg (by decide), if_neg (by decide)]
  rw [hb]
  rcases hh with ⟨rfl, rfl⟩ | ⟨rfl, rfl⟩
  · cases L c e <;> cases L e c <;> rfl
  · cases L c e <;> cases L e c <;> rfl
theorem isF_swap {fo th : List Str} {a b : Str} (h : IsF fo th "line" a b) : IsF fo th "line" b a := ⟨by decide, h.2.2.1, h.2.1, fun e => h.2.2.2.1 e.symm, .inl rfl⟩
theorem wordsOk : ∀ z ∈ wordsS, PyData.strOk z = true := by decide +kernel
end My

namespace L2
open PySem PySem.Spec PyProof.Rows
theorem u65 {k : Nat} {A : Around} (h : Room k A) : A.units + 65 < cLine := by
  have := h.un
  omega
theorem PI.or {X : Cx} {tg e : Expr} {w1 w2 : TI} (h : PI X tg e w1) (h' : PI X tg e w2) : PI X tg e (fun σ H R => w1 σ H R ∨ w2 σ H R) :=
  ⟨fun pins s σ H R I q => q.elim (h.run pins s σ H R I) (h'.run pins s σ H R I)⟩
theorem pi_seqS {X : Cx} {tg l : Expr} {tl : TE} (h : PE X l tl) : PI X tg l (fun σ H R => iList X.K tl σ H R ∨ iTup X.K tl σ H R) := PI.or (pi_list h) (pi_tup h)
end L2
namespace My
open PySem PySem.Spec PyProof.Rows L2
/-! ### facts in a list -/
/-- the first thing that is no fact -/
def firstF (bs : List Bool) : Option Nat := (List.range bs.length).find? fun i => bs[i]? == some false
theorem first_none {bs : List Bool} (h : ∀ i, i < bs.length → bs[i]? = some true) : firstF bs = none := List.find?_range_eq_none.mpr fun i hi => by rw [h i hi]; rfl
theorem first_some {bs : List Bool} {i : Nat} (h : bs[i]? = some false) (h2 : ∀ j, j < i → bs[j]? = some true) : firstF bs = some i := by
  have hi : i < bs.length := (List.getElem?_eq_some_iff.mp h).1
  exact List.find?_range_eq_some.mpr ⟨by rw [h]; rfl, List.mem_range.mpr hi, fun j hj => by rw [h2 j hj]; rfl⟩
/-- whether each of the things is a fact -/
def FactsOf (K : PySem.W.Frag) (H : Hp) (fo th : List Str) (xs : List V) (bs : List Bool) : Prop := xs.length = bs.length ∧ ∀ (i : Nat) (x : V), xs[i]? = some x → ∃ b, bs[i]? = some b ∧ FactOf K H fo th x b
theorem FactsOf.ext {K : PySem.W.Frag} {H H' : Hp} {fo th : List Str} {xs : List V} {bs : List Bool} (h : FactsOf K H fo th xs bs) (e : Ext H H') : FactsOf K H' fo th xs bs := ⟨h.1, fun i x hx => by
  obtain ⟨b, h1, h2⟩ := h.2 i x hx
  exact ⟨b, h1, h2.ext e⟩⟩
/-- what is passed as a list of facts: no list, or things -/
def Passed (K : PySem.W.Frag) (H : Hp) (fo th : List Str) (x : V) (o : Option Nat) : Prop := (o = some 0 ∧ ∃ t, TyX K H x t ∧ PySem.W.kitAny K t [.type "list", .type "tuple"] = some false) ∨
  ∃ a xs bs, x = .ref a ∧ SeqAt2 K H a xs ∧ FactsOf K H fo th xs bs ∧ o = firstF bs
theorem Passed.ext {K : PySem.W.Frag} {H H' : Hp} {fo th : List Str} {x : V} {o : Option Nat} (h : Passed K H fo th x o) (e : Ext H H') : Passed K H' fo th x o := by
  rcases h with ⟨h0, t, h1, h2⟩ | ⟨a, xs, bs, h1, h2, h3, h4⟩
  · exact .inl ⟨h0, t, h1.ext e, h2⟩
  · exact .inr ⟨a, xs, bs, h1, h2.ext e, h3.ext e, h4⟩
def spWrongFact (K : PySem.W.Frag) (C : Addr) : Sp := fun vs H Q _ => ∃ h x fo th o, vs = [.ref h, x] ∧ Hou H K C h fo th ∧ Passed K H fo th x o ∧ ∀ H', Ext H H' → Q (optV o) H'
/-! ### facts as they are told -/
def toldR (ns : List Str) : List Str → List Str
  | [w, a, b] => toldS ns w a b
  | r => r
def onceR (rs : List (List Str)) : List (List Str) := rs.foldl (fun acc r => if r ∈ acc then acc else acc ++ [r]) []
theorem once_snoc (rs : List (List Str)) (r : List Str) : onceR (rs ++ [r]) = if r ∈ onceR rs then onceR rs else onceR rs ++ [r] := by
  unfold onceR
  rw [List.foldl_append]
  rfl
/-- rows of texts, each a list or a tuple -/
def Raws (K : PySem.W.Frag) (H : Hp) (xs : List V) (rs : List (List Str)) : Prop := xs.length = rs.length ∧ ∀ (i : Nat) (x : V), xs[i]? = some x → ∃ (t : Addr) (r : List Str), x = .ref t ∧ rs[i]? = some r ∧ SeqAt2 K H t (r.map V.str)
theorem Raws.ext {K : PySem.W.Frag} {H H' : Hp} {xs : List V} {rs : List (List Str)} (h : Raws K H xs rs) (e : Ext H H') : Raws K H' xs rs := ⟨h.1, fun i x hx => by
  obtain ⟨t, r, h1, h2, h3⟩ := h.2 i x hx
  exact ⟨t, r, h1, h2, h3.ext e⟩⟩
def FactR (fo th : List Str) (rs : List (List Str)) : Prop := ∀ r, r ∈ rs → ∃ w a b, r = [w, a, b] ∧ IsF fo th w a b
theorem fold_mem : ∀ (rs acc : List (List Str)) (r : List Str), r ∈ rs.foldl (fun acc r => if r ∈ acc then acc else acc ++ [r]) acc → r ∈ acc ∨ r ∈ rs
  | [], _, _, h => .inl h
  | x :: rs, acc, r, h => by
    rcases fold_mem rs _ r h with h | h
    · have h : r ∈ (if x ∈ acc then acc else acc ++ [x]) := h
      split at h
      · exact .inl h
      · rcases List.mem_append.mp h with h | h
        · exact .inl h
        · exact .inr (by rw [List.mem_singleton.mp h]; exact List.mem_cons_self)
    · exact .inr (List.mem_cons_of_mem _ h)
theorem once_mem {rs : List (List Str)} {r : List Str} (h : r ∈ onceR rs) : r ∈ rs := (fold_mem rs [] r h).resolve_left fun z => by cases z
theorem once_len : ∀ (rs acc : List (List Str)), (rs.foldl (fun acc r => if r ∈ acc then acc else acc ++ [r]) acc).length ≤ acc.length + rs.length
  | [], _ => Nat.le_refl _
  | x :: rs, acc => by
    refine Nat.le_trans (once_len rs _) ?_
    show (if x ∈ acc then acc else acc ++ [x]).length + rs.length ≤ _
    split
    · rw [List.length_cons]; omega
    · rw [List.length_append, List.length_cons, List.length_cons, List.length_nil]; omega
theorem any_rows (r : List Str) : ∀ rs : List (List Str), ((rs.map fun r => PyData.tuple (r.map PyData.str)).any fun z => PyData.eqv z (.tuple (r.map PyData.str))) = decide (r ∈ rs)
  | [] => rfl
  | s :: rs => by
    rw [List.map_cons, List.any_cons, any_rows r rs, eqv_strT]
    by_cases h : r = s
    · subst h
      simp
    · have h' : ¬ s = r := fun e => h e.symm
      simp [h, h']
/-- told rows: three texts each -/
def Told (ns : List Str) (rs : List (List Str)) : Prop := ∀ r, r ∈ rs → ∃ w a b, r = [w, a, b] ∧ w ∈ wordsS ∧ a ∈ ns ∧ b ∈ ns
theorem told_ok {fo th : List Str} (nd : (fo ++ th).Nodup) {rs : List (List Str)} (h : FactR fo th rs) : Told (fo ++ th) (rs.map (toldR (fo ++ th))) := fun r hr => by
  obtain ⟨x, hx, rfl⟩ := List.mem_map.mp hr
  obtain ⟨w, a, b, rfl, isf⟩ := h x hx
  obtain ⟨c, d, e, hcd⟩ := told_three nd isf
  refine ⟨w, c, d, e, isf.1, ?_, ?_⟩
  · rcases hcd with ⟨rfl, _⟩ | ⟨_, rfl, _⟩
    · exact isf.2.1
    · exact isf.2.2.1
  · rcases hcd with ⟨_, rfl⟩ | ⟨_, _, rfl⟩
    · exact isf.2.2.1
    · exact isf.2.1
def spEachOnce (K : PySem.W.Frag) (C : Addr) : Sp := fun vs H Q _ => ∃ h x fo th xs rs, vs = [.ref h, .ref x] ∧ Hou H K C h fo th ∧ (fo ++ th).Nodup ∧ (fo ++ th).length < sizeLine ∧ (∀ z, z ∈ fo ++ th → PyData.strOk z = true) ∧ SeqAt2 K H x xs ∧ Raws K H xs rs ∧ FactR fo th rs ∧ rs.length < 1000 ∧
  ∀ t ys H', Ext H H' → SqT K H' t ys → Rows K H' ys (onceR (rs.map (toldR (fo ++ th)))) → Q (.ref t) H'
abbrev nm_wrong_fact : List Str := ["house", "facts", "at", "thing"]
theorem sc_wrong_fact : FnScope nm_wrong_fact ["house", "facts"] (defScope s_wrong_fact) := ⟨rfl, rfl, rfl, by decide +kernel, rfl, by decide +kernel, by decide +kernel⟩
abbrev nm_each_once : List Str := ["house", "facts", "rows", "fact", "row"]
theorem sc_each_once : FnScope nm_each_once ["house", "facts"] (defScope s_each_once) := ⟨rfl, rfl, rfl, by decide +kernel, rfl, by decide +kernel, by decide +kernel⟩
section
variable {P : Program} {w : World} {K : PySem.W.Frag} {mg : Str → Option Value} {base : Heap} {f C CB : Addr} {fd : FuncData}
theorem ok_wrongFact (Fn : FnP K "wrong_fact" s_wrong_fact f fd) (his_list : Has P w K mg base 1 "is_list" ["thing"] (spIsList K)) (his_fact : Has P w K mg base 5 "is_fact" ["house", "thing"] (spIsFact K C)) (gB_enumerate : mg "enumerate" = none) :
    FnOk P w K mg base CX0 6 f fd ["house", "facts"] (spWrongFact K C) := by
  refine Fn.ok sc_wrong_fact (fun vs H Q E h => ?_) (fun cdv A outer s H vs Q E hr h => ⟨_, PSs.nox
    (pss_cons (ps_if (pt_not (pt_val (pe_has his_list (hr.mono (by decide)) (pa_cons (pv 1) pa_nil)))) (pss_one (ps_ret pe_int)) pss_nil)
      (pss_cons (ps_for PassesOwn.never rfl (pi_enumS (by rfl) gB_enumerate (pa_cons (pv 1) pa_nil)) (pg_tup rfl (pgs_cons (pg_name (i := 2) sc_wrong_fact.nd rfl (Or.inl rfl)) (pgs_cons (pg_name (i := 3) sc_wrong_fact.nd rfl (Or.inl rfl)) pgs_nil)))
      (pss_one (ps_if (pt_not (pt_val (pe_has his_fact (hr.mono (by decide)) (pa_cons (pv 0) (pa_cons (pv 3) pa_nil))))) (pss_one (ps_ret (pv 2))) pss_nil)))
      (pss_one (ps_ret pe_non)))), ?_⟩)
  · obtain ⟨h, x, fo, th, o, rfl, _⟩ := h
    rfl
  · obtain ⟨h, x, fo, th, o, rfl, hou, hp, q⟩ := h
    rcases hp with ⟨rfl, t, ty, kt⟩ | ⟨a, xs, bs, rfl, sq, fs, rfl⟩
    · exact ⟨_, rfl, x, t, false, rfl, ty, kt, fun H1 x1 => ⟨false, rfl, q H1 x1⟩⟩
    · obtain ⟨t, ty, kt⟩ := seq_kit sq
      refine ⟨_, rfl, _, t, true, rfl, ty, kt, fun H1 x1 => ⟨true, rfl, ?_⟩⟩
      have sq1 := sq.ext x1
      refine ⟨_, rfl, a, xs, rfl, ?_⟩
      rcases sq1 with sq1 | sq1
      · refine .inl ⟨sq1, ?_⟩
        refine for_it (walk_enum (xs := xs)) (fun i σ H' => Ext H1 H' ∧ (∃ u v, σ = [some (.ref h), some (.ref a), u, v]) ∧ ∀ j, j < i → bs[j]? = some true) ⟨Ext.rfl', ⟨none, none, rfl⟩, fun j hj => absurd hj (Nat.not_lt_zero _)⟩ (fun i σ H' _ p => sq1.ext p.1) ?_ ?_
        · intro i x σ H2 H3 hi p y
          obtain ⟨x2, ⟨u, v, rfl⟩, hb⟩ := p
          obtain ⟨T, y1, y2, rfl, hT, rfl, e1, e2⟩ := y
          cases e1
          have e2 : xs[i]? = some y2 := e2
          have x3 : Ext H1 (upd H2 T (.tup [.int i, y2])) := x2.upd' hT
          refine ⟨T, _, rfl, SqT.of upd_same, rfl, _, _, rfl, _, _, rfl, rfl, ?_⟩
          obtain ⟨b, hbi, fb⟩ := fs.2 i y2 e2
          refine ⟨_, rfl, _, rfl, h, y2, fo, th, b, rfl, hou.ext (x1.trans x3), fb.ext (x1.trans x3), fun H4 x4 => ⟨b, rfl, ?_⟩⟩
          cases b with
          | true =>
            refine ⟨x3.trans x4, ⟨_, _, rfl⟩, fun j hj => ?_⟩
            rcases Nat.lt_or_eq_of_le (Nat.le_of_lt_succ hj) with z | z
            · exact hb j z
            · rw [z]; exact hbi
          | false =>
            rw [first_some hbi hb] at q
            exact ⟨_, rfl, q H4 (x1.trans (x3.trans x4))⟩
        · intro σ H2 p
          rw [first_none (fun i hi => p.2.2 i (by rw [fs.1]; exact hi))] at q
          exact q H2 (x1.trans p.1)
      · refine .inr ⟨sq1, ?_⟩
        refine for_it (walk_enumT (xs := xs)) (fun i σ H' => Ext H1 H' ∧ (∃ u v, σ = [some (.ref h), some (.ref a), u, v]) ∧ ∀ j, j < i → bs[j]? = some true) ⟨Ext.rfl', ⟨none, none, rfl⟩, fun j hj => absurd hj (Nat.not_lt_zero _)⟩ (fun i σ H' _ p => sq1.ext p.1) ?_ ?_
        · intro i x σ H2 H3 hi p y
          obtain ⟨x2, ⟨u, v, rfl⟩, hb⟩ := p
          obtain ⟨T, y1, y2, rfl, hT, rfl, e1, e2⟩ := y
          cases e1
          have e2 : xs[i]? = some y2 := e2
          have x3 : Ext H1 (upd H2 T (.tup [.int i, y2])) := x2.upd' hT
          refine ⟨T, _, rfl, SqT.of upd_same, rfl, _, _, rfl, _, _, rfl, rfl, ?_⟩
          obtain ⟨b, hbi, fb⟩ := fs.2 i y2 e2
          refine ⟨_, rfl, _, rfl, h, y2, fo, th, b, rfl, hou.ext (x1.trans x3), fb.ext (x1.trans x3), fun H4 x4 => ⟨b, rfl, ?_⟩⟩
          cases b with
          | true =>
            refine ⟨x3.trans x4, ⟨_, _, rfl⟩, fun j hj => ?_⟩
            rcases Nat.lt_or_eq_of_le (Nat.le_of_lt_succ hj) with z | z
            · exact hb j z
            · rw [z]; exact hbi
          | false =>
            rw [first_some hbi hb] at q
            exact ⟨_, rfl, q H4 (x1.trans (x3.trans x4))⟩
        · intro σ H2 p
          rw [first_none (fun i hi => p.2.2 i (by rw [fs.1]; exact hi))] at q
          exact q H2 (x1.trans p.1)
theorem ok_eachOnce (Fn : FnP K "each_once" s_each_once f fd) (has_told : Has P w K mg base 1 "as_told" ["house", "fact"] (spAsTold K C)) (gB_tuple : mg "tuple" = none) : FnOk P w K mg base CX0 2 f fd ["house", "facts"] (spEachOnce K C) := by
  refine Fn.ok sc_each_once (fun vs H Q E h => ?_) (fun cdv A outer s H vs Q E hr h => ⟨_, PSs.nox
    (pss_cons (ps_set (i := 2) sc_each_once.nd rfl (Or.inl rfl) (pe_lst pa_nil))
      (pss_cons (ps_for PassesOwn.never rfl (pi_seqS (pv 1)) (pg_name (i := 3) sc_each_once.nd rfl (Or.inl rfl))
      (pss_cons (ps_set (i := 4) sc_each_once.nd rfl (Or.inl rfl) (pe_has has_told (hr.mono (by decide)) (pa_cons (pv 0) (pa_cons (pv 3) pa_nil))))
      (pss_one (ps_if (pt_cmpR (op_notInD (u65 hr)) (pv 4) (pv 2) (by rfl)) (pss_one (ps_expr (pe_bm PySem.F.plainAttrs_list PySem.F.slot_list_append PySem.F.type_list_append mt_append (pv 2) (pa_cons (pv 4) pa_nil)))) pss_nil))))
      (pss_one (ps_ret (pe_callTy call_tup (by rfl) gB_tuple (by decide +kernel) (pa_cons (pv 2) pa_nil)))))), ?_⟩)
  · obtain ⟨h, x, fo, th, xs, rs, rfl, _⟩ := h
    rfl
  · obtain ⟨h, x, fo, th, xs, rs, rfl, hou, nd, hz, zok, sq, raw, fr, len, q⟩ := h
    refine ⟨Nat.zero_le _, fun l hl => ?_⟩
    obtain ⟨H1, hH1⟩ : ∃ H1, H1 = upd H l (.lst []) := ⟨_, rfl⟩
    rw [← hH1]
    have x1 : Ext H H1 := by
      rw [hH1]
      exact Ext.upd hl
    have l1 : H1 l = some (.lst []) := by rw [hH1, upd_same]
    have tok := told_ok nd fr
    have okr : ∀ ws : List (List Str), (∀ r, r ∈ ws → r ∈ rs.map (toldR (fo ++ th))) → OkR ws := fun ws hw r hr z hz => by
      obtain ⟨w, a, b, rfl, h1, h2, h3⟩ := tok r (hw r hr)
      simp at hz
      rcases hz with rfl | rfl | rfl
      · exact wordsOk _ h1
      · exact zok _ h2
      · exact zok _ h3
    rcases sq with sq | sq
    · refine .inl ⟨_, rfl, x, rfl, ⟨_, sq.ext x1⟩, for_list (K := K) (a := x) (xs := xs) (fun i σ H' => Ext H H' ∧ ∃ u v ys, σ = [some (.ref h), some (.ref x), some (.ref l), u, v] ∧ H' l = some (.lst ys) ∧ ys.length ≤ i ∧ Rows K H' ys (onceR ((rs.take i).map (toldR (fo ++ th))))) ?_ ?_ ?_ ?_⟩
      · exact ⟨x1, none, none, [], rfl, l1, Nat.zero_le _, True.intro⟩
      · rintro i σ H' _ ⟨x', _⟩
        exact sq.ext x'
      · intro i v σ H2 hv P2
        obtain ⟨x2, u, v', ys, rfl, l2, len2, r2⟩ := P2
        obtain ⟨t, r, rfl, hr, sqr⟩ := raw.2 i v hv
        obtain ⟨wd, a, b, rfl, isf⟩ := fr r (List.mem_of_getElem? hr)
        have il : i < rs.length := (List.getElem?_eq_some_iff.mp hr).1
        have tk : (rs.take (i + 1)).map (toldR (fo ++ th)) = (rs.take i).map (toldR (fo ++ th)) ++ [toldS (fo ++ th) wd a b] := by
          rw [List.take_add_one, hr, List.map_append]
          rfl
        obtain ⟨row, hrow⟩ : ∃ row, row = toldS (fo ++ th) wd a b := ⟨_, rfl⟩
        rw [← hrow] at tk
        obtain ⟨old, hold⟩ : ∃ old, old = (rs.take i).map (toldR (fo ++ th)) := ⟨_, rfl⟩
        rw [← hold] at tk r2
        have sub : ∀ r, r ∈ old ++ [row] → r ∈ rs.map (toldR (fo ++ th)) := fun r hr' => by
          rw [← tk] at hr'
          obtain ⟨y, hy, rfl⟩ := List.mem_map.mp hr'
          exact List.mem_map.mpr ⟨y, List.mem_of_mem_take hy, rfl⟩
        refine ⟨_, rfl, _, rfl, h, t, fo, th, wd, a, b, rfl, hou.ext x2, nd, hz, isf, sqr.ext x2, fun tt H3 x3 htt => ?_⟩
        rw [← hrow] at htt
        have ok1 := okr [row] fun r hr' => sub r (List.mem_append_right _ hr')
        have ok2 := okr (onceR old) fun r hr' => sub r (List.mem_append_left _ (once_mem hr'))
        have l3 := x3 _ _ l2
        have r3 := r2.ext x3
        refine ⟨_, rfl, _, rfl, .tuple (row.map PyData.str), _, .tup (SqT.of htt) (dpAll_str row), .lst (SqL.of l3) (rows_dp r3), shaped_strT row (ok1 row List.mem_cons_self), rows_shaped ok2, _, rfl, ?_⟩
        rw [any_rows]
        rw [tk, once_snoc]
        refine ite2 (fun c => ?_) fun c => ?_
        · have c' : row ∉ onceR old := by simpa using c
          rw [if_neg c']
          refine ⟨_, rfl, .inl ⟨rfl, _, .inl (.inl l3)⟩, _, rfl, l, _, _, rfl, rfl, l3, by rw [sizeLine_eq]; omega, ?_⟩
          exact ⟨(x2.trans x3).over hl, _, _, _, rfl, upd_same, by rw [List.length_append]; exact Nat.succ_le_succ len2, Rows.upd l3 (Rows.app r3 ⟨⟨tt, rfl, SqT.of htt⟩, True.intro⟩)⟩
        · have c' : row ∈ onceR old := by simpa using c
          rw [if_pos c']
          exact ⟨x2.trans x3, _, _, ys, rfl, l3, by omega, r3⟩
      · rintro σ H2 ⟨x2, u, v', ys, rfl, l2, len2, r2⟩
        rw [raw.1, List.take_length] at r2
        refine ⟨_, rfl, l, _, rfl, .inl (SqL.of l2), fun t H3 x3 st => ?_⟩
        exact q t ys H3 (x2.trans x3) st (r2.ext x3)
    · refine .inr ⟨_, rfl, x, rfl, ⟨_, sq.ext x1⟩, for_tup (K := K) (a := x) (xs := xs) (fun i σ H' => Ext H H' ∧ ∃ u v ys, σ = [some (.ref h), some (.ref x), some (.ref l), u, v] ∧ H' l = some (.lst ys) ∧ ys.length ≤ i ∧ Rows K H' ys (onceR ((rs.take i).map (toldR (fo ++ th))))) ?_ ?_ ?_ ?_⟩
      · exact ⟨x1, none, none, [], rfl, l1, Nat.zero_le _, True.intro⟩
      · rintro i σ H' _ ⟨x', _⟩
        exact sq.ext x'
      · intro i v σ H2 hv P2
        obtain ⟨x2, u, v', ys, rfl, l2, len2, r2⟩ := P2
        obtain ⟨t, r, rfl, hr, sqr⟩ := raw.2 i v hv
        obtain ⟨wd, a, b, rfl, isf⟩ := fr r (List.mem_of_getElem? hr)
        have il : i < rs.length := (List.getElem?_eq_some_iff.mp hr).1
        have tk : (rs.take (i + 1)).map (toldR (fo ++ th)) = (rs.take i).map (toldR (fo ++ th)) ++ [toldS (fo ++ th) wd a b] := by
          rw [List.take_add_one, hr, List.map_append]
          rfl
        obtain ⟨row, hrow⟩ : ∃ row, row = toldS (fo ++ th) wd a b := ⟨_, rfl⟩
        rw [← hrow] at tk
        obtain ⟨old, hold⟩ : ∃ old, old = (rs.take i).map (toldR (fo ++ th)) := ⟨_, rfl⟩
        rw [← hold] at tk r2
        have sub : ∀ r, r ∈ old ++ [row] → r ∈ rs.map (toldR (fo ++ th)) := fun r hr' => by
          rw [← tk] at hr'
          obtain ⟨y, hy, rfl⟩ := List.mem_map.mp hr'
          exact List.mem_map.mpr ⟨y, List.mem_of_mem_take hy, rfl⟩
        refine ⟨_, rfl, _, rfl, h, t, fo, th, wd, a, b, rfl, hou.ext x2, nd, hz, isf, sqr.ext x2, fun tt H3 x3 htt => ?_⟩
        rw [← hrow] at htt
        have ok1 := okr [row] fun r hr' => sub r (List.mem_append_right _ hr')
        have ok2 := okr (onceR old) fun r hr' => sub r (List.mem_append_left _ (once_mem hr'))
        have l3 := x3 _ _ l2
        have r3 := r2.ext x3
        refine ⟨_, rfl, _, rfl, .tuple (row.map PyData.str), _, .tup (SqT.of htt) (dpAll_str row), .lst (SqL.of l3) (rows_dp r3), shaped_strT row (ok1 row List.mem_cons_self), rows_shaped ok2, _, rfl, ?_⟩
        rw [any_rows]
        rw [tk, once_snoc]
        refine ite2 (fun c => ?_) fun c => ?_
        · have c' : row ∉ onceR old := by simpa using c
          rw [if_neg c']
          refine ⟨_, rfl, .inl ⟨rfl, _, .inl (.inl l3)⟩, _, rfl, l, _, _, rfl, rfl, l3, by rw [sizeLine_eq]; omega, ?_⟩
          exact ⟨(x2.trans x3).over hl, _, _, _, rfl, upd_same, by rw [List.length_append]; exact Nat.succ_le_succ len2, Rows.upd l3 (Rows.app r3 ⟨⟨tt, rfl, SqT.of htt⟩, True.intro⟩)⟩
        · have c' : row ∈ onceR old := by simpa using c
          rw [if_pos c']
          exact ⟨x2.trans x3, _, _, ys, rfl, l3, by omega, r3⟩
      · rintro σ H2 ⟨x2, u, v', ys, rfl, l2, len2, r2⟩
        rw [raw.1, List.take_length] at r2
        refine ⟨_, rfl, l, _, rfl, .inl (SqL.of l2), fun t H3 x3 st => ?_⟩
        exact q t ys H3 (x2.trans x3) st (r2.ext x3)
end
end My

namespace L2
open PySem PySem.Spec PyProof.Rows
/-- x in a tuple of data -/
def rInDT (K : PySem.W.Frag) : R2 := fun x y H Q => ∃ d ds, Dp K H x d ∧ Dp K H y (.tuple ds) ∧ SeqAt.shaped d = true ∧ SeqAt.shaped (.tuple ds) = true ∧ Q (.bl (ds.any fun z => PyData.eqv z d)) H
theorem op_inDT {X : Cx} (hu : X.A.units + 65 < cLine) : OpR X (compareOp .In) (rInDT X.K) := by
  intro pins s σ H x y v u Q I rx ry h
  obtain ⟨d, ds, h1, h2, s1, s2, q⟩ := h
  obtain ⟨as, ra⟩ := Dp.reads I d x v h1 rx
  obtain ⟨bs, rb⟩ := Dp.reads I _ y u h2 ry
  have c1 := Bool.and_eq_true_iff.mp s1
  have c2 := Bool.and_eq_true_iff.mp s2
  have e1 : d.depth ≤ 64 := of_decide_eq_true c1.2
  refine SeqAt.in_tuple_reads rb ra c2.1 c1.1 ?_ ⟨.bl _, H, I, rfl, q⟩
  have := Nat.min_le_right (PyData.depthAll ds) d.depth
  omega
end L2
namespace My
open PySem PySem.Spec PyProof.Rows L2
/-! ### the class Facts -/
structure FacC (K : PySem.W.Frag) (C : Addr) : Prop where
  cl : Cls K C
  nh : NoAttr K C "house"
  nr : NoAttr K C "rows"
  ha : PySem.W.findIn K (.ref C) "__class__" = some (some (.builtin "object.__class__"))
  hn : PySem.W.specialIn K (.builtin "object.__class__") "__get__" = some (some (.builtin "getset_descriptor.__get__"))
  htk : PySem.W.takesIn K (.builtin "object.__class__") = some true
  hm : PySem.W.mroIn K C (.type "object") = some true
def rowsT (rs : List (List Str)) : PyData := .tuple (rs.map fun r => .tuple (r.map PyData.str))
theorem rowsT_shaped {rs : List (List Str)} (h : OkR rs) : SeqAt.shaped (rowsT rs) = true := rows_shaped h
theorem eqv_rowsT (rs ss : List (List Str)) : PyData.eqv (rowsT rs) (rowsT ss) = decide (rs = ss) := eqvAll_rows rs ss
/-- the methods that are no fields -/
def facM : List Str := ["told", "without"]
/-- facts stand at a -/
def FacAt (H : Hp) (K : PySem.W.Frag) (CF C a : Addr) (fo th : List Str) (rows : List (List Str)) : Prop := ∃ dx fs h r ys, H a = some (.ins CF dx fs) ∧ fs.lookup ("house" : Str) = some (V.ref h) ∧ fs.lookup ("rows" : Str) = some (V.ref r) ∧
  Hou H K C h fo th ∧ SqT K H r ys ∧ Rows K H ys rows ∧ OkR rows ∧ ∀ m, m ∈ facM → fs.lookup m = none
theorem FacAt.ext {H H' : Hp} {K : PySem.W.Frag} {CF C a : Addr} {fo th : List Str} {rows : List (List Str)} (h : FacAt H K CF C a fo th rows) (e : Ext H H') : FacAt H' K CF C a fo th rows := by
  obtain ⟨dx, fs, ho, r, ys, h1, h2, h3, h4, h5, h6, h7, h8⟩ := h
  exact ⟨dx, fs, ho, r, ys, e _ _ h1, h2, h3, h4.ext e, h5.ext e, h6.ext e, h7, h8⟩
theorem FacAt.ins {H : Hp} {K : PySem.W.Frag} {CF C a : Addr} {fo th : List Str} {rows : List (List Str)} (h : FacAt H K CF C a fo th rows) : ∃ dx fs, H a = some (.ins CF dx fs) := by
  obtain ⟨dx, fs, ho, r, ys, h1, _⟩ := h
  exact ⟨dx, fs, h1⟩
theorem tyF {K : PySem.W.Frag} {H : Hp} {CF C a : Addr} {fo th : List Str} {rows : List (List Str)} (T : FacC K CF) (h : FacAt H K CF C a fo th rows) : TyX K H (.ref a) (.ref CF) := by
  obtain ⟨dx, fs, e⟩ := h.ins
  exact .base (.ins e T.cl T.ha T.hn T.htk T.hm)
theorem Rows.but {K : PySem.W.Frag} {H H' : Hp} {a C dx : Addr} {fs : List (Str × V)} (b : But H H' a) (ha : H a = some (.ins C dx fs)) : ∀ {xs : List V} {rs : List (List Str)}, Rows K H xs rs → Rows K H' xs rs
  | [], [], _ => True.intro
  | _ :: _, _ :: _, ⟨⟨t, e1, h⟩, hr⟩ => ⟨⟨t, e1, sqT_but h b ha⟩, Rows.but b ha hr⟩
  | [], _ :: _, h => h.elim
  | _ :: _, [], h => h.elim
theorem seq_but {K : PySem.W.Frag} {H H' : Hp} {a C dx f : Addr} {fs : List (Str × V)} {xs : List V} (h : SeqAt2 K H f xs) (b : But H H' a) (ha : H a = some (.ins C dx fs)) : SeqAt2 K H' f xs := h.elim (fun z => .inl (sqL_but z b ha)) fun z => .inr (sqT_but z b ha)
theorem Raws.but {K : PySem.W.Frag} {H H' : Hp} {a C dx : Addr} {fs : List (Str × V)} {xs : List V} {rs : List (List Str)} (h : Raws K H xs rs) (b : But H H' a) (ha : H a = some (.ins C dx fs)) : Raws K H' xs rs := ⟨h.1, fun i x hx => by
  obtain ⟨t, r, h1, h2, h3⟩ := h.2 i x hx
  exact ⟨t, r, h1, h2, seq_but h3 b ha⟩⟩
/-- the house of facts stays when the facts are written -/
theorem hou_but {K : PySem.W.Frag} {H H' : Hp} {a C CF dx h : Addr} {fs : List (Str × V)} {fo th : List Str} (hh : Hou H K C h fo th) (b : But H H' a) (ha : H a = some (.ins CF dx fs)) (ne : h ≠ a) : Hou H' K C h fo th := by
  obtain ⟨⟨dx', fs', f, t, n, h1, h2, h3, h4, h5, h6, h7⟩, k⟩ := hh
  exact ⟨⟨dx', fs', f, t, n, b _ _ ne h1, h2, h3, h4, sqT_but h5 b ha, sqT_but h6 b ha, sqT_but h7 b ha⟩, k⟩
def spFInit (K : PySem.W.Frag) (CF C CB : Addr) : Sp := fun vs H Q E => ∃ a dx h x fo th, vs = [.ref a, .ref h, x] ∧ H a = some (.ins CF dx []) ∧ h ≠ a ∧ Hou H K C h fo th ∧ (fo ++ th).Nodup ∧ (fo ++ th).length < sizeLine ∧ (∀ z, z ∈ fo ++ th → PyData.strOk z = true) ∧
  ((∃ i : Nat, Passed K H fo th x (some i) ∧ ∀ d H', Ext H H' → H d = none → H' d = some (.xd [(("index" : Str), V.int (i : Nat))]) → E (.ref CB) (some d) H') ∨
  (∃ p xs rs, x = .ref p ∧ SeqAt2 K H p xs ∧ Raws K H xs rs ∧ FactR fo th rs ∧ rs.length < 1000 ∧ ∀ H', But H H' a → FacAt H' K CF C a fo th (onceR (rs.map (toldR (fo ++ th)))) → Q .non H'))
theorem raws_facts {K : PySem.W.Frag} {H : Hp} {fo th : List Str} {xs : List V} {rs : List (List Str)} (h : Raws K H xs rs) (fr : FactR fo th rs) : FactsOf K H fo th xs (List.replicate xs.length true) := ⟨by rw [List.length_replicate], fun i x hx => by
  obtain ⟨t, r, rfl, hr, sq⟩ := h.2 i x hx
  obtain ⟨w, a, b, rfl, isf⟩ := fr r (List.mem_of_getElem? hr)
  exact ⟨true, by rw [List.getElem?_replicate, if_pos (List.getElem?_eq_some_iff.mp hx).1], .inr (.inr ⟨t, _, _, _, rfl, sq, .inl rfl, .inl rfl, .inl rfl, (is_fact isf).symm⟩)⟩⟩
theorem raws_passed {K : PySem.W.Frag} {H : Hp} {fo th : List Str} {p : Addr} {xs : List V} {rs : List (List Str)} (sq : SeqAt2 K H p xs) (h : Raws K H xs rs) (fr : FactR fo th rs) : Passed K H fo th (.ref p) none :=
  .inr ⟨p, xs, _, rfl, sq, raws_facts h fr, (first_none fun i hi => by rw [List.length_replicate] at hi; rw [List.getElem?_replicate, if_pos hi]).symm⟩
def spTold (K : PySem.W.Frag) (CF C : Addr) : Sp := fun vs H Q _ => ∃ a fo th rows, vs = [.ref a] ∧ FacAt H K CF C a fo th rows ∧ ∀ l ys H', Ext H H' → H l = none → H' l = some (.lst ys) → Rows K H' ys rows → Q (.ref l) H'
def spFLen (K : PySem.W.Frag) (CF C : Addr) : Sp := fun vs H Q _ => ∃ a fo th rows, vs = [.ref a] ∧ FacAt H K CF C a fo th rows ∧ Q (.int (rows.length : Nat)) H
def spFEq (K : PySem.W.Frag) (CF C : Addr) : Sp := fun vs H Q _ => ∃ a fo th rows y, vs = [.ref a, y] ∧ FacAt H K CF C a fo th rows ∧ ((∃ t, TyX K H y t ∧ PySem.W.kitOne K t (.ref CF) = some false ∧ Q (.bl false) H) ∨
  ∃ b fo2 th2 rows2, y = .ref b ∧ FacAt H K CF C b fo2 th2 rows2 ∧ ∀ H', Ext H H' → Q (.bl (decide (fo = fo2) && (decide (th = th2) && decide (rows = rows2)))) H')
/-- whether a thing is one of the facts -/
def spFHas (K : PySem.W.Frag) (CF C : Addr) : Sp := fun vs H Q _ => ∃ a fo th rows y, vs = [.ref a, y] ∧ FacAt H K CF C a fo th rows ∧ (fo ++ th).Nodup ∧ (fo ++ th).length < sizeLine ∧ (∀ z, z ∈ fo ++ th → PyData.strOk z = true) ∧
  ((FactOf K H fo th y false ∧ ∀ H', Ext H H' → Q (.bl false) H') ∨ ∃ r w c d, y = .ref r ∧ SeqAt2 K H r [.str w, .str c, .str d] ∧ IsF fo th w c d ∧ ∀ H', Ext H H' → Q (.bl (decide (toldS (fo ++ th) w c d ∈ rows))) H')
abbrev nm_Facts_init : List Str := ["self", "house", "facts", "at"]
theorem sc_Facts_init : FnScope nm_Facts_init ["self", "house", "facts"] (defScope s_Facts_init) := ⟨rfl, rfl, rfl, by decide +kernel, rfl, by decide +kernel, by decide +kernel⟩
abbrev nm_Facts_told : List Str := ["self"]
theorem sc_Facts_told : FnScope nm_Facts_told ["self"] (defScope s_Facts_told) := ⟨rfl, rfl, rfl, by decide +kernel, rfl, by decide +kernel, by decide +kernel⟩
abbrev nm_Facts_len : List Str := ["self"]
theorem sc_Facts_len : FnScope nm_Facts_len ["self"] (defScope s_Facts_len) := ⟨rfl, rfl, rfl, by decide +kernel, rfl, by decide +kernel, by decide +kernel⟩
abbrev nm_Facts_contains : List Str := ["self", "x"]
theorem sc_Facts_contains : FnScope nm_Facts_contains ["self", "x"] (defScope s_Facts_contains) := ⟨rfl, rfl, rfl, by decide +kernel, rfl, by decide +kernel, by decide +kernel⟩
abbrev nm_Facts_iter : List Str := ["self"]
theorem sc_Facts_iter : FnScope nm_Facts_iter ["self"] (defScope s_Facts_iter) := ⟨rfl, rfl, rfl, by decide +kernel, rfl, by decide +kernel, by decide +kernel⟩
abbrev nm_Facts_eq : List Str := ["self", "other"]
theorem sc_Facts_eq : FnScope nm_Facts_eq ["self", "other"] (defScope s_Facts_eq) := ⟨rfl, rfl, rfl, by decide +kernel, rfl, by decide +kernel, by decide +kernel⟩
section
variable {P : Program} {w : World} {K : PySem.W.Frag} {mg : Str → Option Value} {base : Heap} {f C CB CF CBH : Addr} {fd : FuncData} {dvs : List V}
theorem ok_fInit (Fn : FunD K "__init__" "Facts.__init__" (defArgs s_Facts_init) (defBody s_Facts_init) (defScope s_Facts_init) dvs [] f fd) (T : FacC K CF) (hwrong_fact : Has P w K mg base 6 "wrong_fact" ["house", "facts"] (spWrongFact K C)) (heach_once : Has P w K mg base 2 "each_once" ["house", "facts"] (spEachOnce K C)) (EB : Er P w K mg base "BadFact" "index" CB) :
    FnOk P w K mg base (L2.CX P w) 7 f fd ["self", "house", "facts"] (spFInit K CF C CB) := by
  obtain ⟨fI, fdI, TB, FB, bB, _⟩ := EB
  refine Fn.ok sc_Facts_init (fun vs H Q E h => ?_) (fun cdv A outer s H vs Q E hr h => ⟨_,
    (pss_cons (ps_set (i := 3) sc_Facts_init.nd rfl (Or.inl rfl) (pe_has hwrong_fact (hr.mono (by decide)) (pa_cons (pv 1) (pa_cons (pv 2) pa_nil))))
      (pss_cons (ps_if (pt_cmpR op_notN (pv 3) pe_non (nomark _)) (pss_one (ps_raise rfl (takes_of rfl rfl rfl rfl) (pmk_oex TB.oex TB.iC TB.tI FB (hr.mono (by decide)) bB .nil pass0 (by rfl) TB.gl (pa_cons (pv 3) pa_nil)))) pss_nil)
      (pss_cons (ps_fld (pv 0) (pv 1) rfl)
      (pss_one (ps_fld (pv 0) (pe_has heach_once (hr.mono (by decide)) (pa_cons (pv 1) (pa_cons (pv 2) pa_nil))) rfl))))), ?_⟩)
  · obtain ⟨a, dx, h, x, fo, th, rfl, _⟩ := h
    rfl
  · obtain ⟨a, dx, h, x, fo, th, rfl, ha, nha, hou, nd, hz, zok, hh⟩ := h
    rcases hh with ⟨i, pa, qE⟩ | ⟨p, xs, rs, rfl, sq, raw, fr, len, qN⟩
    · refine ⟨_, rfl, _, rfl, h, x, fo, th, some i, rfl, hou, pa, fun H1 x1 => ?_⟩
      refine ⟨_, rfl, rfl, _, rfl, ?_⟩
      refine iteT ?_
      refine ⟨_, rfl, Nat.le_of_ble_eq_true rfl, fun e he => ?_⟩
      refine ⟨e, _, rfl, upd_same, fun d hd ne => ⟨rfl, d, [("index", optV (some i))], upd_same, ?_, ?_, ?_⟩⟩
      · rw [upd_ne ne, upd_same]
      · rw [upd_ne ne] at hd
        exact hd
      · rw [upd_ne ne] at hd
        refine qE d _ (fun b u k => ?_) ?_ upd_same
        · have k1 := x1 b u k
          rw [upd_ne (ne_of_none k1 hd), del_ne (ne_of_none k1 he), upd_ne (ne_of_none k1 he), upd_ne (ne_of_none k1 hd), upd_ne (ne_of_none k1 he)]
          exact k1
        · exact ext_none x1 hd
    · refine ⟨_, rfl, _, rfl, h, _, fo, th, none, rfl, hou, raws_passed sq raw fr, fun H1 x1 => ?_⟩
      refine ⟨_, rfl, rfl, _, rfl, ?_⟩
      refine iteF ?_
      refine ⟨_, rfl, _, rfl, a, CF, dx, _, rfl, x1 _ _ ha, T.cl, T.nh, Nat.le_of_ble_eq_true rfl, ?_⟩
      obtain ⟨H2, hH2⟩ : ∃ H2, H2 = L2.upd H1 a (.ins CF dx (putF "house" (.ref h) [])) := ⟨_, rfl⟩
      rw [← hH2]
      have a2 : H2 a = some (.ins CF dx (putF "house" (.ref h) [])) := by rw [hH2, upd_same]
      have b2 : But H1 H2 a := by
        rw [hH2]
        exact But.upd (ext_but Ext.rfl')
      have a1 := x1 _ _ ha
      have hou2 := hou_but (hou.ext x1) b2 a1 nha
      refine ⟨_, rfl, _, rfl, h, p, fo, th, xs, rs, rfl, hou2, nd, hz, zok, seq_but (sq.ext x1) b2 a1, (raw.ext x1).but b2 a1, fr, len, fun t ys H3 x3 st r3 => ?_⟩
      refine ⟨_, rfl, a, CF, dx, _, rfl, x3 _ _ a2, T.cl, T.nr, Nat.le_of_ble_eq_true rfl, ?_⟩
      obtain ⟨H4, hH4⟩ : ∃ H4, H4 = L2.upd H3 a (.ins CF dx (putF "rows" (.ref t) (putF "house" (.ref h) []))) := ⟨_, rfl⟩
      rw [← hH4]
      have a4 : H4 a = some (.ins CF dx (putF "rows" (.ref t) (putF "house" (.ref h) []))) := by rw [hH4, upd_same]
      have b4 : But H3 H4 a := by
        rw [hH4]
        exact But.upd (ext_but Ext.rfl')
      have a3 := x3 _ _ a2
      have tok := told_ok nd fr
      refine qN H4 (((ext_but x1).trans b2).trans ((ext_but x3).trans b4)) ⟨dx, _, h, t, ys, a4, rfl, rfl, hou_but (hou2.ext x3) b4 a3 nha, sqT_but st b4 a3, r3.but b4 a3, fun r hr z hz => ?_, fun m hm => by
        unfold facM at hm
        simp at hm
        rcases hm with rfl | rfl <;> rfl⟩
      obtain ⟨w, a, b, rfl, h1, h2, h3⟩ := tok r (once_mem hr)
      simp at hz
      rcases hz with rfl | rfl | rfl
      · exact wordsOk _ h1
      · exact zok _ h2
      · exact zok _ h3
theorem ok_told (Fn : FunD K "told" "Facts.told" (defArgs s_Facts_told) (defBody s_Facts_told) (defScope s_Facts_told) [] [] f fd) (T : FacC K CF) (gB_list : mg "list" = none) : FnOk P w K mg base CX0 1 f fd ["self"] (spTold K CF C) := by
  refine Fn.ok sc_Facts_told (fun vs H Q E h => ?_) (fun cdv A outer s H vs Q E hr h => ⟨_, PSs.nox
    (pss_one (ps_ret (pe_callTy call_lstS (by rfl) gB_list (by decide +kernel) (pa_cons (pe_fld (pv 0) rfl) pa_nil)))), ?_⟩)
  · obtain ⟨a, fo, th, rows, rfl, _⟩ := h
    rfl
  · obtain ⟨a, fo, th, rows, rfl, ⟨dx, fs, h, r, ys, h1, h2, h3, h4, h5, h6, h7, h8⟩, q⟩ := h
    exact ⟨_, rfl, a, CF, dx, fs, _, rfl, h1, T.cl, T.nr, h3, r, ys, rfl, .inr h5, fun l hl => q l ys _ (Ext.upd hl) hl upd_same (h6.ext (Ext.upd hl))⟩
theorem ok_fLen (Fn : FunD K "__len__" "Facts.__len__" (defArgs s_Facts_len) (defBody s_Facts_len) (defScope s_Facts_len) [] [] f fd) (T : FacC K CF) (gB_len : mg "len" = none) : FnOk P w K mg base CX0 1 f fd ["self"] (spFLen K CF C) := by
  refine Fn.ok sc_Facts_len (fun vs H Q E h => ?_) (fun cdv A outer s H vs Q E hr h => ⟨_, PSs.nox
    (pss_one (ps_ret (pe_callB call_len (by rfl) gB_len boot_len (pa_cons (pe_fld (pv 0) rfl) pa_nil)))), ?_⟩)
  · obtain ⟨a, fo, th, rows, rfl, _⟩ := h
    rfl
  · obtain ⟨a, fo, th, rows, rfl, ⟨dx, fs, h, r, ys, h1, h2, h3, h4, h5, h6, h7, h8⟩, q⟩ := h
    refine ⟨_, rfl, a, CF, dx, fs, _, rfl, h1, T.cl, T.nr, h3, _, _, rfl, .inr ⟨_, h5, rfl⟩, ?_⟩
    rw [h6.len]
    exact q
theorem ok_fIter (Fn : FunD K "__iter__" "Facts.__iter__" (defArgs s_Facts_iter) (defBody s_Facts_iter) (defScope s_Facts_iter) [] [] f fd) (T : FacC K CF) (gI : mg "iter" = none) : FnOk P w K mg base CX0 1 f fd ["self"] (spIter K CF "rows" base.objs.size) := by
  refine Fn.ok sc_Facts_iter (fun vs H Q E h => ?_) (fun cdv A outer s H vs Q E hr h => ⟨_, PSs.nox (pss_one (ps_ret (pe_callB call_iterT (by rfl) gI boot_iter (pa_cons (pe_fld (pv 0) rfl) pa_nil)))), ?_⟩)
  · obtain ⟨a, _, _, _, _, rfl, _⟩ := h
    rfl
  · obtain ⟨a, dx, fs, l, zs, rfl, h1, h2, h3, q⟩ := h
    exact ⟨_, rfl, a, CF, dx, fs, _, rfl, h1, T.cl, T.nr, h2, l, zs, rfl, h3, q⟩
theorem ok_fEq (Fn : FunD K "__eq__" "Facts.__eq__" (defArgs s_Facts_eq) (defBody s_Facts_eq) (defScope s_Facts_eq) [] [] f fd) (T : FacC K CF) (Z : HouseTxt P w K mg C CBH) (gI : mg "isinstance" = none) (gF : mg "Facts" = some (.ref CF)) (kF : PySem.W.kitOne K (.ref CF) (.ref CF) = some true) :
    FnOk P w K mg base CX0 2 f fd ["self", "other"] (spFEq K CF C) := by
  refine Fn.ok sc_Facts_eq (fun vs H Q E h => ?_) (fun cdv A outer s H vs Q E hr h => ⟨_, PSs.nox (pss_one (ps_ret
    (pe_and (pe_callB call_isi (by rfl) gI boot_isinstance (pa_cons (pv 1) (pa_cons (pe_glob (v := .ref CF) (by rfl) gF rfl) pa_nil)))
    (pe_and (pe_cmpR (op_eqO (EI := E0) (hr.mono (by decide)) Z.mE (Z.E _) Z.bE pass0) (pe_fld (pv 0) rfl) (pe_fld (pv 1) rfl) (nomark _))
    (pe_one (pe_cmpR (op_eqD hr.units) (pe_fld (pv 0) rfl) (pe_fld (pv 1) rfl) (nomark _))))))), ?_⟩)
  · obtain ⟨a, _, _, _, _, rfl, _⟩ := h
    rfl
  · obtain ⟨a, fo, th, rows, y, rfl, fa, h⟩ := h
    rcases h with ⟨t, ty, kt, q⟩ | ⟨b, fo2, th2, rows2, rfl, fb, q⟩
    · exact ⟨_, rfl, y, .ref CF, t, .ref CF, false, rfl, .own CF, ty, kt, false, rfl, q⟩
    · refine ⟨_, rfl, .ref b, .ref CF, .ref CF, .ref CF, true, rfl, .own CF, tyF T fb, kF, true, rfl, ?_⟩
      refine iteT ?_
      obtain ⟨dx, fs, h, r, ys, h1, h2, h3, h4, h5, h6, h7, h8⟩ := fa
      obtain ⟨dx', fs', h', r', ys', g1, g2, g3, g4, g5, g6, g7, g8⟩ := fb
      obtain ⟨hx, hfs, hins⟩ := h4.ins
      refine ⟨_, rfl, a, CF, dx, fs, _, rfl, h1, T.cl, T.nh, h2, _, rfl, b, CF, dx', fs', _, rfl, g1, T.cl, T.nh, g2, h, hx, hfs, .ref C, rfl, hins, tyH Z.T g4, by simp [PySem.W.notFirst], h, fo, th, _, rfl, h4, .inr ⟨h', fo2, th2, rfl, g4, _, rfl, _, rfl, ?_⟩⟩
      refine ite2 (fun e => ?_) fun e => ?_
      · obtain ⟨e1, e2⟩ := Bool.and_eq_true_iff.mp e
        refine ⟨_, rfl, a, CF, dx, fs, _, rfl, h1, T.cl, T.nr, h3, _, rfl, b, CF, dx', fs', _, rfl, g1, T.cl, T.nr, g3, rowsT rows, rowsT rows2, .tup h5 (rows_dp h6), .tup g5 (rows_dp g6), rowsT_shaped h7, rowsT_shaped g7, ?_⟩
        rw [eqv_rowsT]
        have z := q H Ext.rfl'
        rw [e1, e2, Bool.true_and, Bool.true_and] at z
        exact z
      · have z := q H Ext.rfl'
        have e' : (decide (fo = fo2) && (decide (th = th2) && decide (rows = rows2))) = false := by
          have e2 : (decide (fo = fo2) && decide (th = th2)) = false := by
            cases hh : (decide (fo = fo2) && decide (th = th2)) with
            | false => rfl
            | true => exact absurd hh e
          rw [← Bool.and_assoc, e2, Bool.false_and]
        rw [e'] at z
        have e3 : (decide (fo = fo2) && decide (th = th2)) = false := by
          cases hh : (decide (fo = fo2) && decide (th = th2)) with
          | false => rfl
          | true => exact absurd hh e
        exact z
theorem ok_fHas (Fn : FunD K "__contains__" "Facts.__contains__" (defArgs s_Facts_contains) (defBody s_Facts_contains) (defScope s_Facts_contains) [] [] f fd) (T : FacC K CF) (his_fact : Has P w K mg base 5 "is_fact" ["house", "thing"] (spIsFact K C)) (has_told : Has P w K mg base 1 "as_told" ["house", "fact"] (spAsTold K C)) :
    FnOk P w K mg base CX0 6 f fd ["self", "x"] (spFHas K CF C) := by
  refine Fn.ok sc_Facts_contains (fun vs H Q E h => ?_) (fun cdv A outer s H vs Q E hr h => ⟨_, PSs.nox (pss_one (ps_ret
    (pe_and (pe_has his_fact (hr.mono (by decide)) (pa_cons (pe_fld (pv 0) rfl) (pa_cons (pv 1) pa_nil)))
    (pe_one (pe_cmpR (op_inDT (u65 hr)) (pe_has has_told (hr.mono (by decide)) (pa_cons (pe_fld (pv 0) rfl) (pa_cons (pv 1) pa_nil))) (pe_fld (pv 0) rfl) (by rfl)))))), ?_⟩)
  · obtain ⟨a, _, _, _, _, rfl, _⟩ := h
    rfl
  · obtain ⟨a, fo, th, rows, y, rfl, ⟨dx, fs, h, r, ys, h1, h2, h3, h4, h5, h6, h7, h8⟩, nd, hz, zok, hh⟩ := h
    rcases hh with ⟨fx, q⟩ | ⟨rr, wd, c, d, rfl, sq, isf, q⟩
    · exact ⟨_, rfl, a, CF, dx, fs, _, rfl, h1, T.cl, T.nh, h2, _, rfl, h, y, fo, th, false, rfl, h4, fx, fun H1 x1 => ⟨false, rfl, q H1 x1⟩⟩
    · refine ⟨_, rfl, a, CF, dx, fs, _, rfl, h1, T.cl, T.nh, h2, _, rfl, h, _, fo, th, true, rfl, h4, .inr (.inr ⟨rr, _, _, _, rfl, sq, .inl rfl, .inl rfl, .inl rfl, (is_fact isf).symm⟩), fun H1 x1 => ⟨true, rfl, ?_⟩⟩
      refine iteT ?_
      refine ⟨_, rfl, a, CF, dx, fs, _, rfl, x1 _ _ h1, T.cl, T.nh, h2, _, rfl, h, rr, fo, th, wd, c, d, rfl, h4.ext x1, nd, hz, isf, sq.ext x1, fun t H2 x2 ht => ?_⟩
      obtain ⟨e1, e2, et, hcd⟩ := told_three nd isf
      have okt : OkS (toldS (fo ++ th) wd c d) := fun z hz' => by
        rw [et] at hz'
        simp at hz'
        rcases hz' with rfl | rfl | rfl
        · exact wordsOk _ isf.1
        · rcases hcd with ⟨rfl, _⟩ | ⟨_, rfl, _⟩
          · exact zok _ isf.2.1
          · exact zok _ isf.2.2.1
        · rcases hcd with ⟨_, rfl⟩ | ⟨_, _, rfl⟩
          · exact zok _ isf.2.2.1
          · exact zok _ isf.2.1
      refine ⟨_, rfl, a, CF, dx, fs, _, rfl, (x1.trans x2) _ _ h1, T.cl, T.nr, h3, .tuple ((toldS (fo ++ th) wd c d).map PyData.str), _, .tup (SqT.of ht) (dpAll_str _), .tup (h5.ext (x1.trans x2)) (rows_dp (h6.ext (x1.trans x2))), shaped_strT _ okt, rowsT_shaped h7, ?_⟩
      rw [any_rows]
      exact q H2 (x1.trans x2)
end
end My

namespace My
open PySem PySem.Spec PyProof.Rows L2
abbrev nNames : List Str := ["_law_pool_here", "_law_many", "_law_found", "_law_k", "_law_size", "_law_word", "_law_spare", "_law_j", "_law_letter", "_law_each"]
theorem scNames : FnScope nNames ["_law_pool_here", "_law_many"] (defScope sNames) := ⟨rfl, rfl, rfl, by decide +kernel, rfl, by decide +kernel, by decide +kernel⟩
def spNames (K : PySem.W.Frag) : Sp := fun vs H Q _ => ∃ (p : Addr) (m : Nat) (n : Int), vs = [.ref p, .int (m : Int)] ∧ m ≤ 12 ∧ Pool H p n ∧ n < 1000000 ∧
  ∀ l zs H', But H H' p → Pool H' p (n + 9 * m) → H' l = some (.lst (zs.map V.str)) → H l = none → zs.length = m → Nms zs → Q (.ref l) H'
section
variable {P : Program} {w : World} {K : PySem.W.Frag} {mg : Str → Option Value} {base : Heap} {f fT : Addr} {fd fdT : FuncData}
theorem ok_names (Fn : FnP K "_law_names" sNames f fd) (FT : FnOk P w K mg base CX0 1 fT fdT ["_law_pool_here", "_law_many"] spTake) (gT : mg "_law_take" = some (.ref fT)) (kT : PySem.W.keepIn K (.ref fT) = true) (bT : Binds K fdT ["_law_pool_here", "_law_many"] []) (gR : mg "range" = none) :
    FnOk P w K mg base CX0 2 f fd ["_law_pool_here", "_law_many"] (spNames K) := by
  refine Fn.ok scNames (fun vs H Q E h => ?_) (fun cdv A outer s H vs Q E hr h => ⟨_, PSs.nox
    (pss_cons (ps_set (i := 2) scNames.nd rfl (.inr rfl) (pe_lst pa_nil))
    (pss_cons (ps_for PassesOwn.never rfl (pi_range1 (by rfl) gR (pa_cons (pv 1) pa_nil)) (pg_name (i := 3) scNames.nd rfl (Or.inl rfl))
      (pss_cons (ps_set (i := 4) scNames.nd rfl (.inl rfl) (pe_ix ix_list (pe_lst (pa_cons pe_int (pa_cons pe_int (pa_cons pe_int (pa_cons pe_int (pa_cons pe_int pa_nil)))))) (pe_call FT hr (by rfl) gT kT bT .nil pass0 (pa_cons (pv 0) (pa_cons pe_int pa_nil))) (fun _ _ => rfl)))
      (pss_cons (ps_set (i := 5) scNames.nd rfl (.inl rfl) (pe_bm PySem.F.plainAttrs_str PySem.F.slot_str_join PySem.F.type_str_join mt_join pe_str (pa_cons (pe_lc (own := [("_law_j", 7)]) (g := gName 7) (tt := tYes) rfl scNames.nd (pi_range1 (by rfl) gR (pa_cons (pv 4) pa_nil)) (blkOk_by (N := nNames) (sc := defScope sNames) (by decide +kernel))
          (fun _ _ _ _ _ => pg_name (i := 7) scNames.nd rfl (Or.inl rfl)) (fun _ _ _ _ _ => pts_nil) (fun _ _ _ _ _ => pe_ix ix_str pe_str (pe_call FT (hr.mono (by decide)) (by rfl) gT kT bT .nil pass0 (pa_cons (pv 0) (pa_cons pe_int pa_nil))) (fun _ _ => rfl))) pa_nil)))
      (pss_cons (ps_set (i := 6) scNames.nd rfl (.inl rfl) (pe_op L2.op_cat (pe_lst (pa_cons (pv 5) pa_nil)) (pe_lc (own := [("_law_letter", 8)]) (g := gName 8) (tt := tYes) rfl scNames.nd (pi_str pe_str) (blkOk_by (N := nNames) (sc := defScope sNames) (by decide +kernel))
          (fun _ _ _ _ _ => pg_name (i := 8) scNames.nd rfl (Or.inl rfl)) (fun _ _ _ _ _ => pts_nil) (fun _ _ _ _ _ => pe_op op_add_str (pe_op op_add_str pe_str (pv 8)) pe_str))))
      (pss_one (ps_expr (pe_bm PySem.F.plainAttrs_list PySem.F.slot_list_append PySem.F.type_list_append mt_append (pv 2) (pa_cons (pe_ix ix_list (pe_lc (own := [("_law_each", 9)]) (g := gName 9) (tt := tTest (tOp (rIn K true) (tVar 9) (tVar 2))) rfl scNames.nd (pi_list (pv 6)) (blkOk_by (N := nNames) (sc := defScope sNames) (by decide +kernel))
          (fun _ _ _ _ _ => pg_name (i := 9) scNames.nd rfl (Or.inl rfl)) (fun _ _ _ _ _ => pts_one (pt_cmpR op_notIn_seq (pv 9) (pv 2) (by rfl))) (fun _ _ _ _ _ => pv 9)) pe_int (fun _ _ => rfl)) pa_nil))))))))
    (pss_one (ps_ret (pv 2))))), ?_⟩)
  · obtain ⟨p, m, n, rfl, _⟩ := h
    rfl
  · obtain ⟨p, m, n, rfl, hm, hp, hn, q⟩ := h
    refine ⟨Nat.zero_le _, fun l hl => ?_⟩
    refine ⟨_, rfl, (m : Int), rfl, Int.le_trans (by decide) (Int.natCast_nonneg m), Int.lt_of_le_of_lt (Int.ofNat_le.mpr hm) (by decide), for_range (lo := 0) (n := m) (fun k σ H' => ∃ v3 v4 v5 v6 zs, σ = [some (.ref p), some (.int (m : Int)), some (.ref l), v3, v4, v5, v6, none, none, none] ∧ But H H' p ∧ Pool H' p (n + 9 * k) ∧ H' l = some (.lst (zs.map V.str)) ∧ zs.length = k ∧ Nms zs) ?_ ?_ ?_⟩
    · exact ⟨none, none, none, none, [], rfl, fun b u _ e => by rw [upd_ne (ne_of_none e hl)]; exact e, by
        obtain ⟨g, mm, c, h1, h2⟩ := hp
        refine ⟨g, mm, c, by rw [upd_ne (ne_of_none h1 hl)]; exact h1, ?_⟩
        rw [show n + 9 * ((0 : Nat) : Int) = n by omega]
        exact h2, upd_same, rfl, List.nodup_nil, fun z hz => by cases hz⟩
    · rintro k σ H1 hk ⟨v3, v4, v5, v6, zs, rfl, b1, p1, l1, len1, ns1⟩
      refine ⟨Nat.le_of_ble_eq_true rfl, fun l2 hl2 => ?_⟩
      have lp : l ≠ p := pool_ne hp hl
      obtain ⟨Ha, hHa⟩ : ∃ Ha, Ha = L2.upd H1 l2 (.lst [.int 1, .int 1, .int 2, .int 3, .int 8]) := ⟨_, rfl⟩
      rw [← hHa]
      have xa : Ext H1 Ha := by
        rw [hHa]
        exact Ext.upd hl2
      have l2a : Ha l2 = some (.lst [.int 1, .int 1, .int 2, .int 3, .int 8]) := by rw [hHa, upd_same]
      have l2p : l2 ≠ p := pool_ne p1 hl2
      refine ⟨_, rfl, p, 5, _, rfl, by decide, by decide, pool_ext p1 xa, by omega, fun r o r0 r1 gp => ?_⟩
      obtain ⟨Hb, hHb⟩ : ∃ Hb, Hb = L2.upd Ha p o := ⟨_, rfl⟩
      rw [← hHb] at gp
      rw [← hHb]
      have bb : But Ha Hb p := by
        rw [hHb]
        exact But.upd (ext_but Ext.rfl')
      have lb : Hb l = some (.lst (zs.map V.str)) := bb _ _ lp (xa _ _ l1)
      obtain ⟨j, rfl⟩ := Int.eq_ofNat_of_zero_le r0
      have hj : j < 5 := by omega
      obtain ⟨sz, hsz, hin⟩ : ∃ sz : Nat, ([.int 1, .int 1, .int 2, .int 3, .int 8] : List V)[j]? = some (.int (sz : Int)) ∧ sz ∈ [1, 1, 2, 3, 8] := by
        match j, hj with
        | 0, _ => exact ⟨1, rfl, by decide⟩
        | 1, _ => exact ⟨1, rfl, by decide⟩
        | 2, _ => exact ⟨2, rfl, by decide⟩
        | 3, _ => exact ⟨3, rfl, by decide⟩
        | 4, _ => exact ⟨8, rfl, by decide⟩
      have hsz8 : sz ≤ 8 := by
        simp only [List.mem_cons, List.not_mem_nil, or_false] at hin
        omega
      refine ⟨l2, _, _, _, rfl, rfl, SqL.of (bb _ _ l2p l2a), atI_nat hsz, ?_⟩
      refine ⟨rfl, _, rfl, (sz : Int), rfl, Int.le_trans (by decide) (Int.natCast_nonneg sz), Int.lt_of_le_of_lt (Int.ofNat_le.mpr hsz8) (by decide), fun D hD => lc_it (walk_range (lo := 0) (n := sz))
        (fun i H' => But Hb H' p ∧ Pool H' p (n + 9 * k + 1 + i) ∧ ∃ cs : List Nat, cs.length = i ∧ (∀ c, c ∈ cs → c ∈ az.cps.toList) ∧ H' D = some (.lst (cs.map fun c => V.str ⟨#[c]⟩)))
        ⟨ext_but (Ext.upd hD), pool_ext (by rw [show n + 9 * (k : Int) + 1 + ((0 : Nat) : Int) = n + 9 * k + 1 by omega]; exact gp) (Ext.upd hD), [], rfl, (fun c hc => by cases hc), upd_same⟩ (fun _ _ _ _ => True.intro) ?_ ?_⟩
      · rintro i x H2 H3 hi ⟨b2, p2, cs, hcs, hall, ld⟩ ⟨rfl, rfl⟩
        refine ⟨rfl, ?_⟩
        refine lcYes ?_
        have Dp : D ≠ p := pool_ne gp hD
        refine ⟨_, rfl, p, 25, _, rfl, by decide, by decide, p2, by omega, fun r o r0 r1 gp => ?_⟩
        obtain ⟨c1, rfl⟩ := Int.eq_ofNat_of_zero_le r0
        have hc1 : c1 < az.cps.toList.length := by
          rw [show az.cps.toList.length = 25 by decide +kernel]
          omega
        refine ⟨az, _, az.cps.toList[c1], rfl, rfl, Nat.le_of_ble_eq_true (by decide +kernel), atI_nat (List.getElem?_eq_getElem hc1), cs.map (fun c => V.str ⟨#[c]⟩), ?_, ?_, ?_⟩
        · rw [upd_ne Dp]
          exact ld
        · rw [List.length_map, hcs, sizeLine_eq]
          omega
        · refine ⟨?_, ?_, cs ++ [az.cps.toList[c1]], by rw [List.length_append, hcs]; rfl, fun c hc => ?_, by rw [upd_same, List.map_append]; rfl⟩
          · intro b u hb hu
            rw [upd_ne (ne_of_none hu hD), upd_ne hb]
            exact b2 b u hb hu
          · refine pool_at (n := n + 9 * k + 1 + ((i + 1 : Nat) : Int)) (H := L2.upd H3 p o) ?_ (upd_ne (Ne.symm Dp))
            rw [show n + 9 * (k : Int) + 1 + ((i + 1 : Nat) : Int) = n + 9 * k + 1 + (i : Int) + 1 by omega]
            exact gp
          · rcases List.mem_append.mp hc with hc | hc
            · exact hall c hc
            · rw [List.mem_singleton.mp hc]
              exact List.getElem_mem hc1
      rintro H4 ⟨b4, p4, cs, hcs, hall, ld⟩
      have l4 : H4 l = some (.lst (zs.map V.str)) := b4 _ _ lp lb
      refine ⟨_, D, cs.map fun c => (⟨#[c]⟩ : Str), rfl, rfl, .inl (SqL.of (by rw [ld, List.map_map]; rfl)), by rw [sum_one, hcs]; show sz + _ * 0 ≤ _; omega, ?_⟩
      have hw : Nm (Txt.join "" (cs.map fun c => (⟨#[c]⟩ : Str))) := word_nm (join_one cs) hall (by rw [hcs]; exact hin)
      obtain ⟨wd, hwd⟩ : ∃ wd, wd = Txt.join "" (cs.map fun c => (⟨#[c]⟩ : Str)) := ⟨_, rfl⟩
      rw [← hwd] at hw
      rw [← hwd]
      have lD : H4 D = some (.lst (cs.map fun c => V.str ⟨#[c]⟩)) := ld
      refine ⟨_, rfl, Nat.le_of_ble_eq_true rfl, fun l5 hl5 => ?_⟩
      obtain ⟨H5, hH5⟩ : ∃ H5, H5 = L2.upd H4 l5 (.lst [.str wd]) := ⟨_, rfl⟩
      rw [← hH5]
      have x5 : Ext H4 H5 := by
        rw [hH5]
        exact Ext.upd hl5
      have l55 : H5 l5 = some (.lst [.str wd]) := by rw [hH5, upd_same]
      refine ⟨ap, rfl, fun D2 hD2 => lc_it (walk_str (z := ap)) (fun i H' => Ext H5 H' ∧ H' D2 = some (.lst ((spares.take i).map V.str))) ⟨Ext.upd hD2, upd_same⟩ (fun _ _ _ _ => True.intro) ?_ ?_⟩
      · rintro i x H6 H7 hi ⟨x6, l6⟩ ⟨rfl, c, hc, rfl⟩
        refine ⟨rfl, ?_⟩
        refine lcYes ?_
        refine ⟨_, rfl, _, _, rfl, rfl, Nat.le_of_ble_eq_true rfl, _, _, rfl, rfl, Nat.le_of_ble_eq_true rfl, _, l6, ?_, ?_⟩
        · rw [List.length_map, List.length_take]
          exact Nat.lt_of_le_of_lt (Nat.min_le_right _ _) (by rw [spares_len]; exact Nat.le_of_ble_eq_true rfl)
        · refine ⟨x6.over hD2, ?_⟩
          have e : spares[i]? = some (("z" : Str) ++ (⟨#[c]⟩ : Str) ++ ("q" : Str)) := by
            unfold spares
            rw [List.getElem?_map, Array.getElem?_toList, hc]
            rfl
          rw [upd_same, List.take_add_one, e, List.map_append]
          rfl
      rintro H6 ⟨x6, l6⟩
      have etk : spares.take ap.cps.size = spares := List.take_of_length_le (by rw [spares_len]; decide +kernel)
      rw [etk] at l6
      refine ⟨l5, D2, _, _, rfl, rfl, x6 _ _ l55, l6, by rw [List.length_map, spares_len]; exact Nat.le_of_ble_eq_true rfl, fun l7 hl7 => ?_⟩
      obtain ⟨H7, hH7⟩ : ∃ H7, H7 = L2.upd H6 l7 (.lst ([V.str wd] ++ spares.map V.str)) := ⟨_, rfl⟩
      rw [← hH7]
      have x7 : Ext H6 H7 := by
        rw [hH7]
        exact Ext.upd hl7
      have l77 : H7 l7 = some (.lst ((wd :: spares).map V.str)) := by rw [hH7, upd_same]; rfl
      have x47 : Ext H4 H7 := (x5.trans x6).trans x7
      have l17 : H7 l = some (.lst (zs.map V.str)) := x47 _ _ l4
      have fz : (zs.map V.str).all flatV = true := by rw [List.all_map]; exact List.all_eq_true.mpr fun _ _ => rfl
      refine ⟨_, rfl, .inl ⟨rfl, _, SqL.of l17⟩, ?_⟩
      refine ⟨_, rfl, l7, rfl, ⟨_, SqL.of l77⟩, fun D3 hD3 => lc_it (walk_list (xs := (wd :: spares).map V.str)) (fun i H' => Ext H7 H' ∧ H' D3 = some (.lst ((((wd :: spares).take i).filter fun z => !decide (z ∈ zs)).map V.str)))
        ⟨Ext.upd hD3, upd_same⟩ (fun i H' _ z => SqL.of (z.1 _ _ l77)) ?_ ?_⟩
      · rintro i x H8 H9 hi ⟨x8, l8⟩ ⟨rfl, hx⟩
        obtain ⟨z, hz, rfl⟩ : ∃ z, (wd :: spares)[i]? = some z ∧ x = V.str z := by
          rw [List.getElem?_map] at hx
          cases e : (wd :: spares)[i]? with
          | none =>
            rw [e] at hx
            cases hx
          | some z =>
            rw [e] at hx
            exact ⟨z, rfl, (Option.some.inj hx).symm⟩
        have l18 := x8 _ _ l17
        refine ⟨rfl, ?_⟩
        refine ⟨_, rfl, _, rfl, l, _, rfl, .inl (SqL.of l18), rfl, fz, _, rfl, ?_⟩
        rw [if_pos rfl, inV_str]
        have tk : (wd :: spares).take (i + 1) = (wd :: spares).take i ++ [z] := by rw [List.take_add_one, hz]; rfl
        by_cases hin2 : z ∈ zs
        · rw [decide_eq_true hin2]
          refine iteF ?_
          refine ⟨x8, ?_⟩
          have ef : [z].filter (fun z => !decide (z ∈ zs)) = [] := by simp [hin2]
          rw [tk, List.filter_append, ef, List.append_nil]
          exact l8
        · rw [decide_eq_false hin2]
          refine iteT ?_
          refine ⟨_, rfl, _, l8, ?_, x8.over hD3, ?_⟩
          · rw [List.length_map]
            refine Nat.lt_of_le_of_lt (List.length_filter_le _ _) ?_
            rw [List.length_take]
            refine Nat.lt_of_le_of_lt (Nat.min_le_right _ _) ?_
            rw [List.length_cons, spares_len]
            exact Nat.le_of_ble_eq_true rfl
          · have ef : [z].filter (fun z => !decide (z ∈ zs)) = [z] := by simp [hin2]
            rw [upd_same, tk, List.filter_append, ef, List.map_append]
            rfl
      rintro H8 ⟨x8, l8⟩
      rw [List.length_map, List.take_length] at l8
      obtain ⟨z, r, hzr⟩ := fresh_ne (w := wd) (zs := zs) (by omega)
      obtain ⟨hz1, hz2⟩ := fresh_mem hzr hw
      have l8' : H8 D3 = some (.lst ((z :: r).map V.str)) := by rw [← hzr]; exact l8
      have l18 := x8 _ _ l17
      refine ⟨D3, _, ((0 : Nat) : Int), .str z, rfl, rfl, SqL.of l8', atI_nat rfl, ?_⟩
      refine ⟨l, _, _, rfl, rfl, l18, by rw [List.length_map, len1, sizeLine_eq]; omega, ?_⟩
      have x48 : Ext H4 H8 := x47.trans x8
      refine ⟨_, _, _, _, zs ++ [z], rfl, ?_, ?_, by rw [upd_same, List.map_append]; rfl, by rw [List.length_append, len1]; rfl, ?_, ?_⟩
      · intro b u hb hu
        rw [upd_ne (ne_of_none hu hl)]
        exact (((b1.ext xa).trans bb).trans b4).ext x48 b u hb hu
      · refine pool_at (H := H8) ?_ (upd_ne (Ne.symm lp))
        obtain ⟨g, mm, c, h1, h2, h3, h4, h5, h6⟩ := pool_ext p4 x48
        exact ⟨g, mm, c, h1, h2, h3, h4, h5, by omega⟩
      · rw [List.nodup_append]
        refine ⟨ns1.1, by simp, fun a ha b hb e => ?_⟩
        rw [List.mem_singleton.mp hb] at e
        rw [e] at ha
        exact hz2 ha
      · intro y hy
        rcases List.mem_append.mp hy with hy | hy
        · exact ns1.2 y hy
        · rw [List.mem_singleton.mp hy]
          exact hz1
    · rintro σ H1 ⟨v3, v4, v5, v6, zs, rfl, b1, p1, l1, len1, ns1⟩
      exact ⟨_, rfl, q l zs H1 b1 p1 l1 hl len1 ns1⟩
end
end My

namespace My
open PySem PySem.Spec PyProof.Rows L2
theorem scHouse : FnScope ["_law_pool_here", "_law_most", "_law_more", "_law_many", "_law_few", "_law_words"] ["_law_pool_here", "_law_most", "_law_more"] (defScope sHouse) := ⟨rfl, rfl, rfl, by decide +kernel, rfl, by decide +kernel, by decide +kernel⟩
def spHouse : Sp := fun vs H Q _ => ∃ (p : Addr) (n : Int) (mo mr : Nat), vs = [.ref p, .int (mo : Int), .int (mr : Int)] ∧ 1 ≤ mo ∧ mo ≤ 4 ∧ 1 ≤ mr ∧ mr ≤ 3 ∧ Pool H p n ∧ n < 900000 ∧
  ∀ t l1 l2 fo th H', But H H' p → Pool H' p (n + 80) → H' t = some (.tup [.ref l1, .ref l2]) → H' l1 = some (.lst (fo.map V.str)) → H' l2 = some (.lst (th.map V.str)) → l1 ≠ l2 → H l1 = none → H l2 = none →
    1 ≤ fo.length → fo.length ≤ mo → th.length ≤ mr → 2 ≤ fo.length + th.length → Nms (fo ++ th) → Q (.ref t) H'
section
variable {P : Program} {w : World} {K : PySem.W.Frag} {mg : Str → Option Value} {base : Heap} {f fT fN : Addr} {fd fdT fdN : FuncData}
theorem ok_house (Fn : FnP K "_law_house" sHouse f fd) (FT : FnOk P w K mg base CX0 1 fT fdT ["_law_pool_here", "_law_many"] spTake) (gT : mg "_law_take" = some (.ref fT)) (kT : PySem.W.keepIn K (.ref fT) = true) (bT : Binds K fdT ["_law_pool_here", "_law_many"] [])
    (FN : FnOk P w K mg base CX0 2 fN fdN ["_law_pool_here", "_law_many"] (spNames K)) (gN : mg "_law_names" = some (.ref fN)) (kN : PySem.W.keepIn K (.ref fN) = true) (bN : Binds K fdN ["_law_pool_here", "_law_many"] []) (gM : mg "max" = none) :
    FnOk P w K mg base CX0 3 f fd ["_law_pool_here", "_law_most", "_law_more"] spHouse := by
  refine Fn.ok scHouse (fun vs H Q E h => ?_) (fun cdv A outer s H vs Q E hr h => ⟨_, PSs.nox
    (pss_cons (ps_set (i := 3) scHouse.nd rfl (.inl rfl) (pe_op op_add pe_int (pe_call FT (hr.mono (by decide)) (by rfl) gT kT bT .nil pass0 (pa_cons (pv 0) (pa_cons (pv 1) pa_nil)))))
    (pss_cons (ps_set (i := 4) scHouse.nd rfl (.inl rfl) (pe_callB (call_max2 rfl) (by rfl) gM boot_max (pa_cons (pe_call FT (hr.mono (by decide)) (by rfl) gT kT bT .nil pass0 (pa_cons (pv 0) (pa_cons (pe_op op_add (pv 2) pe_int) pa_nil))) (pa_cons (pe_op op_sub pe_int (pv 3)) pa_nil))))
    (pss_cons (ps_set (i := 5) scHouse.nd rfl (.inl rfl) (pe_call FN hr (by rfl) gN kN bN .nil pass0 (pa_cons (pv 0) (pa_cons (pe_op op_add (pv 3) (pv 4)) pa_nil))))
    (pss_one (ps_ret (pe_tup (pa_cons (pe_slice sl_list (pv 5) po_none (po_some (pv 3))) (pa_cons (pe_slice sl_list (pv 5) (po_some (pv 3)) po_none) pa_nil)))))))), ?_⟩)
  · obtain ⟨p, n, mo, mr, rfl, _⟩ := h
    rfl
  · obtain ⟨p, n, mo, mr, rfl, mo1, mo4, mr1, mr3, hp, hn, q⟩ := h
    refine ⟨_, rfl, _, rfl, p, mo, n, rfl, by omega, by omega, hp, by omega, fun r o r0 r1 gp => ?_⟩
    obtain ⟨H1, hH1⟩ : ∃ H1, H1 = L2.upd H p o := ⟨_, rfl⟩
    rw [← hH1] at gp
    rw [← hH1]
    have b1 : But H H1 p := by
      rw [hH1]
      exact But.upd (ext_but Ext.rfl')
    obtain ⟨r', rfl⟩ := Int.eq_ofNat_of_zero_le r0
    refine ⟨_, _, rfl, rfl, ?_⟩
    refine ⟨_, rfl, _, rfl, _, _, rfl, rfl, p, _, _, rfl, by omega, by omega, gp, by omega, fun r2 o2 r20 r21 gp2 => ?_⟩
    obtain ⟨H2, hH2⟩ : ∃ H2, H2 = L2.upd H1 p o2 := ⟨_, rfl⟩
    rw [← hH2] at gp2
    rw [← hH2]
    have b2 : But H H2 p := b1.trans (by
      rw [hH2]
      exact But.upd (ext_but Ext.rfl'))
    obtain ⟨r2', rfl⟩ := Int.eq_ofNat_of_zero_le r20
    refine ⟨_, rfl, _, _, rfl, rfl, _, _, rfl, ?_⟩
    -- the numbers
    obtain ⟨few, hfew, hf1, hf2⟩ : ∃ few : Nat, (if (2 - (1 + (r' : Int))) > (r2' : Int) then (2 - (1 + (r' : Int))) else (r2' : Int)) = (few : Int) ∧ few ≤ mr ∧ 2 ≤ (1 + r') + few := by
      by_cases c : (2 - (1 + (r' : Int))) > (r2' : Int)
      · rw [if_pos c]
        exact ⟨1 - r', by omega, by omega, by omega⟩
      · rw [if_neg c]
        exact ⟨r2', rfl, by omega, by omega⟩
    refine ⟨_, rfl, _, rfl, _, rfl, _, _, rfl, rfl, p, 1 + r' + few, _, by rw [hfew]; rfl, by omega, gp2, by omega, fun l zs H3 b3 p3 l3 ln3 len3 nms3 => ?_⟩
    have b03 : But H H3 p := b2.trans b3
    have lp : l ≠ p := pool_ne gp2 ln3
    have hk : 1 + r' ≤ (zs.map V.str).length := by
      rw [List.length_map, len3]
      omega
    have hH : ∀ {b : Addr}, H3 b = none → H b = none := fun {b} h => by
      cases hh : H b with
      | none => rfl
      | some u =>
        by_cases e : b = p
        · obtain ⟨_, _, _, h1, _⟩ := p3
          rw [e, h1] at h
          cases h
        · rw [b03 b u e hh] at h
          cases h
    have ei : (1 : Int) + (r' : Int) = ((1 + r' : Nat) : Int) := by omega
    refine ⟨_, rfl, _, rfl, _, rfl, l, _, rfl, SqL.of l3, fun l4 hl4 => ?_⟩
    refine ⟨_, rfl, _, rfl, _, rfl, l, _, rfl, SqL.of (Ext.upd hl4 _ _ l3), fun l5 hl5 => ?_⟩
    refine ⟨Nat.le_of_ble_eq_true rfl, fun t ht => ?_⟩
    rw [ei, cutV_take hk, cutV_drop hk] at ht
    rw [ei, cutV_take hk] at hl5
    rw [ei, cutV_take hk, cutV_drop hk]
    obtain ⟨H4, hH4⟩ : ∃ H4, H4 = L2.upd H3 l4 (.lst ((zs.map V.str).take (1 + r'))) := ⟨_, rfl⟩
    rw [← hH4] at hl5 ht
    rw [← hH4]
    have x4 : Ext H3 H4 := by
      rw [hH4]
      exact Ext.upd hl4
    obtain ⟨H5, hH5⟩ : ∃ H5, H5 = L2.upd H4 l5 (.lst ((zs.map V.str).drop (1 + r'))) := ⟨_, rfl⟩
    rw [← hH5] at ht
    rw [← hH5]
    have x5 : Ext H4 H5 := by
      rw [hH5]
      exact Ext.upd hl5
    have x6 : Ext H5 (L2.upd H5 t (.tup [.ref l4, .ref l5])) := Ext.upd ht
    have l44 : H4 l4 = some (.lst ((zs.take (1 + r')).map V.str)) := by rw [hH4, upd_same, List.map_take]
    have l55 : H5 l5 = some (.lst ((zs.drop (1 + r')).map V.str)) := by rw [hH5, upd_same, List.map_drop]
    have ne : l4 ≠ l5 := ne_of_none l44 hl5
    have h5n : H3 l5 = none := by
      rw [hH4, upd_ne (Ne.symm ne)] at hl5
      exact hl5
    refine q t l4 l5 (zs.take (1 + r')) (zs.drop (1 + r')) _ (b03.ext ((x4.trans x5).trans x6)) (pool_mono (pool_ext p3 ((x4.trans x5).trans x6)) (by omega)) upd_same (x6 _ _ (x5 _ _ l44)) (x6 _ _ l55) ne (hH hl4) (hH h5n) ?_ ?_ ?_ ?_ ?_
    · rw [List.length_take]
      omega
    · rw [List.length_take]
      omega
    · rw [List.length_drop]
      omega
    · rw [List.length_take, List.length_drop]
      omega
    · rw [List.take_append_drop]
      exact nms3
end
end My

namespace My
open PySem PySem.Spec PyProof.Rows L2
/-- a fact as it is told -/
def IsT (fo th : List Str) (w a b : Str) : Prop := IsF fo th w a b ∧ toldS (fo ++ th) w a b = [w, a, b]
def spFact (K : PySem.W.Frag) : Sp := fun vs H Q _ => ∃ (p lf lt : Addr) (fo th : List Str) (n : Int), vs = [.ref p, .ref lf, .ref lt] ∧ Pool H p n ∧ n < 900000 ∧ H lf = some (.lst (fo.map V.str)) ∧ H lt = some (.lst (th.map V.str)) ∧ lf ≠ p ∧ lt ≠ p ∧ (fo ++ th).Nodup ∧ 1 ≤ fo.length ∧ 2 ≤ (fo ++ th).length ∧ (fo ++ th).length ≤ 7 ∧
  ∀ t w a b H', But H H' p → Pool H' p (n + 3) → H t = none → H' t = some (.tup [.str w, .str a, .str b]) → IsT fo th w a b → Q (.ref t) H'
theorem toldS_line {ns : List Str} {a b : Str} (h : ordS ns a b = [a, b]) : toldS ns "line" a b = [("line" : Str), a, b] := by
  unfold toldS
  rw [if_pos rfl, h]
theorem toldS_other {ns : List Str} {w a b : Str} (h : w ≠ "line") : toldS ns w a b = [w, a, b] := by
  unfold toldS
  rw [if_neg h]
abbrev nm__law_fact : List Str := ["_law_pool_here", "_law_folders", "_law_things", "_law_nodes", "_law_other", "_law_rest", "_law_one", "_law_word", "_law_node"]
theorem sc__law_fact : FnScope nm__law_fact ["_law_pool_here", "_law_folders", "_law_things"] (defScope s__law_fact) := ⟨rfl, rfl, rfl, by decide +kernel, rfl, by decide +kernel, by decide +kernel⟩
section
variable {P : Program} {w : World} {K : PySem.W.Frag} {mg : Str → Option Value} {base : Heap} {f C CB CF : Addr} {fd : FuncData}
theorem ok_fact (Fn : FnP K "_law_fact" s__law_fact f fd) (h_law_take : Has P w K mg base 1 "_law_take" ["_law_pool_here", "_law_many"] spTake) (gB_len : mg "len" = none) : FnOk P w K mg base CX0 2 f fd ["_law_pool_here", "_law_folders", "_law_things"] (spFact K) := by
  refine Fn.ok sc__law_fact (fun vs H Q E h => ?_) (fun cdv A outer s H vs Q E hr h => ⟨_, PSs.nox
    (pss_cons (ps_set (i := 3) sc__law_fact.nd rfl (Or.inl rfl) (pe_op L2.op_cat (pv 1) (pv 2)))
      (pss_cons (ps_set (i := 4) sc__law_fact.nd rfl (Or.inr rfl) (pe_ix ix_list (pv 1) (pe_has h_law_take (hr.mono (by decide)) (pa_cons (pv 0) (pa_cons (pe_callB call_len (by rfl) gB_len boot_len (pa_cons (pv 1) pa_nil)) pa_nil))) (fun _ _ => rfl)))
      (pss_cons (ps_setLc (i := 5) (own := [("_law_node", 8)]) (g := (gName 8)) rfl sc__law_fact.nd rfl rfl (sw_true rfl rfl rfl (by decide +kernel)) (pi_list (pv 3)) (blkOk_by (N := nm__law_fact) (sc := defScope s__law_fact) (by decide +kernel)) (fun _ _ _ _ _ => (pg_name (i := 8) sc__law_fact.nd rfl (Or.inl rfl))) (fun _ _ _ _ _ => pts_one (pt_cmpR op_ne (pv 8) (pv 4) (nomark _))) (fun _ _ _ _ _ => (pv 8)))
      (pss_cons (ps_set (i := 6) sc__law_fact.nd rfl (Or.inl rfl) (pe_ix ix_list (pv 5) (pe_has h_law_take (hr.mono (by decide)) (pa_cons (pv 0) (pa_cons (pe_callB call_len (by rfl) gB_len boot_len (pa_cons (pv 5) pa_nil)) pa_nil))) (fun _ _ => rfl)))
      (pss_cons (ps_set (i := 7) sc__law_fact.nd rfl (Or.inl rfl) (pe_ix ix_list (pe_lst (pa_cons pe_str (pa_cons pe_str (pa_cons pe_str (pa_cons pe_str pa_nil))))) (pe_has h_law_take (hr.mono (by decide)) (pa_cons (pv 0) (pa_cons pe_int pa_nil))) (fun _ _ => rfl)))
      (C8.pss_cut (ps_if (pt_cmpR op_eq (pv 7) pe_str (nomark _)) (pss_one (ps_if (pt_cmpR op_gt (pe_bm PySem.F.plainAttrs_list PySem.F.slot_list_index PySem.F.type_list_index mt_index (pv 3) (pa_cons (pv 6) pa_nil)) (pe_bm PySem.F.plainAttrs_list PySem.F.slot_list_index PySem.F.type_list_index mt_index (pv 3) (pa_cons (pv 4) pa_nil)) (nomark _)) (pss_one (ps_ret (pe_tup (pa_cons (pv 7) (pa_cons (pv 4) (pa_cons (pv 6) pa_nil)))))) pss_nil)) pss_nil)
      (pss_one (ps_ret (pe_tup (pa_cons (pv 7) (pa_cons (pv 6) (pa_cons (pv 4) pa_nil)))))))))))), ?_⟩)
  · obtain ⟨p, lf, lt, fo, th, n, rfl, _⟩ := h
    rfl
  · obtain ⟨p, lf, lt, fo, th, n, rfl, hp, hn, hf, ht, nfp, ntp, nd, f1, n2, n7, q⟩ := h
    have lm : ∀ zs : List Str, (zs.map V.str).length = zs.length := fun zs => List.length_map _
    have f7 : fo.length ≤ 7 := by
      rw [List.length_append] at n7
      omega
    refine ⟨_, rfl, _, rfl, lf, lt, _, _, rfl, rfl, hf, ht, by rw [lm, lm, sizeLine_eq, ← List.length_append]; omega, fun ln hln => ?_⟩
    obtain ⟨H1, hH1⟩ : ∃ H1, H1 = upd H ln (.lst (fo.map V.str ++ th.map V.str)) := ⟨_, rfl⟩
    rw [← hH1]
    have x1 : Ext H H1 := by
      rw [hH1]
      exact Ext.upd hln
    have n1 : H1 ln = some (.lst ((fo ++ th).map V.str)) := by rw [hH1, upd_same, List.map_append]
    have nln : ln ≠ p := pool_ne hp hln
    have p1 := pool_ext hp x1
    refine ⟨_, rfl, _, rfl, _, rfl, _, _, rfl, .inl ⟨_, SqL.of (x1 _ _ hf), rfl⟩, p, _, n, rfl, by rw [lm]; omega, by rw [lm]; omega, p1, by omega, fun r1 o1 r10 r11 gp => ?_⟩
    obtain ⟨r1, rfl⟩ := Int.eq_ofNat_of_zero_le r10
    rw [lm] at r11
    have r1' : r1 < fo.length := by omega
    obtain ⟨H2, hH2⟩ : ∃ H2, H2 = upd H1 p o1 := ⟨_, rfl⟩
    rw [← hH2] at gp ⊢
    have b2 : But H H2 p := by
      rw [hH2]
      exact But.upd (ext_but x1)
    have k2 : ∀ b u, b ≠ p → H1 b = some u → H2 b = some u := fun b u hb e => by rw [hH2, upd_ne hb]; exact e
    have hf2 := k2 _ _ nfp (x1 _ _ hf)
    have n2' := k2 _ _ nln n1
    obtain ⟨ot, hot⟩ : ∃ ot, ot = fo[r1] := ⟨_, rfl⟩
    refine ⟨lf, _, _, .str ot, rfl, rfl, SqL.of hf2, atI_nat (by rw [List.getElem?_map, List.getElem?_eq_getElem r1', hot]; rfl), ?_⟩
    have mo : ot ∈ fo := by rw [hot]; exact List.getElem_mem r1'
    refine ⟨_, rfl, ln, rfl, ⟨_, SqL.of n2'⟩, fun D hD => ?_⟩
    refine lc_list (K := K) (a := ln) (xs := (fo ++ th).map V.str) (fun k H' => Ext H2 H' ∧ H' D = some (.lst ((((fo ++ th).take k).filter fun z => !decide (z = ot)).map V.str))) ⟨Ext.upd hD, upd_same⟩ (fun k H' _ z => SqL.of (z.1 _ _ n2')) ?_ ?_
    · intro k v H4 hv ⟨x4, d4⟩
      obtain ⟨z, hz, rfl⟩ := strs_at hv
      have tk : (fo ++ th).take (k + 1) = (fo ++ th).take k ++ [z] := by
        rw [List.take_add_one, hz]
        rfl
      have k6 : k < 7 := by
        have := (List.getElem?_eq_some_iff.mp hz).1
        omega
      rw [tk]
      refine ⟨rfl, _, rfl, _, rfl, rfl, _, rfl, ?_⟩
      have ee : decide (V.str z = V.str ot) = decide (z = ot) := by
        by_cases e : z = ot
        · rw [e, decide_eq_true rfl, decide_eq_true rfl]
        · rw [decide_eq_false e, decide_eq_false fun h => e (by injection h)]
      refine ite2 (fun c => ?_) fun c => ?_
      · rw [ee] at c
        refine ⟨_, rfl, _, d4, ?_, x4.over hD, ?_⟩
        · rw [List.length_map]
          refine Nat.lt_of_le_of_lt (List.length_filter_le _ _) ?_
          rw [List.length_take, sizeLine_eq]
          omega
        · rw [upd_same, List.filter_append, List.filter_cons, if_pos c, List.map_append]
          rfl
      · rw [ee] at c
        refine ⟨x4, ?_⟩
        rw [d4, List.filter_append, List.filter_cons, if_neg c, List.filter_nil, List.append_nil]
    · intro H4 ⟨x4, d4⟩
      rw [lm, List.take_length] at d4
      obtain ⟨rest, hrest⟩ : ∃ rest, rest = (fo ++ th).filter fun z => !decide (z = ot) := ⟨_, rfl⟩
      rw [← hrest] at d4
      have rlen : rest.length ≤ 7 := by
        rw [hrest]
        exact Nat.le_trans (List.length_filter_le _ _) n7
      have rmem : ∀ z, z ∈ rest → z ∈ fo ++ th ∧ z ≠ ot := fun z hz => by
        rw [hrest] at hz
        obtain ⟨h1, h2⟩ := List.mem_filter.mp hz
        exact ⟨h1, fun e => by simp [e] at h2⟩
      have rpos : 0 < rest.length := by
        cases hh : rest with
        | cons z zs => exact Nat.succ_pos _
        | nil =>
          exfalso
          have all : ∀ z, z ∈ fo ++ th → z = ot := fun z hz => by
            by_cases e : z = ot
            · exact e
            · have : z ∈ rest := by
                rw [hrest]
                exact List.mem_filter.mpr ⟨hz, by simp [e]⟩
              rw [hh] at this
              cases this
          have h0 : 0 < (fo ++ th).length := by omega
          have h1 : 1 < (fo ++ th).length := by omega
          have e0 := all _ (List.getElem_mem h0)
          have e1 := all _ (List.getElem_mem h1)
          have := (List.getElem_inj nd).mp (e0.trans e1.symm)
          omega
      have p4 := pool_ext gp x4
      have nDp : D ≠ p := pool_ne gp hD
      have n4 := x4 _ _ n2'
      refine ⟨_, rfl, _, rfl, _, rfl, _, _, rfl, .inl ⟨_, SqL.of d4, rfl⟩, p, _, _, rfl, by rw [lm]; omega, by rw [lm]; omega, p4, by omega, fun r2 o2 r20 r21 gp2 => ?_⟩
      obtain ⟨r2, rfl⟩ := Int.eq_ofNat_of_zero_le r20
      rw [lm] at r21
      have r2' : r2 < rest.length := by omega
      obtain ⟨H5, hH5⟩ : ∃ H5, H5 = upd H4 p o2 := ⟨_, rfl⟩
      rw [← hH5] at gp2 ⊢
      have k5 : ∀ b u, b ≠ p → H4 b = some u → H5 b = some u := fun b u hb e => by rw [hH5, upd_ne hb]; exact e
      have b5 : But H H5 p := fun b u hb e => k5 b u hb (x4 _ _ (b2 b u hb e))
      have d5 := k5 _ _ nDp d4
      have n5 := k5 _ _ nln n4
      obtain ⟨on, hon⟩ : ∃ on, on = rest[r2] := ⟨_, rfl⟩
      refine ⟨D, _, _, .str on, rfl, rfl, SqL.of d5, atI_nat (by rw [List.getElem?_map, List.getElem?_eq_getElem r2', hon]; rfl), ?_⟩
      obtain ⟨mon, nno⟩ := rmem on (by rw [hon]; exact List.getElem_mem r2')
      refine ⟨Nat.le_of_ble_eq_true rfl, fun l6 hl6 => ⟨_, rfl, p, 4, _, rfl, by decide, by decide, pool_ext gp2 (Ext.upd hl6), by omega, fun r3 o3 r30 r31 gp3 => ?_⟩⟩
      obtain ⟨r3, rfl⟩ := Int.eq_ofNat_of_zero_le r30
      obtain ⟨H6, hH6⟩ : ∃ H6, H6 = upd (upd H5 l6 (.lst [.str "below", .str "below", .str "not", .str "line"])) p o3 := ⟨_, rfl⟩
      rw [← hH6] at gp3 ⊢
      have n6p : l6 ≠ p := pool_ne gp2 hl6
      have l66 : H6 l6 = some (.lst [.str "below", .str "below", .str "not", .str "line"]) := by rw [hH6, upd_ne n6p, upd_same]
      have k6 : ∀ b u, b ≠ p → H5 b = some u → H6 b = some u := fun b u hb e => by
        rw [hH6, upd_ne hb]
        exact Ext.upd hl6 _ _ e
      have b6 : But H H6 p := fun b u hb e => k6 b u hb (b5 b u hb e)
      have n6 := k6 _ _ nln n5
      have none6 : ∀ t, H6 t = none → H t = none := fun t h => by
        cases hh : H t with
        | none => rfl
        | some u =>
          by_cases e : t = p
          · obtain ⟨y, hy⟩ := gp3.lst
            rw [e, hy] at h
            cases h
          · rw [b6 t u e hh] at h
            cases h
      obtain ⟨wd, hwd, hw⟩ : ∃ wd : Str, atI ([.str "below", .str "below", .str "not", .str "line"] : List V) (r3 : Int) = some (.str wd) ∧ (wd = "below" ∨ wd = "not" ∨ wd = "line") := by
        match r3, r31 with
        | 0, _ => exact ⟨_, rfl, .inl rfl⟩
        | 1, _ => exact ⟨_, rfl, .inl rfl⟩
        | 2, _ => exact ⟨_, rfl, .inr (.inl rfl)⟩
        | 3, _ => exact ⟨_, rfl, .inr (.inr rfl)⟩
        | n + 4, h => exact absurd h (by omega)
      refine ⟨l6, _, _, .str wd, rfl, rfl, SqL.of l66, hwd, ?_⟩
      have mow : ot ∈ fo ++ th := List.mem_append_left _ mo
      refine ⟨fun σ' H' => H' = H6 ∧ σ' = [some (.ref p), some (.ref lf), some (.ref lt), some (.ref ln), some (.str ot), some (.ref D), some (.str on), some (.str wd), none] ∧ (wd = "line" → ordS (fo ++ th) on ot = [on, ot]), ?_, ?_⟩
      · obtain ⟨i, hi⟩ := List.mem_iff_getElem?.mp mon
        obtain ⟨j, hj⟩ := List.mem_iff_getElem?.mp mow
        have ij : i ≠ j := fun e => nno (by
          subst e
          rw [hi] at hj
          injection hj)
        refine ⟨_, rfl, rfl, _, rfl, ?_⟩
        refine ite2 (fun c => ?_) fun c => ⟨rfl, rfl, fun e => absurd (decide_eq_true (by rw [e])) c⟩
        have e' : wd = "line" := by
          have z := of_decide_eq_true c
          injection z
        subst e'
        refine ⟨_, rfl, .inl ⟨rfl, _, .inl (.inl n6)⟩, _, rfl, ln, _, _, i, .str on, rfl, rfl, SqL.of n6, rfl, flat_strs _, by rw [List.getElem?_map, hi]; rfl, beq_self_eq_true on, strs_idx nd hi, ?_⟩
        refine ⟨_, rfl, .inl ⟨rfl, _, .inl (.inl n6)⟩, _, rfl, ln, _, _, j, .str ot, rfl, rfl, SqL.of n6, rfl, flat_strs _, by rw [List.getElem?_map, hj]; rfl, beq_self_eq_true ot, strs_idx nd hj, ?_⟩
        refine ⟨_, _, rfl, rfl, _, rfl, ?_⟩
        refine ite2 (fun c => ?_) fun c => ?_
        · have c' : j < i := by
            have := of_decide_eq_true c
            omega
          have oo := ord_lt nd hj hi c'
          exact ⟨_, rfl, _, rfl, _, rfl, Nat.le_of_ble_eq_true rfl, fun t ht => q t "line" ot on _ (b6.ext (Ext.upd ht)) (pool_mono (pool_ext gp3 (Ext.upd ht)) (by omega)) (none6 t ht) upd_same ⟨⟨by decide, mow, mon, fun e => nno e.symm, .inl rfl⟩, toldS_line oo⟩⟩
        · have c' : i < j := by
            have : ¬ ((i : Int) > j) := fun z => c (decide_eq_true z)
            omega
          exact ⟨rfl, rfl, fun _ => ord_lt nd hi hj c'⟩
      · rintro σ' H' ⟨rfl, rfl, ho⟩
        refine ⟨_, rfl, _, rfl, _, rfl, Nat.le_of_ble_eq_true rfl, fun t ht => q t wd on ot _ (b6.ext (Ext.upd ht)) (pool_mono (pool_ext gp3 (Ext.upd ht)) (by omega)) (none6 t ht) upd_same ?_⟩
        have hwm : wd ∈ wordsS := by rcases hw with rfl | rfl | rfl <;> decide
        refine ⟨⟨hwm, mon, mow, nno, .inr mo⟩, ?_⟩
        by_cases e : wd = "line"
        · subst e
          exact toldS_line (ho rfl)
        · exact toldS_other e
end
end My

namespace My
open PySem PySem.Spec PyProof.Rows L2
def spHanded (K : PySem.W.Frag) : Sp := fun vs H Q _ => ∃ (p t : Addr) (fo th : List Str) (w a b : Str) (n : Int), vs = [.ref p, .ref t] ∧ Pool H p n ∧ n < 900000 ∧ SqT K H t [.str w, .str a, .str b] ∧ IsT fo th w a b ∧
  ∀ r c d H', But H H' p → Pool H' p (n + 2) → IsF fo th w c d → toldS (fo ++ th) w c d = [w, a, b] → ((r = t ∧ c = a ∧ d = b) ∨ (H r = none ∧ H' r = some (.lst [.str w, .str c, .str d]))) → Q (.ref r) H'
/-- what else is needed of the class Facts -/
structure FacTxt (P : Program) (w : World) (K : PySem.W.Frag) (mg : Str → Option Value) (CF C CB : Addr) where
  T : FacC K CF
  gF : mg "Facts" = some (.ref CF)
  kFF : PySem.W.kitOne K (.ref CF) (.ref CF) = some true
  ne : PySem.W.findIn K (.ref CF) "__ne__" = some (some (.builtin "object.__ne__"))
  nb : ∀ T, T ∈ ["NoneType", "list", "tuple", "int", "str"] → PySem.W.notFirst K CF (.type T) = true ∧ PySem.W.kitOne K (.type T) (.ref CF) = some false
  kSeq : PySem.W.kitAny K (.ref CF) [.type "list", .type "tuple"] = some false
  fI : Addr
  fdI : FuncData
  M : Mk K CF fI
  I : ∀ base, FnOk P w K mg base (L2.CX P w) 7 fI fdI ["self", "house", "facts"] (spFInit K CF C CB)
  bI : Binds K fdI ["self", "house", "facts"] []
  uD : Value
  bD : Binds K fdI ["self", "house", "facts"] [uD]
  aD : Addr
  eD : uD = .ref aD
  tD : ∀ H, SqT K H aD []
  fT : Addr
  fdT : FuncData
  mT : Meth K CF "told" fT
  To : ∀ base, FnOk P w K mg base CX0 1 fT fdT ["self"] (spTold K CF C)
  bT : Binds K fdT ["self"] []
  fL : Addr
  fdL : FuncData
  mL : OwnM K CF "__len__" fL
  L : ∀ base, FnOk P w K mg base CX0 1 fL fdL ["self"] (spFLen K CF C)
  bL : Binds K fdL ["self"] []
  fS : Addr
  fdS : FuncData
  mS : OwnM K CF "__contains__" fS
  S : ∀ base, FnOk P w K mg base CX0 6 fS fdS ["self", "x"] (spFHas K CF C)
  bS : Binds K fdS ["self", "x"] []
  fW : Addr
  fdW : FuncData
  mW : OwnM K CF "__iter__" fW
  W : ∀ base : Heap, FnOk P w K mg base CX0 1 fW fdW ["self"] (spIter K CF "rows" base.objs.size)
  bW : Binds K fdW ["self"] []
  fE : Addr
  fdE : FuncData
  mE : OwnM K CF "__eq__" fE
  E : ∀ base, FnOk P w K mg base CX0 2 fE fdE ["self", "other"] (spFEq K CF C)
  bE : Binds K fdE ["self", "other"] []
theorem FacTxt.vD {P : Program} {w : World} {K : PySem.W.Frag} {mg : Str → Option Value} {CF C CB : Addr} (Z : FacTxt P w K mg CF C CB) : Vals [V.ref Z.aD] [Z.uD] := .cons Z.eD .nil
def spRefused (K : PySem.W.Frag) (C : Addr) : Sp := fun vs H Q _ => ∃ h x fo th i, vs = [.ref h, x] ∧ Hou H K C h fo th ∧ (fo ++ th).Nodup ∧ (fo ++ th).length < sizeLine ∧ (∀ z, z ∈ fo ++ th → PyData.strOk z = true) ∧ Passed K H fo th x (some i) ∧ ∀ H', Ext H H' → Q (.int (i : Nat)) H'
def spOdd (K : PySem.W.Frag) : Sp := fun vs H Q _ => ∃ (p lf lt : Addr) (fo th : List Str) (n : Int), vs = [.ref p, .ref lf, .ref lt] ∧ Pool H p n ∧ n < 900000 ∧ H lf = some (.lst (fo.map V.str)) ∧ H lt = some (.lst (th.map V.str)) ∧ lf ≠ p ∧ lt ≠ p ∧ Nms (fo ++ th) ∧ 1 ≤ fo.length ∧ 2 ≤ (fo ++ th).length ∧ (fo ++ th).length ≤ 7 ∧
  ∀ x H', But H H' p → Pool H' p (n + 1) → (∀ H2, But H' H2 p → FactOf K H2 fo th x false) → Q x H'
abbrev nm__law_handed : List Str := ["_law_pool_here", "_law_fact_here", "_law_word", "_law_one", "_law_other"]
theorem sc__law_handed : FnScope nm__law_handed ["_law_pool_here", "_law_fact_here"] (defScope s__law_handed) := ⟨rfl, rfl, rfl, by decide +kernel, rfl, by decide +kernel, by decide +kernel⟩
abbrev nm__law_refused : List Str := ["_law_house_here", "_law_rows", "e"]
theorem sc__law_refused : FnScope nm__law_refused ["_law_house_here", "_law_rows"] (defScope s__law_refused) := ⟨rfl, rfl, rfl, by decide +kernel, rfl, by decide +kernel, by decide +kernel⟩
abbrev nm__law_odd : List Str := ["_law_pool_here", "_law_folders", "_law_things", "_law_one", "_law_other", "_law_some"]
theorem sc__law_odd : FnScope nm__law_odd ["_law_pool_here", "_law_folders", "_law_things"] (defScope s__law_odd) := ⟨rfl, rfl, rfl, by decide +kernel, rfl, by decide +kernel, by decide +kernel⟩
section
variable {P : Program} {w : World} {K : PySem.W.Frag} {mg : Str → Option Value} {base : Heap} {f C CBH CF CB : Addr} {fd : FuncData}
theorem ok_handed (Fn : FnP K "_law_handed" s__law_handed f fd) (h_law_take : Has P w K mg base 1 "_law_take" ["_law_pool_here", "_law_many"] spTake) (gB_list : mg "list" = none) : FnOk P w K mg base CX0 2 f fd ["_law_pool_here", "_law_fact_here"] (spHanded K) := by
  refine Fn.ok sc__law_handed (fun vs H Q E h => ?_) (fun cdv A outer s H vs Q E hr h => ⟨_, PSs.nox
    (pss_cons (ps_asg (pv 1) (pg_tup rfl (pgs_cons (pg_name (i := 2) sc__law_handed.nd rfl (Or.inl rfl)) (pgs_cons (pg_name (i := 3) sc__law_handed.nd rfl (Or.inl rfl)) (pgs_cons (pg_name (i := 4) sc__law_handed.nd rfl (Or.inl rfl)) pgs_nil)))))
      (pss_cons (ps_if (PW.pt (pw_and (pt_cmpR op_eq (pv 2) pe_str (nomark _)) (pw_and1 (pt_cmpR op_eq (pe_has h_law_take (hr.mono (by decide)) (pa_cons (pv 0) (pa_cons pe_int pa_nil))) pe_int (nomark _))))) (pss_one (ps_ret (pe_lst (pa_cons (pv 2) (pa_cons (pv 4) (pa_cons (pv 3) pa_nil)))))) pss_nil)
      (pss_one (ps_ret (pe_ix ix_list (pe_lst (pa_cons (pv 1) (pa_cons (pe_callTy call_lstS (by rfl) gB_list (by decide +kernel) (pa_cons (pv 1) pa_nil)) pa_nil))) (pe_has h_law_take (hr.mono (by decide)) (pa_cons (pv 0) (pa_cons pe_int pa_nil))) (fun _ _ => rfl)))))), ?_⟩)
  · obtain ⟨p, t, fo, th, w, a, b, n, rfl, _⟩ := h
    rfl
  · obtain ⟨p, t, fo, th, wd, a, b, n, rfl, hp, hn, st, ist, q⟩ := h
    refine ⟨_, rfl, t, _, rfl, st, rfl, _, _, rfl, _, _, rfl, _, _, rfl, rfl, ?_⟩
    -- the last row, whatever was drawn ahead
    have fin : ∀ (R : V → Hp → Prop) (H1 : Hp) (k : Int), But H H1 p → Pool H1 p (n + k) → 0 ≤ k → k ≤ 1 → (∀ r H', But H H' p → Pool H' p (n + 2) → ((r = t) ∨ (H r = none ∧ H' r = some (.lst [.str wd, .str a, .str b]))) → R (.ref r) H') →
        ∀ c, H1 c = none → ∀ dl, upd H1 c (.lst [.str wd, .str a, .str b]) dl = none → spTake [.ref p, .int 2] (upd (upd H1 c (.lst [.str wd, .str a, .str b])) dl (.lst [.ref t, .ref c])) (fun y H2 => rIxL K (.ref dl) y H2 R) E0 := fun R H1 k b1 p1 k0 k1 r c hc dl hdl => by
      have x8 : Ext H1 (upd (upd H1 c (.lst [.str wd, .str a, .str b])) dl (.lst [.ref t, .ref c])) := (Ext.upd hc).trans (Ext.upd hdl)
      obtain ⟨H8, hH8⟩ : ∃ H8, H8 = upd (upd H1 c (.lst [.str wd, .str a, .str b])) dl (.lst [.ref t, .ref c]) := ⟨_, rfl⟩
      rw [← hH8] at x8 ⊢
      have ncp : c ≠ p := pool_ne p1 hc
      have p8 := pool_ext p1 x8
      have ndp : dl ≠ p := pool_ne (pool_ext p1 (Ext.upd hc)) hdl
      have dl8 : H8 dl = some (.lst [.ref t, .ref c]) := by rw [hH8, upd_same]
      have c8 : H8 c = some (.lst [.str wd, .str a, .str b]) := by
        rw [hH8]
        exact Ext.upd hdl _ _ upd_same
      refine ⟨p, 2, _, rfl, by decide, by decide, p8, by omega, fun r0 o r00 r01 gp => ?_⟩
      obtain ⟨H9, hH9⟩ : ∃ H9, H9 = upd H8 p o := ⟨_, rfl⟩
      rw [← hH9] at gp ⊢
      have b89 : But H8 H9 p := by
        rw [hH9]
        exact But.upd (ext_but Ext.rfl')
      have b9 : But H H9 p := (b1.ext x8).trans b89
      have cn : H c = none := by
        cases hh : H c with
        | none => rfl
        | some u => exact absurd (b1 c u ncp hh) (by rw [hc]; exact fun z => nomatch z)
      have pm : Pool H9 p (n + 2) := pool_mono gp (by omega)
      have h01 : r0 = 0 ∨ r0 = 1 := by omega
      rcases h01 with rfl | rfl
      · exact ⟨dl, _, _, _, rfl, rfl, SqL.of (b89 _ _ ndp dl8), rfl, r t H9 b9 pm (.inl rfl)⟩
      · exact ⟨dl, _, _, _, rfl, rfl, SqL.of (b89 _ _ ndp dl8), rfl, r c H9 b9 pm (.inr ⟨cn, b89 _ _ ncp c8⟩)⟩
    have isf := ist.1
    refine ⟨_, rfl, rfl, _, rfl, ?_⟩
    refine ite2 (fun e => ?_) fun e => ?_
    · have e' : wd = "line" := by
        have z := of_decide_eq_true e
        injection z
      subst e'
      refine ⟨_, rfl, p, 2, n, rfl, by decide, by decide, hp, by omega, fun r1 o1 r10 r11 gp => ?_⟩
      obtain ⟨H1, hH1⟩ : ∃ H1, H1 = upd H p o1 := ⟨_, rfl⟩
      rw [← hH1] at gp ⊢
      have b1 : But H H1 p := by
        rw [hH1]
        exact But.upd (ext_but Ext.rfl')
      refine ⟨rfl, _, rfl, ?_⟩
      refine ite2 (fun e2 => ?_) fun e2 => ?_
      · refine ⟨_, rfl, _, rfl, _, rfl, Nat.le_of_ble_eq_true rfl, fun l hl => ?_⟩
        have lp : l ≠ p := pool_ne gp hl
        have ln : H l = none := by
          cases hh : H l with
          | none => rfl
          | some u => exact absurd (b1 l u lp hh) (by rw [hl]; exact fun z => nomatch z)
        refine q l b a _ (b1.ext (Ext.upd hl)) (pool_mono (pool_ext gp (Ext.upd hl)) (by omega)) (isF_swap isf) ?_ (.inr ⟨ln, upd_same⟩)
        have z := ist.2
        unfold toldS at z ⊢
        rw [if_pos rfl] at z ⊢
        rw [ord_comm]
        exact z
      · obtain ⟨y, hy⟩ := hp.lst
        refine ⟨_, rfl, _, rfl, t, _, rfl, .inr (sqT_butL hy b1 st), fun c hc => ⟨Nat.le_of_ble_eq_true rfl, fun dl hdl => ⟨_, rfl, ?_⟩⟩⟩
        refine fin _ H1 1 b1 gp (by decide) (by decide) (fun r H' b' p' h => q r a b H' b' p' isf ist.2 (h.imp (fun z => ⟨z, rfl, rfl⟩) id)) c hc dl hdl
    · refine ⟨_, rfl, _, rfl, t, _, rfl, .inr st, fun c hc => ⟨Nat.le_of_ble_eq_true rfl, fun dl hdl => ⟨_, rfl, ?_⟩⟩⟩
      refine fin _ H 0 (ext_but Ext.rfl') (by rw [Int.add_zero]; exact hp) (by decide) (by decide) (fun r H' b' p' h => q r a b H' b' p' isf ist.2 (h.imp (fun z => ⟨z, rfl, rfl⟩) id)) c hc dl hdl
theorem ok_refused (Fn : FnP K "_law_refused" s__law_refused f fd) (F : FacTxt P w K mg CF C CB) (gB : mg "BadFact" = some (.ref CB)) (xB : XfC K CB) (nB : PySem.W.findIn K (.ref CB) "index" = some none) (eB : PySem.W.exmOne K (.ref CB) (.ref CB) = some true) :
    FnOk P w K mg base CX0 9 f fd ["_law_house_here", "_law_rows"] (spRefused K C) := by
  refine Fn.ok sc__law_refused (fun vs H Q E h => ?_) (fun cdv A outer s H vs Q E hr h => ⟨_, PSs.nox
    (pss_cons (ps_try_as (i := 2) (tb := fun W => tDrop (tMakeS CF (spFInit K CF C CB) [] (WE W) (tCons (tVar 0) (tCons (tVar 1) tNil)))) (ts := fun a cls d => tRet (tXf a cls d CB "index" (tVar 2))) (Wout := fun _ _ _ _ => False) rfl rfl sc__law_refused.nd rfl rfl ⟨rfl, by decide, .inl gB⟩ takes0
      (fun W pn xe tk _ => pss_one (ps_expr (by exact (pe_makeS F.M (F.I _) hr (by rfl) F.gF F.bI .nil (fun σ => passAt tk σ) (by exact (pa_cons (pv 0) (pa_cons (pv 1) pa_nil)))))))
      (fun a oe cls d pn hz hf => pss_one (ps_ret (by exact (pe_xf xB nB hz hf (pv 2))))))
    (pss_one (ps_ret pe_non))), ?_⟩)
  · obtain ⟨h, x, fo, th, i, rfl, _⟩ := h
    rfl
  · obtain ⟨h, x, fo, th, i, rfl, hou, nd, hz, zok, hp, q⟩ := h
    refine ⟨_, rfl, _, rfl, fun a dx ha hdx ne => ?_⟩
    have xn : Ext H (L2.upd (L2.upd H dx (.own a)) a (.ins CF dx [])) := fun b u k => by
      rw [upd_ne (ne_of_none k ha), upd_ne (ne_of_none k hdx)]
      exact k
    obtain ⟨hx, hfs, hins⟩ := hou.ins
    refine ⟨a, dx, h, x, fo, th, rfl, upd_same, ne_of_none hins ha, hou.ext xn, nd, hz, zok, .inl ⟨i, hp.ext xn, fun d H' x' _ hd => ?_⟩⟩
    exact ⟨true, eB, fun _ a0 _ => ⟨_, rfl, rfl, rfl, d, _, _, rfl, hd, rfl, q H' (xn.trans x')⟩, fun q => nomatch q⟩
theorem ok_odd (Fn : FnP K "_law_odd" s__law_odd f fd) (h_law_take : Has P w K mg base 1 "_law_take" ["_law_pool_here", "_law_many"] spTake) (gB_len : mg "len" = none) : FnOk P w K mg base CX0 2 f fd ["_law_pool_here", "_law_folders", "_law_things"] (spOdd K) := by
  refine Fn.ok sc__law_odd (fun vs H Q E h => ?_) (fun cdv A outer s H vs Q E hr h => ⟨_, PSs.nox
    (pss_cons (ps_par (i := 3) (j := 4) rfl sc__law_odd.nd rfl rfl (by decide) rfl rfl (pa_cons (pe_ix ix_list (pv 1) pe_int (fun _ _ => rfl)) (pa_cons (pe_ix ix_list (pe_op L2.op_cat (pv 1) (pv 2)) pe_int (fun _ _ => rfl)) pa_nil)) (by rfl))
      (pss_cons (ps_set (i := 5) sc__law_odd.nd rfl (Or.inl rfl) (pe_lst (pa_cons pe_non (pa_cons pe_int (pa_cons pe_str (pa_cons (pe_tup pa_nil) (pa_cons (pe_tup (pa_cons pe_str (pa_cons (pv 3) pa_nil))) (pa_cons (pe_tup (pa_cons pe_str (pa_cons (pv 3) (pa_cons (pv 3) pa_nil)))) (pa_cons (pe_tup (pa_cons pe_str (pa_cons (pv 4) (pa_cons (pv 4) pa_nil)))) (pa_cons (pe_tup (pa_cons pe_str (pa_cons (pv 3) (pa_cons (pv 4) pa_nil)))) pa_nil))))))))))
      (pss_cons (ps_set (i := 5) sc__law_odd.nd rfl (Or.inl rfl) (pe_op L2.op_cat (pv 5) (pe_lst (pa_cons (pe_tup (pa_cons pe_str (pa_cons pe_str (pa_cons (pv 3) pa_nil)))) (pa_cons (pe_tup (pa_cons pe_str (pa_cons (pv 3) (pa_cons pe_str pa_nil)))) (pa_cons pe_dnewK (pa_cons pe_bl (pa_cons (pe_tup (pa_cons pe_non (pa_cons (pv 3) (pa_cons (pv 4) pa_nil)))) (pa_cons (pe_lst (pa_cons pe_str (pa_cons (pv 3) (pa_cons (pv 4) (pa_cons (pv 3) pa_nil))))) pa_nil)))))))))
      (C8.pss_cut (ps_if (pt_cmpR (op_neD hr.units) (pv 2) (pe_lst pa_nil) (by rfl)) (pss_one (ps_set (i := 5) sc__law_odd.nd rfl (Or.inl rfl) (pe_op L2.op_cat (pv 5) (pe_op op_rep (pe_lst (pa_cons (pe_tup (pa_cons pe_str (pa_cons (pv 3) (pa_cons (pe_ix ix_list (pv 2) pe_int (fun _ _ => rfl)) pa_nil)))) (pa_cons (pe_tup (pa_cons pe_str (pa_cons (pv 3) (pa_cons (pe_ix ix_list (pv 2) pe_int (fun _ _ => rfl)) pa_nil)))) pa_nil))) pe_int)))) pss_nil)
      (pss_one (ps_ret (pe_ix ix_list (pv 5) (pe_has h_law_take (hr.mono (by decide)) (pa_cons (pv 0) (pa_cons (pe_callB call_len (by rfl) gB_len boot_len (pa_cons (pv 5) pa_nil)) pa_nil))) (fun _ _ => rfl)))))))), ?_⟩)
  · obtain ⟨p, lf, lt, fo, th, n, rfl, _⟩ := h
    rfl
  · obtain ⟨p, lf, lt, fo, th, n, rfl, hp, hn, hf, ht, nfp, ntp, nms, f1, n2, n7, q⟩ := h
    have lm : ∀ zs : List Str, (zs.map V.str).length = zs.length := fun zs => List.length_map _
    have nok := nms.ok
    have nd := nms.1
    obtain ⟨a0, fo', rfl⟩ : ∃ a0 fo', fo = a0 :: fo' := by
      cases fo with
      | nil => exact absurd f1 (by decide)
      | cons a0 fo' => exact ⟨a0, fo', rfl⟩
    obtain ⟨a1, ha1⟩ : ∃ a1, (a0 :: fo' ++ th)[1]? = some a1 := ⟨_, List.getElem?_eq_getElem (by omega)⟩
    refine ⟨_, rfl, lf, _, _, _, rfl, rfl, SqL.of hf, atI_nat (j := 0) rfl, _, rfl, _, rfl, lf, lt, _, _, rfl, rfl, hf, ht, by rw [lm, lm, sizeLine_eq, ← List.length_append]; omega, fun lc hlc => ⟨lc, _, _, .str a1, rfl, rfl, SqL.of upd_same, atI_nat (j := 1) (by rw [← List.map_append, List.getElem?_map, ha1]; rfl), _, _, rfl, ?_⟩⟩
    have z0 := Ext.upd (o := .lst ((a0 :: fo').map V.str ++ th.map V.str)) hlc
    refine ⟨Nat.zero_le _, fun t1 h1 => ⟨_, rfl, Nat.le_of_ble_eq_true rfl, fun t2 h2 => ⟨_, rfl, _, rfl, Nat.le_of_ble_eq_true rfl, fun t3 h3 => ⟨_, rfl, _, rfl, Nat.le_of_ble_eq_true rfl, fun t4 h4 => ⟨_, rfl, _, rfl, Nat.le_of_ble_eq_true rfl, fun t5 h5 => ⟨Nat.le_of_ble_eq_true rfl, fun o1 ho1 => ?_⟩⟩⟩⟩⟩⟩
    have z1 := Ext.upd (o := .tup []) h1
    have z2 := Ext.upd (o := .tup [.str "line", .str a0]) h2
    have z3 := Ext.upd (o := .tup [.str "below", .str a0, .str a0]) h3
    have z4 := Ext.upd (o := .tup [.str "line", .str a1, .str a1]) h4
    have z5 := Ext.upd (o := .tup [.str "lines", .str a0, .str a1]) h5
    have z6 := Ext.upd (o := .lst [.non, .int 5, .str "line", .ref t1, .ref t2, .ref t3, .ref t4, .ref t5]) ho1
    obtain ⟨HA, hHA⟩ : ∃ HA, HA = upd (upd (upd (upd (upd (upd (upd H lc (.lst ((a0 :: fo').map V.str ++ th.map V.str))) t1 (.tup [])) t2 (.tup [.str "line", .str a0])) t3 (.tup [.str "below", .str a0, .str a0])) t4 (.tup [.str "line", .str a1, .str a1])) t5 (.tup [.str "lines", .str a0, .str a1])) o1 (.lst [.non, .int 5, .str "line", .ref t1, .ref t2, .ref t3, .ref t4, .ref t5]) := ⟨_, rfl⟩
    have xA : Ext H HA := by
      rw [hHA]
      exact z0.trans (z1.trans (z2.trans (z3.trans (z4.trans (z5.trans z6)))))
    have o1A : HA o1 = some (.lst [.non, .int 5, .str "line", .ref t1, .ref t2, .ref t3, .ref t4, .ref t5]) := by rw [hHA, upd_same]
    have s1 : HA t1 = some (.tup []) := by rw [hHA]; exact (z2.trans (z3.trans (z4.trans (z5.trans z6)))) _ _ upd_same
    have s2 : HA t2 = some (.tup [.str "line", .str a0]) := by rw [hHA]; exact (z3.trans (z4.trans (z5.trans z6))) _ _ upd_same
    have s3 : HA t3 = some (.tup [.str "below", .str a0, .str a0]) := by rw [hHA]; exact (z4.trans (z5.trans z6)) _ _ upd_same
    have s4 : HA t4 = some (.tup [.str "line", .str a1, .str a1]) := by rw [hHA]; exact (z5.trans z6) _ _ upd_same
    have s5 : HA t5 = some (.tup [.str "lines", .str a0, .str a1]) := by rw [hHA]; exact z6 _ _ upd_same
    rw [← hHA]
    clear hHA z0 z1 z2 z3 z4 z5 z6
    refine ⟨_, rfl, _, rfl, Nat.le_of_ble_eq_true rfl, fun r1 g1 => ⟨_, rfl, Nat.le_of_ble_eq_true rfl, fun r2 g2 => fun r3 g3 => ⟨_, rfl, _, rfl, Nat.le_of_ble_eq_true rfl, fun r4 g4 => ⟨_, rfl, _, rfl, _, rfl, Nat.le_of_ble_eq_true rfl, fun r5 g5 => ⟨Nat.le_of_ble_eq_true rfl, fun o2 ho2 => ?_⟩⟩⟩⟩⟩
    have w1 := Ext.upd (o := .tup [.str "not", .str "zz", .str a0]) g1
    have w2 := Ext.upd (o := .tup [.str "below", .str a0, .str "zz"]) g2
    have w3 := Ext.upd (o := .dK []) g3
    have w4 := Ext.upd (o := .tup [.non, .str a0, .str a1]) g4
    have w5 := Ext.upd (o := .lst [.str "line", .str a0, .str a1, .str a0]) g5
    have w6 := Ext.upd (o := .lst [.ref r1, .ref r2, .ref r3, .bl true, .ref r4, .ref r5]) ho2
    have nr5 : r5 ≠ p := pool_ne (pool_ext hp (xA.trans (w1.trans (w2.trans (w3.trans w4))))) g5
    refine ⟨o1, o2, _, _, rfl, rfl, (w1.trans (w2.trans (w3.trans (w4.trans (w5.trans w6))))) _ _ o1A, upd_same, Nat.le_of_ble_eq_true rfl, fun o3 ho3 => ?_⟩
    have w7 := Ext.upd (o := .lst ([.non, .int 5, .str "line", .ref t1, .ref t2, .ref t3, .ref t4, .ref t5] ++ [.ref r1, .ref r2, .ref r3, .bl true, .ref r4, .ref r5])) ho3
    have no3 : H o3 = none := ext_none (xA.trans (w1.trans (w2.trans (w3.trans (w4.trans (w5.trans w6)))))) ho3
    obtain ⟨HB, hHB⟩ : ∃ HB, HB = upd (upd (upd (upd (upd (upd (upd HA r1 (.tup [.str "not", .str "zz", .str a0])) r2 (.tup [.str "below", .str a0, .str "zz"])) r3 (.dK [])) r4 (.tup [.non, .str a0, .str a1])) r5 (.lst [.str "line", .str a0, .str a1, .str a0])) o2 (.lst [.ref r1, .ref r2, .ref r3, .bl true, .ref r4, .ref r5])) o3 (.lst ([.non, .int 5, .str "line", .ref t1, .ref t2, .ref t3, .ref t4, .ref t5] ++ [.ref r1, .ref r2, .ref r3, .bl true, .ref r4, .ref r5])) := ⟨_, rfl⟩
    have xAB : Ext HA HB := by
      rw [hHB]
      exact w1.trans (w2.trans (w3.trans (w4.trans (w5.trans (w6.trans w7)))))
    have v1 : HB r1 = some (.tup [.str "not", .str "zz", .str a0]) := by rw [hHB]; exact (w2.trans (w3.trans (w4.trans (w5.trans (w6.trans w7))))) _ _ upd_same
    have v2 : HB r2 = some (.tup [.str "below", .str a0, .str "zz"]) := by rw [hHB]; exact (w3.trans (w4.trans (w5.trans (w6.trans w7)))) _ _ upd_same
    have v3 : HB r3 = some (.dK []) := by rw [hHB]; exact (w4.trans (w5.trans (w6.trans w7))) _ _ upd_same
    have v4 : HB r4 = some (.tup [.non, .str a0, .str a1]) := by rw [hHB]; exact (w5.trans (w6.trans w7)) _ _ upd_same
    have v5 : HB r5 = some (.lst [.str "line", .str a0, .str a1, .str a0]) := by rw [hHB]; exact (w6.trans w7) _ _ upd_same
    obtain ⟨odl, hodl⟩ : ∃ odl : List V, odl = [.non, .int 5, .str "line", .ref t1, .ref t2, .ref t3, .ref t4, .ref t5] ++ [.ref r1, .ref r2, .ref r3, .bl true, .ref r4, .ref r5] := ⟨_, rfl⟩
    have o3B : HB o3 = some (.lst odl) := by rw [hHB, hodl, upd_same]
    rw [← hHB]
    clear hHB w1 w2 w3 w4 w5 w6 w7
    have lodl : odl.length = 14 := by rw [hodl]; rfl
    have xB : Ext H HB := xA.trans xAB
    have nozz : ("zz" : Str) ∉ a0 :: fo' ++ th := fun m => (nms.2 _ m).2.2.2.2.2 "zz" (by decide +kernel) rfl
    obtain ⟨yp, hyp⟩ := hp.lst
    have n5p : r5 ≠ p := fun e => nr5 e
    have odd1 : ∀ x, x ∈ odl → ∀ H2, But HB H2 p → FactOf K H2 (a0 :: fo') th x false := fun x hx H2 b2 => by
      have hpB := xB _ _ hyp
      have tt : ∀ {q : Addr} {ys : List V}, HB q = some (.tup ys) → SqT K H2 q ys := fun {q ys} h => SqT.of (b2 _ _ (ne_of h hpB (fun z => nomatch z)) h)
      have dd : H2 r3 = some (.dK []) := b2 _ _ (ne_of v3 hpB (fun z => nomatch z)) v3
      have ll : H2 r5 = some (.lst [.str "line", .str a0, .str a1, .str a0]) := b2 _ _ n5p v5
      rw [hodl] at hx
      simp only [List.cons_append, List.nil_append, List.mem_cons, List.not_mem_nil, or_false] at hx
      rcases hx with rfl | rfl | rfl | rfl | rfl | rfl | rfl | rfl | rfl | rfl | rfl | rfl | rfl | rfl
      · exact no_kit (.base .non) (by decide +kernel) (by decide +kernel)
      · exact no_kit (.base (.int 5)) (by decide +kernel) (by decide +kernel)
      · exact no_kit (.base (.str _)) (by decide +kernel) (by decide +kernel)
      · exact no_len (.inr (tt (xAB _ _ s1))) (by decide)
      · exact no_len (.inr (tt (xAB _ _ s2))) (by show ¬ (2 = 3); decide)
      · exact no_fact (.inr (tt (xAB _ _ s3))) (.inl rfl) (.inl rfl) (.inl rfl) fb_eq
      · exact no_fact (.inr (tt (xAB _ _ s4))) (.inl rfl) (.inl rfl) (.inl rfl) fb_eq
      · exact no_fact (.inr (tt (xAB _ _ s5))) (.inl rfl) (.inl rfl) (.inl rfl) (fb_w (inV_not (by decide)))
      · exact no_fact (.inr (tt v1)) (.inl rfl) (.inl rfl) (.inl rfl) (fb_o (inV_not nozz))
      · exact no_fact (.inr (tt v2)) (.inl rfl) (.inl rfl) (.inl rfl) (fb_p (inV_not nozz))
      · exact no_kit (.base (.dK dd)) (by decide +kernel) (by decide +kernel)
      · exact no_kit (.base (.bl true)) (by decide +kernel) (by decide +kernel)
      · exact no_fact (.inr (tt v4)) (.inl rfl) (.inl rfl) (.inl rfl) (fb_w (inV_non _))
      · exact no_len (.inl (SqL.of ll)) (by show ¬ (4 = 3); decide)
    have ht' := xB _ _ ht
    refine ⟨fun σ' H' => Ext H H' ∧ ∃ l xs, σ' = [some (.ref p), some (.ref lf), some (.ref lt), some (.str a0), some (.str a1), some (.ref l)] ∧ H' l = some (.lst xs) ∧ H l = none ∧ 0 < xs.length ∧ xs.length ≤ 18 ∧ ∀ x, x ∈ xs → ∀ H2, But H' H2 p → FactOf K H2 (a0 :: fo') th x false, ?_, ?_⟩
    · refine ⟨_, rfl, Nat.zero_le _, fun e he => ?_⟩
      have ze := Ext.upd (o := .lst []) he
      have okt : OkS th := fun z hz => (nok.2 z (List.mem_append_right _ hz)).2.1
      refine ⟨.list (th.map PyData.str), .list [], .lst (SqL.of (ze _ _ ht')) (dpAll_str th), .lst (SqL.of upd_same) .nil, shaped_strL th okt, rfl, _, rfl, ?_⟩
      have ev : PyData.eqv (.list (th.map PyData.str)) (.list []) = decide (th = []) := eqvAll_str th []
      rw [ev]
      refine ite2 (fun c => ?_) fun c => ⟨xB.trans ze, o3, odl, rfl, ze _ _ o3B, no3, by omega, by omega, fun x hx H2 b2 => odd1 x hx H2 (ext_but ze |>.trans b2)⟩
      obtain ⟨b0, th', rfl⟩ : ∃ b0 th', th = b0 :: th' := by
        cases th with
        | nil => exact absurd c (by decide)
        | cons b0 th' => exact ⟨b0, th', rfl⟩
      have hte := ze _ _ ht'
      refine ⟨_, rfl, _, rfl, _, rfl, lt, _, _, _, rfl, rfl, SqL.of hte, atI_nat (j := 0) rfl, Nat.le_of_ble_eq_true rfl, fun u1 k1 => ?_⟩
      have q1 := Ext.upd (o := .tup [.str "not", .str a0, .str b0]) k1
      refine ⟨_, rfl, _, rfl, lt, _, _, _, rfl, rfl, SqL.of (q1 _ _ hte), atI_nat (j := 0) rfl, Nat.le_of_ble_eq_true rfl, fun u2 k2 => ⟨Nat.le_of_ble_eq_true rfl, fun lu klu => ?_⟩⟩
      have q2 := Ext.upd (o := .tup [.str "below", .str a0, .str b0]) k2
      have q3 := Ext.upd (o := .lst [.ref u1, .ref u2]) klu
      refine ⟨lu, _, _, rfl, rfl, upd_same, by decide, by decide, by show 4 ≤ sizeLine; rw [sizeLine_eq]; decide, fun lr klr => ?_⟩
      have q4 := Ext.upd (o := .lst (List.replicate ((2 : Int)).toNat [V.ref u1, V.ref u2]).flatten) klr
      have q14 := q1.trans (q2.trans (q3.trans q4))
      refine ⟨o3, lr, _, _, rfl, rfl, q14 _ _ (ze _ _ o3B), upd_same, by rw [lodl]; show 14 + 4 ≤ sizeLine; rw [sizeLine_eq]; decide, fun lz klz => ?_⟩
      have q5 := Ext.upd (o := .lst (odl ++ (List.replicate ((2 : Int)).toNat [V.ref u1, V.ref u2]).flatten)) klz
      have e4 : (List.replicate ((2 : Int)).toNat [V.ref u1, V.ref u2]).flatten = [.ref u1, .ref u2, .ref u1, .ref u2] := rfl
      have qq := ze.trans (q14.trans q5)
      have su1 := (q2.trans (q3.trans (q4.trans q5))) _ _ upd_same
      have su2 := (q3.trans (q4.trans q5)) _ _ upd_same
      have bfo : b0 ∉ a0 :: fo' := fun m => (List.nodup_append.mp nd).2.2 b0 m b0 List.mem_cons_self rfl
      refine ⟨xB.trans qq, lz, odl ++ [.ref u1, .ref u2, .ref u1, .ref u2], rfl, by rw [← e4]; exact upd_same, ext_none (xB.trans (ze.trans q14)) klz, by rw [List.length_append]; omega, by rw [List.length_append, lodl]; exact Nat.le_refl _, fun x hx H2 b2 => ?_⟩
      rcases List.mem_append.mp hx with hx | hx
      · exact odd1 x hx H2 ((ext_but qq).trans b2)
      · have hpz := (xB.trans qq) _ _ hyp
        have f1' : FactOf K H2 (a0 :: fo') (b0 :: th') (.ref u1) false := no_fact (.inr (SqT.of (b2 _ _ (ne_of su1 hpz (fun z => nomatch z)) su1))) (.inl rfl) (.inl rfl) (.inl rfl) (fb_fo (fun z => by injection z with z; exact absurd z (by decide)) (inV_not bfo))
        have f2' : FactOf K H2 (a0 :: fo') (b0 :: th') (.ref u2) false := no_fact (.inr (SqT.of (b2 _ _ (ne_of su2 hpz (fun z => nomatch z)) su2))) (.inl rfl) (.inl rfl) (.inl rfl) (fb_fo (fun z => by injection z with z; exact absurd z (by decide)) (inV_not bfo))
        simp only [List.mem_cons, List.not_mem_nil, or_false] at hx
        rcases hx with rfl | rfl | rfl | rfl
        · exact f1'
        · exact f2'
        · exact f1'
        · exact f2'
    · rintro σ' H' ⟨x', l, xs, rfl, hl, l0, x1, x18, oo⟩
      have nlp : l ≠ p := pool_ne hp l0
      refine ⟨_, rfl, _, rfl, _, rfl, _, _, rfl, .inl ⟨_, SqL.of hl, rfl⟩, p, _, n, rfl, by omega, by omega, pool_ext hp x', by omega, fun r o r0 r1 gp => ?_⟩
      obtain ⟨r, rfl⟩ := Int.eq_ofNat_of_zero_le r0
      have r1' : r < xs.length := by omega
      obtain ⟨H1, hH1⟩ : ∃ H1, H1 = upd H' p o := ⟨_, rfl⟩
      rw [← hH1] at gp ⊢
      have b1 : But H' H1 p := by
        rw [hH1]
        exact But.upd (ext_but Ext.rfl')
      refine ⟨l, _, _, xs[r], rfl, rfl, SqL.of (b1 _ _ nlp hl), atI_nat (List.getElem?_eq_getElem r1'), ?_⟩
      exact q xs[r] H1 ((ext_but x').trans b1) gp fun H2 b2 => oo _ (List.getElem_mem r1') H2 (b1.trans b2)
end
end My

namespace My
open PySem PySem.Spec PyProof.Rows L2
/-! ### rows as data, deeper -/
theorem canLay_dn (m : Nat) : ∀ ds : List PyData, (∀ d, d ∈ ds → d.canLay0 = true ∧ d.depth ≤ m) → PyData.canLayAll0 ds = true ∧ PyData.depthAll ds ≤ m
  | [], _ => ⟨rfl, Nat.zero_le _⟩
  | d :: ds, h => by
    obtain ⟨h1, h2⟩ := canLay_dn m ds fun x hx => h x (List.mem_cons_of_mem _ hx)
    obtain ⟨h3, h4⟩ := h d List.mem_cons_self
    refine ⟨?_, Nat.max_le.mpr ⟨h4, h2⟩⟩
    show (d.canLay0 && PyData.canLayAll0 ds) = true
    rw [h1, h3]
    rfl
theorem shaped_dn {m : Nat} (hm : m ≤ 63) (ds : List PyData) (h : ∀ d, d ∈ ds → d.canLay0 = true ∧ d.depth ≤ m) : SeqAt.shaped (.list ds) = true := by
  obtain ⟨h1, h2⟩ := canLay_dn m ds h
  refine Bool.and_eq_true_iff.mpr ⟨h1, decide_eq_true ?_⟩
  show PyData.depthAll ds + 1 ≤ 64
  omega
theorem rowsD_lay {rs : List (List Str)} (h : OkR rs) : (rowsD rs).canLay0 = true ∧ (rowsD rs).depth ≤ 3 := by
  obtain ⟨h1, h2⟩ := canLay_dn 2 (rs.map fun r => .tuple (r.map PyData.str)) fun d hd => by
    obtain ⟨r, hr, rfl⟩ := List.mem_map.mp hd
    exact flat_tup r (h r hr)
  exact ⟨h1, Nat.succ_le_succ h2⟩
/-- told rows -/
def TR (fo th : List Str) (rs : List (List Str)) : Prop := ∀ r, r ∈ rs → ∃ w a b, r = [w, a, b] ∧ IsT fo th w a b
theorem TR.fact {fo th : List Str} {rs : List (List Str)} (h : TR fo th rs) : FactR fo th rs := fun r hr => by
  obtain ⟨w, a, b, e, i⟩ := h r hr
  exact ⟨w, a, b, e, i.1⟩
theorem TR.told {fo th : List Str} {rs : List (List Str)} (h : TR fo th rs) : rs.map (toldR (fo ++ th)) = rs := by
  conv => rhs; rw [← List.map_id rs]
  refine List.map_congr_left fun r hr => ?_
  obtain ⟨w, a, b, rfl, i⟩ := h r hr
  exact i.2
theorem TR.ok {fo th : List Str} {rs : List (List Str)} (h : TR fo th rs) (zok : ∀ z, z ∈ fo ++ th → PyData.strOk z = true) : OkR rs := fun r hr z hz => by
  obtain ⟨w, a, b, rfl, i⟩ := h r hr
  simp at hz
  rcases hz with rfl | rfl | rfl
  · exact wordsOk _ i.1.1
  · exact zok _ i.1.2.1
  · exact zok _ i.1.2.2.1
theorem TR.sub {fo th : List Str} {rs ss : List (List Str)} (h : TR fo th rs) (s : ∀ r, r ∈ ss → r ∈ rs) : TR fo th ss := fun r hr => h r (s r hr)
theorem once_fold : ∀ rs acc : List (List Str), (acc ++ rs).Nodup → rs.foldl (fun acc r => if r ∈ acc then acc else acc ++ [r]) acc = acc ++ rs
  | [], acc, _ => (List.append_nil acc).symm
  | r :: rs, acc, nd => by
    have nr : r ∉ acc := fun m => (List.nodup_append.mp nd).2.2 r m r List.mem_cons_self rfl
    rw [List.foldl_cons, if_neg nr, once_fold rs (acc ++ [r]) (by rw [List.append_assoc]; exact nd), List.append_assoc]
    rfl
theorem once_nd {rs : List (List Str)} (nd : rs.Nodup) : onceR rs = rs := once_fold rs [] nd
theorem rev_neN {α : Type} {zs : List α} (h1 : 1 < zs.length) (nd : zs.Nodup) : zs ≠ zs.reverse := fun e => by
  have h0 : 0 < zs.length := by omega
  have a : zs[0]? = zs.reverse[0]? := congrArg (fun l : List α => l[0]?) e
  rw [List.getElem?_reverse h0, List.getElem?_eq_getElem h0, List.getElem?_eq_getElem (by omega)] at a
  injection a with a
  have := (List.getElem_inj nd).mp a
  omega
theorem Rows.rev {K : PySem.W.Frag} {H : Hp} : ∀ {xs : List V} {rs : List (List Str)}, Rows K H xs rs → Rows K H xs.reverse rs.reverse
  | [], [], _ => True.intro
  | x :: xs, r :: rs, ⟨h1, h2⟩ => by
    rw [List.reverse_cons, List.reverse_cons]
    exact Rows.app (Rows.rev h2) ⟨h1, True.intro⟩
  | [], _ :: _, h => h.elim
  | _ :: _, [], h => h.elim
theorem Rows.drop1 {K : PySem.W.Frag} {H : Hp} : ∀ {xs : List V} {rs : List (List Str)}, Rows K H xs rs → Rows K H (xs.drop 1) (rs.drop 1)
  | [], [], _ => True.intro
  | x :: xs, r :: rs, ⟨h1, h2⟩ => h2
  | [], _ :: _, h => h.elim
  | _ :: _, [], h => h.elim
theorem Rows.raws {K : PySem.W.Frag} {H : Hp} {xs : List V} {rs : List (List Str)} (h : Rows K H xs rs) : Raws K H xs rs := ⟨h.len, fun i x hx => by
  obtain ⟨t, r, e, s, hr⟩ := h.at_ hx
  exact ⟨t, r, e, hr, .inr s⟩⟩
/-- Facts(..) of facts -/
theorem mkF {K : PySem.W.Frag} {CF C CB h p x' dx : Addr} {H : Hp} {fo th : List Str} {xs : List V} {rs : List (List Str)} {R : Hp → Prop} {E : XK} (hou : Hou H K C h fo th) (nd : (fo ++ th).Nodup) (sz : (fo ++ th).length < sizeLine) (zok : ∀ z, z ∈ fo ++ th → PyData.strOk z = true)
    (sq : SeqAt2 K H p xs) (raw : Raws K H xs rs) (fr : FactR fo th rs) (len : rs.length < 1000) (h1 : H x' = none) (h2 : H dx = none) (h3 : dx ≠ x') (q : ∀ H', Ext H H' → FacAt H' K CF C x' fo th (onceR (rs.map (toldR (fo ++ th)))) → R H') :
    spFInit K CF C CB [.ref x', .ref h, .ref p] (L2.upd (L2.upd H dx (.own x')) x' (.ins CF dx [])) (fun v H2 => v = .non ∧ R H2) E := by
  have xn : Ext H (L2.upd (L2.upd H dx (.own x')) x' (.ins CF dx [])) := fun c u k => by
    rw [upd_ne (ne_of_none k h1), upd_ne (ne_of_none k h2)]
    exact k
  obtain ⟨hx, hfs, hins⟩ := hou.ins
  exact ⟨x', dx, h, _, fo, th, rfl, upd_same, ne_of_none hins h1, hou.ext xn, nd, sz, zok, .inr ⟨p, xs, rs, rfl, sq.ext xn, raw.ext xn, fr, len, fun H' b fa => ⟨rfl, q H' (fun c u k => b c u (ne_of_none k h1) (xn c u k)) fa⟩⟩⟩
theorem sqL_upd {K : PySem.W.Frag} {H : Hp} {l f : Addr} {o : HO} {xs : List V} (h : SqL K H f xs) (n : f ≠ l) : SqL K (L2.upd H l o) f xs := by
  rcases h with (h | ⟨o', h⟩) | h
  · exact .inl (.inl (by rw [upd_ne n]; exact h))
  · exact .inl (.inr ⟨o', by rw [upd_ne n]; exact h⟩)
  · exact .inr h
/-- a thing that is told in rows -/
def InF (K : PySem.W.Frag) (fo th : List Str) (rows : List (List Str)) (H : Hp) (x : V) : Prop := ∃ r w c d, x = .ref r ∧ SeqAt2 K H r [.str w, .str c, .str d] ∧ IsF fo th w c d ∧ toldS (fo ++ th) w c d ∈ rows
theorem InF.ext {K : PySem.W.Frag} {fo th : List Str} {rows : List (List Str)} {H H' : Hp} {x : V} (h : InF K fo th rows H x) (e : Ext H H') : InF K fo th rows H' x := by
  obtain ⟨r, w, c, d, h1, h2, h3⟩ := h
  exact ⟨r, w, c, d, h1, h2.ext e, h3⟩
theorem InF.upd {K : PySem.W.Frag} {fo th : List Str} {rows : List (List Str)} {H : Hp} {x : V} {l : Addr} {ys zs : List V} (h : InF K fo th rows H x) (n : x ≠ .ref l) (hl : H l = some (.lst ys)) : InF K fo th rows (L2.upd H l (.lst zs)) x := by
  obtain ⟨r, w, c, d, rfl, h2, h3⟩ := h
  exact ⟨r, w, c, d, rfl, h2.elim (fun z => .inl (sqL_upd z fun e => n (by rw [e]))) (fun z => .inr (sqT_upd z hl)), h3⟩
/-- a thing that is a fact, or none, and not told in rows -/
def OutF (K : PySem.W.Frag) (fo th : List Str) (rows : List (List Str)) (H : Hp) (x : V) : Prop := FactOf K H fo th x false ∨ ∃ r w c d, x = .ref r ∧ SqT K H r [.str w, .str c, .str d] ∧ IsF fo th w c d ∧ toldS (fo ++ th) w c d ∉ rows
theorem OutF.ext {K : PySem.W.Frag} {fo th : List Str} {rows : List (List Str)} {H H' : Hp} {x : V} (h : OutF K fo th rows H x) (e : Ext H H') : OutF K fo th rows H' x := by
  rcases h with h | ⟨r, w, c, d, h1, h2, h3⟩
  · exact .inl (h.ext e)
  · exact .inr ⟨r, w, c, d, h1, h2.ext e, h3⟩
/-- anything that facts are not equal to -/
def UnF (K : PySem.W.Frag) (CF C : Addr) (fo th : List Str) (rows : List (List Str)) (H : Hp) (x : V) : Prop := (∃ T, T ∈ ["NoneType", "list", "tuple", "int", "str"] ∧ TyX K H x (.type T)) ∨ ∃ b rows2, x = .ref b ∧ FacAt H K CF C b fo th rows2 ∧ rows ≠ rows2
theorem UnF.ext {K : PySem.W.Frag} {CF C : Addr} {fo th : List Str} {rows : List (List Str)} {H H' : Hp} {x : V} (h : UnF K CF C fo th rows H x) (e : Ext H H') : UnF K CF C fo th rows H' x := by
  rcases h with ⟨T, h1, h2⟩ | ⟨b, r2, h1, h2, h3⟩
  · exact .inl ⟨T, h1, h2.ext e⟩
  · exact .inr ⟨b, r2, h1, h2.ext e, h3⟩
def spWalks (K : PySem.W.Frag) (CF C : Addr) : Sp := fun vs H Q _ => ∃ a l fo th rows, vs = [.ref a, .ref l] ∧ FacAt H K CF C a fo th rows ∧ RowsAt K H l rows ∧ rows.length ≤ 100 ∧ ∀ H', Ext H H' → Q (.bl true) H'
def spInRight (K : PySem.W.Frag) (CF C : Addr) : Sp := fun vs H Q _ => ∃ a l sl fo th rows srows, vs = [.ref a, .ref l, .ref sl] ∧ FacAt H K CF C a fo th rows ∧ (fo ++ th).Nodup ∧ (fo ++ th).length < sizeLine ∧ (∀ z, z ∈ fo ++ th → PyData.strOk z = true) ∧
  RowsAt K H l rows ∧ TR fo th rows ∧ rows.length ≤ 100 ∧ RowsAt K H sl srows ∧ TR fo th srows ∧ srows.length ≤ 100 ∧ ∀ H', Ext H H' → Q (.bl true) H'
def spAlone (K : PySem.W.Frag) (CF C : Addr) : Sp := fun vs H Q _ => ∃ a h l fo th rows, vs = [.ref a, .ref h, .ref l] ∧ FacAt H K CF C a fo th rows ∧ Hou H K C h fo th ∧ (fo ++ th).Nodup ∧ (fo ++ th).length < sizeLine ∧ (∀ z, z ∈ fo ++ th → PyData.strOk z = true) ∧
  RowsAt K H l rows ∧ TR fo th rows ∧ rows.Nodup ∧ rows.length ≤ 100 ∧ ∀ H', Ext H H' → Q (.bl true) H'
abbrev nm__law_walks_apart : List Str := ["_law_facts", "_law_due", "_law_walked", "_law_fact_here", "_law_x"]
theorem sc__law_walks_apart : FnScope nm__law_walks_apart ["_law_facts", "_law_due"] (defScope s__law_walks_apart) := ⟨rfl, rfl, rfl, by decide +kernel, rfl, by decide +kernel, by decide +kernel⟩
abbrev nm__law_is_in_right : List Str := ["_law_facts", "_law_due", "_law_some", "_law_mixed", "_law_absent", "_law_x", "_law_w", "_law_y"]
theorem sc__law_is_in_right : FnScope nm__law_is_in_right ["_law_facts", "_law_due", "_law_some"] (defScope s__law_is_in_right) := ⟨rfl, rfl, rfl, by decide +kernel, rfl, by decide +kernel, by decide +kernel⟩
abbrev nm__law_is_alone : List Str := ["_law_facts", "_law_house_here", "_law_due", "_law_others", "_law_x"]
theorem sc__law_is_alone : FnScope nm__law_is_alone ["_law_facts", "_law_house_here", "_law_due"] (defScope s__law_is_alone) := ⟨rfl, rfl, rfl, by decide +kernel, rfl, by decide +kernel, by decide +kernel⟩
section
variable {P : Program} {w : World} {K : PySem.W.Frag} {mg : Str → Option Value} {base : Heap} {f C CBH CF CB : Addr} {fd : FuncData}
theorem ok_walks (Fn : FnP K "_law_walks_apart" s__law_walks_apart f fd) (F : FacTxt P w K mg CF C CB) (gB_len : mg "len" = none) : FnOk P w K mg base CX0 3 f fd ["_law_facts", "_law_due"] (spWalks K CF C) := by
  refine Fn.ok sc__law_walks_apart (fun vs H Q E h => ?_) (fun cdv A outer s H vs Q E hr h => ⟨_, PSs.nox
    (pss_cons (ps_set (i := 2) sc__law_walks_apart.nd rfl (Or.inl rfl) (pe_lst pa_nil))
      (pss_cons (ps_for PassesOwn.never rfl (pi_own (hr.mono (by decide)) F.mW F.W F.bW (pv 0)) (pg_name (i := 3) sc__law_walks_apart.nd rfl (Or.inl rfl))
      (pss_one (ps_expr (pe_bm PySem.F.plainAttrs_list PySem.F.slot_list_append PySem.F.type_list_append mt_append (pv 2) (pa_cons (pe_lc (own := [("_law_x", 4)]) (g := (gName 4)) (tt := tYes) rfl sc__law_walks_apart.nd (pi_own (hr.mono (by decide)) F.mW F.W F.bW (pv 0)) (blkOk_by (N := nm__law_walks_apart) (sc := defScope s__law_walks_apart) (by decide +kernel)) (fun _ _ _ _ _ => (pg_name (i := 4) sc__law_walks_apart.nd rfl (Or.inl rfl))) (fun _ _ _ _ _ => pts_nil) (fun _ _ _ _ _ => (pv 4))) pa_nil)))))
      (pss_one (ps_ret (pe_cmpR (op_eqD hr.units) (pv 2) (pe_op op_rep (pe_lst (pa_cons (pv 1) pa_nil)) (pe_callB call_len (by rfl) gB_len boot_len (pa_cons (pv 1) pa_nil))) (nomark _)))))), ?_⟩)
  · obtain ⟨a, l, fo, th, rows, rfl, _⟩ := h
    rfl
  · obtain ⟨a, l, fo, th, rows, rfl, ⟨dx, fs, h, r, ys, h1, h2, h3, h4, h5, h6, h7, h8⟩, ⟨dxs, hl, hr0⟩, len, q⟩ := h
    have yl : ys.length = rows.length := h6.len
    have dl : dxs.length = rows.length := hr0.len
    refine ⟨Nat.zero_le _, fun l9 hl9 => ?_⟩
    have x9 := Ext.upd (o := .lst []) hl9
    refine ⟨_, rfl, a, dx, fs, r, ys, rfl, x9 _ _ h1, h3, h5.ext x9, for_it (walk_tup (xs := ys)) (fun i σ H' => ∃ (v5 : Option V) (ws : List V), σ = [some (.ref a), some (.ref l), some (.ref l9), v5, none] ∧ Ext H H' ∧ H' l9 = some (.lst ws) ∧ ws.length = i ∧ ∀ x, x ∈ ws → ∃ b, x = .ref b ∧ b ≠ l9 ∧ H' b = some (.lst ys)) ⟨none, [], rfl, x9, upd_same, rfl, fun x hx => by cases hx⟩ (fun i σ H' _ ⟨_, _, _, z, _⟩ => h5.ext z) ?_ ?_⟩
    · rintro i x σ H' H'' hi ⟨v5, ws, rfl, xw, lw, wl, wa⟩ ⟨rfl, hx⟩
      refine ⟨_, rfl, .inl ⟨rfl, _, SqL.of lw⟩, ?_⟩
      refine ⟨_, rfl, a, dx, fs, r, ys, rfl, xw _ _ h1, h3, h5.ext xw, fun D hD => lc_it (walk_tup (xs := ys)) (fun j Hj => Ext H'' Hj ∧ Hj D = some (.lst (ys.take j))) ⟨Ext.upd hD, upd_same⟩ (fun j Hj _ z => (h5.ext xw).ext z.1) ?_ ?_⟩
      · rintro j y Hj Hj' hj ⟨xj, lj⟩ ⟨rfl, hy⟩
        refine ⟨rfl, ?_⟩
        refine lcYes ?_
        refine ⟨_, rfl, _, lj, ?_, xj.over hD, ?_⟩
        · rw [List.length_take, sizeLine_eq]
          omega
        · rw [upd_same, List.take_add_one, hy]
          rfl
      rintro Hd ⟨xd, ld⟩
      rw [List.take_length] at ld
      have lw' := xd _ _ lw
      have ne9 : l9 ≠ D := ne_of_none lw hD
      refine ⟨l9, ws, _, rfl, rfl, lw', by rw [wl, sizeLine_eq]; omega, _, ws ++ [.ref D], rfl, ?_, upd_same, by rw [List.length_append, wl]; rfl, fun y hy => ?_⟩
      · exact (xw.trans xd).over hl9
      · rcases List.mem_append.mp hy with hy | hy
        · obtain ⟨b, rfl, e, hb⟩ := wa y hy
          refine ⟨b, rfl, e, ?_⟩
          rw [upd_ne e]
          exact xd _ _ hb
        · rw [List.mem_singleton.mp hy]
          exact ⟨D, rfl, Ne.symm ne9, by rw [upd_ne (Ne.symm ne9)]; exact ld⟩
    rintro σ Hd ⟨v5, ws, rfl, xw, lw, wl, wa⟩
    have hld := xw _ _ hl
    refine ⟨_, rfl, _, rfl, Nat.le_of_ble_eq_true rfl, fun l10 hl10 => ?_⟩
    refine ⟨_, rfl, _, dxs.length, rfl, .inl ⟨_, SqL.of (Ext.upd hl10 _ _ hld), rfl⟩, l10, _, _, rfl, rfl, upd_same, Int.le_trans (by decide) (Int.natCast_nonneg _), Int.lt_of_le_of_lt (Int.ofNat_le.mpr (by rw [dl]; exact len)) (by decide), by rw [Int.toNat_natCast, dl, sizeLine_eq]; show 1 * _ ≤ _; omega, fun l11 hl11 => ?_⟩
    rw [Int.toNat_natCast, flat_rep]
    obtain ⟨H11, hH11⟩ : ∃ H11, H11 = L2.upd (L2.upd Hd l10 (.lst [.ref l])) l11 (.lst (List.replicate dxs.length (.ref l))) := ⟨_, rfl⟩
    rw [← hH11]
    have x11 : Ext Hd H11 := by
      rw [hH11]
      exact (Ext.upd hl10).trans (Ext.upd hl11)
    have l1111 : H11 l11 = some (.lst (List.replicate dxs.length (.ref l))) := by rw [hH11, upd_same]
    have sW : SeqAt.shaped (.list (List.replicate rows.length (rowsD rows))) = true := shaped_dn (m := 3) (by decide) _ fun d hd => by
      rw [List.eq_of_mem_replicate hd]
      exact rowsD_lay h7
    have dW : DpAll K H11 ws (List.replicate rows.length (rowsD rows)) := by
      rw [← yl, ← wl]
      refine dpAll_rep ws fun x hx => ?_
      obtain ⟨b, rfl, _, hb⟩ := wa x hx
      exact .lst (SqL.of (x11 _ _ hb)) (rows_dp (h6.ext (xw.trans x11)))
    have dR : DpAll K H11 (List.replicate dxs.length (.ref l)) (List.replicate rows.length (rowsD rows)) := by
      have z := dpAll_rep (K := K) (H := H11) (d := rowsD rows) (List.replicate dxs.length (.ref l)) fun x hx => by
        rw [List.eq_of_mem_replicate hx]
        exact .lst (SqL.of (x11 _ _ hld)) (rows_dp (hr0.ext (xw.trans x11)))
      rw [List.length_replicate, dl] at z
      rw [dl]
      exact z
    refine ⟨_, _, .lst (SqL.of (x11 _ _ lw)) dW, .lst (SqL.of l1111) dR, sW, sW, ?_⟩
    rw [SeqAt.eqv_refl _ (SeqAt.canLay_of_shaped sW)]
    exact q _ (xw.trans x11)
theorem ok_inRight (Fn : FnP K "_law_is_in_right" s__law_is_in_right f fd) (F : FacTxt P w K mg CF C CB) (gB_list : mg "list" = none) (gB_all : mg "all" = none) (gB_any : mg "any" = none) : FnOk P w K mg base CX0 7 f fd ["_law_facts", "_law_due", "_law_some"] (spInRight K CF C) := by
  refine Fn.ok sc__law_is_in_right (fun vs H Q E h => ?_) (fun cdv A outer s H vs Q E hr h => ⟨_, PSs.nox
    (pss_cons (ps_set (i := 3) sc__law_is_in_right.nd rfl (Or.inl rfl) (pe_op L2.op_cat (pe_op L2.op_cat (pv 1) (pe_lc (own := [("_law_x", 5)]) (g := (gName 5)) (tt := tYes) rfl sc__law_is_in_right.nd (pi_list (pv 1)) (blkOk_by (N := nm__law_is_in_right) (sc := defScope s__law_is_in_right) (by decide +kernel)) (fun _ _ _ _ _ => (pg_name (i := 5) sc__law_is_in_right.nd rfl (Or.inl rfl))) (fun _ _ _ _ _ => pts_nil) (fun _ _ _ _ _ => (pe_callTy (caK (r := rLstS) (K := K) rfl call_lstS) (by rfl) gB_list (by decide +kernel) (pa_cons (pv 5) pa_nil))))) (pe_lc (own := [("_law_w", 6), ("_law_x", 5), ("_law_y", 7)]) (g := (gTup K 3 (gCons (gName 6) (gCons (gName 5) (gCons (gName 7) gNil))))) rfl sc__law_is_in_right.nd (pi_list (pv 1)) (blkOk_by (N := nm__law_is_in_right) (sc := defScope s__law_is_in_right) (by decide +kernel)) (fun _ _ _ _ _ => (pg_tup rfl (pgs_cons (pg_name (i := 6) sc__law_is_in_right.nd rfl (Or.inl rfl)) (pgs_cons (pg_name (i := 5) sc__law_is_in_right.nd rfl (Or.inl rfl)) (pgs_cons (pg_name (i := 7) sc__law_is_in_right.nd rfl (Or.inl rfl)) pgs_nil))))) (fun _ _ _ _ _ => pts_one (pt_cmpR op_eq (pv 6) pe_str (nomark _))) (fun _ _ _ _ _ => (pe_tup (pa_cons (pv 6) (pa_cons (pv 7) (pa_cons (pv 5) pa_nil))))))))
      (pss_cons (ps_set (i := 4) sc__law_is_in_right.nd rfl (Or.inl rfl) (pe_op L2.op_cat (pe_lc (own := [("_law_x", 5)]) (g := (gName 5)) rfl sc__law_is_in_right.nd (pi_list (pv 2)) (blkOk_by (N := nm__law_is_in_right) (sc := defScope s__law_is_in_right) (by decide +kernel)) (fun _ _ _ _ _ => (pg_name (i := 5) sc__law_is_in_right.nd rfl (Or.inl rfl))) (fun _ _ _ _ _ => pts_one (pt_cmpR (opK (r := rNotInD) (K := K) rfl (op_notInD (u65 hr))) (pv 5) (pv 1) (by rfl))) (fun _ _ _ _ _ => (pv 5))) (pe_lst (pa_cons pe_non (pa_cons pe_int (pa_cons pe_str (pa_cons (pe_tup pa_nil) (pa_cons pe_dnewK pa_nil))))))))
      (pss_one (ps_ret (pe_and (pe_callB (cr_all rfl) (by rfl) gB_all boot_all (pa_cons (pe_lc (own := [("_law_x", 5)]) (g := (gName 5)) (tt := tYes) rfl sc__law_is_in_right.nd (pi_list (pv 3)) (blkOk_by (N := nm__law_is_in_right) (sc := defScope s__law_is_in_right) (by decide +kernel)) (fun _ _ _ _ _ => (pg_name (i := 5) sc__law_is_in_right.nd rfl (Or.inl rfl))) (fun _ _ _ _ _ => pts_nil) (fun _ _ _ _ _ => (pe_cmpR (op_inO (EI := E0) (hr.mono (by decide)) F.mS (F.S _) F.bS pass0) (pv 5) (pv 0) (by rfl)))) pa_nil)) (pe_one (pe_not (pe_callB (cr_any rfl) (by rfl) gB_any boot_any (pa_cons (pe_lc (own := [("_law_x", 5)]) (g := (gName 5)) (tt := tYes) rfl sc__law_is_in_right.nd (pi_list (pv 4)) (blkOk_by (N := nm__law_is_in_right) (sc := defScope s__law_is_in_right) (by decide +kernel)) (fun _ _ _ _ _ => (pg_name (i := 5) sc__law_is_in_right.nd rfl (Or.inl rfl))) (fun _ _ _ _ _ => pts_nil) (fun _ _ _ _ _ => (pe_cmpR (op_inO (EI := E0) (hr.mono (by decide)) F.mS (F.S _) F.bS pass0) (pv 5) (pv 0) (by rfl)))) pa_nil))))))))), ?_⟩)
  · obtain ⟨a, l, sl, fo, th, rows, srows, rfl, _⟩ := h
    rfl
  · obtain ⟨a, l, sl, fo, th, rows, srows, rfl, fa, nd, sz, zok, ⟨dxs, hl, hr0⟩, tr, len, ⟨sxs, hs, sr0⟩, st, slen, q⟩ := h
    have dl : dxs.length = rows.length := hr0.len
    have sll : sxs.length = srows.length := sr0.len
    obtain ⟨dx, fs, hins⟩ := fa.ins
    -- the lists of the due ones
    refine ⟨_, rfl, _, rfl, l, rfl, ⟨_, SqL.of hl⟩, fun D1 hD1 => ?_⟩
    refine lc_list (K := K) (a := l) (xs := dxs) (fun i H' => Ext H H' ∧ ∃ acc, H' D1 = some (.lst acc) ∧ acc.length ≤ i ∧ ∀ x, x ∈ acc → x ≠ .ref D1 ∧ InF K fo th rows H' x) ⟨Ext.upd hD1, [], upd_same, Nat.zero_le _, fun x hx => by cases hx⟩ (fun i H' _ z => SqL.of (z.1 _ _ hl)) ?_ ?_
    · rintro i v H1 hv ⟨x1, acc, a1, alen, ha⟩
      have il : i < dxs.length := (List.getElem?_eq_some_iff.mp hv).1
      obtain ⟨t, r, rfl, sq, hr⟩ := (hr0.ext x1).at_ hv
      obtain ⟨wd, c, d, rfl, ist⟩ := tr r (List.mem_of_getElem? hr)
      refine ⟨rfl, ?_⟩
      refine lcYes ?_
      refine ⟨_, rfl, t, _, rfl, .inr sq, fun l2 hl2 => ?_⟩
      have x2 := Ext.upd (o := .lst [.str wd, .str c, .str d]) hl2
      have a2 := x2 _ _ a1
      refine ⟨acc, a2, by rw [sizeLine_eq]; omega, (x1.trans x2).over hD1, _, upd_same, by rw [List.length_append]; exact Nat.succ_le_succ alen, fun x hx => ?_⟩
      have key : x ≠ .ref D1 ∧ InF K fo th rows (L2.upd H1 l2 (.lst [.str wd, .str c, .str d])) x := by
        rcases List.mem_append.mp hx with hx | hx
        · exact ⟨(ha x hx).1, (ha x hx).2.ext x2⟩
        · rw [List.mem_singleton.mp hx]
          refine ⟨fun e => ?_, l2, wd, c, d, rfl, .inl (SqL.of upd_same), ist.1, ?_⟩
          · injection e with e
            rw [← e, hl2] at a1
            cases a1
          · rw [ist.2]
            exact List.mem_of_getElem? hr
      exact ⟨key.1, key.2.upd key.1 a2⟩
    rintro H1 ⟨x1, acc1, a1, alen1, ha1⟩
    have hl1 := x1 _ _ hl
    refine ⟨l, D1, _, _, rfl, rfl, hl1, a1, by rw [sizeLine_eq]; omega, fun m2 hm2 => ?_⟩
    have y2 := Ext.upd (o := .lst (dxs ++ acc1)) hm2
    obtain ⟨H2, hH2⟩ : ∃ H2, H2 = L2.upd H1 m2 (.lst (dxs ++ acc1)) := ⟨_, rfl⟩
    rw [← hH2] at y2 ⊢
    have m22 : H2 m2 = some (.lst (dxs ++ acc1)) := by rw [hH2, upd_same]
    have x2 := x1.trans y2
    have in2 : ∀ x, x ∈ dxs ++ acc1 → InF K fo th rows H2 x := fun x hx => by
      rcases List.mem_append.mp hx with hx | hx
      · obtain ⟨i, hi⟩ := List.mem_iff_getElem?.mp hx
        obtain ⟨t, r, rfl, sq, hr⟩ := (hr0.ext x2).at_ hi
        obtain ⟨wd, c, d, rfl, ist⟩ := tr r (List.mem_of_getElem? hr)
        exact ⟨t, wd, c, d, rfl, .inr sq, ist.1, by rw [ist.2]; exact List.mem_of_getElem? hr⟩
      · exact (ha1 x hx).2.ext y2
    -- the lines the other way round
    refine ⟨_, rfl, l, rfl, ⟨_, SqL.of (x2 _ _ hl)⟩, fun D3 hD3 => ?_⟩
    refine lc_list (K := K) (a := l) (xs := dxs) (fun i H' => Ext H2 H' ∧ ∃ acc, H' D3 = some (.lst acc) ∧ acc.length ≤ i ∧ ∀ x, x ∈ acc → x ≠ .ref D3 ∧ InF K fo th rows H' x) ⟨Ext.upd hD3, [], upd_same, Nat.zero_le _, fun x hx => by cases hx⟩ (fun i H' _ z => SqL.of (z.1 _ _ (x2 _ _ hl))) ?_ ?_
    · rintro i v H3 hv ⟨x3, acc, a3, alen, ha⟩
      have il : i < dxs.length := (List.getElem?_eq_some_iff.mp hv).1
      obtain ⟨t, r, rfl, sq, hr⟩ := (hr0.ext (x2.trans x3)).at_ hv
      obtain ⟨wd, c, d, rfl, ist⟩ := tr r (List.mem_of_getElem? hr)
      refine ⟨t, _, rfl, sq, rfl, _, _, rfl, _, _, rfl, _, _, rfl, rfl, ?_⟩
      refine ⟨rfl, _, rfl, rfl, _, rfl, ?_⟩
      refine ite2 (fun e => ?_) fun e => ⟨x3, acc, a3, by omega, ha⟩
      have e' : wd = "line" := by
        have z := of_decide_eq_true e
        injection z
      subst e'
      refine ⟨_, rfl, _, rfl, _, rfl, Nat.le_of_ble_eq_true rfl, fun T hT => ?_⟩
      have x4 := Ext.upd (o := .tup [.str "line", .str d, .str c]) hT
      have a4 := x4 _ _ a3
      refine ⟨acc, a4, by rw [sizeLine_eq]; omega, (x3.trans x4).over hD3, _, upd_same, by rw [List.length_append]; exact Nat.succ_le_succ alen, fun x hx => ?_⟩
      have key : x ≠ .ref D3 ∧ InF K fo th rows (L2.upd H3 T (.tup [.str "line", .str d, .str c])) x := by
        rcases List.mem_append.mp hx with hx | hx
        · exact ⟨(ha x hx).1, (ha x hx).2.ext x4⟩
        · rw [List.mem_singleton.mp hx]
          refine ⟨fun e => ?_, T, "line", d, c, rfl, .inr (SqT.of upd_same), isF_swap ist.1, ?_⟩
          · injection e with e
            rw [← e, hT] at a3
            cases a3
          · have z : toldS (fo ++ th) "line" d c = toldS (fo ++ th) "line" c d := by
              unfold toldS
              rw [if_pos rfl, if_pos rfl, ord_comm]
            rw [z, ist.2]
            exact List.mem_of_getElem? hr
      exact ⟨key.1, key.2.upd key.1 a4⟩
    rintro H3 ⟨y3, acc3, a3, alen3, ha3⟩
    have m3 := y3 _ _ m22
    refine ⟨m2, D3, _, _, rfl, rfl, m3, a3, by rw [List.length_append, sizeLine_eq]; omega, fun m4 hm4 => ?_⟩
    have y4 := Ext.upd (o := .lst (dxs ++ acc1 ++ acc3)) hm4
    obtain ⟨H4, hH4⟩ : ∃ H4, H4 = L2.upd H3 m4 (.lst (dxs ++ acc1 ++ acc3)) := ⟨_, rfl⟩
    rw [← hH4] at y4 ⊢
    have m44 : H4 m4 = some (.lst (dxs ++ acc1 ++ acc3)) := by rw [hH4, upd_same]
    have x4 := x2.trans (y3.trans y4)
    obtain ⟨mix, hmix⟩ : ∃ mix, mix = dxs ++ acc1 ++ acc3 := ⟨_, rfl⟩
    rw [← hmix] at m44
    have mlen : mix.length ≤ 300 := by
      rw [hmix, List.length_append, List.length_append]
      omega
    have in4 : ∀ x, x ∈ mix → InF K fo th rows H4 x := fun x hx => by
      rw [hmix] at hx
      rcases List.mem_append.mp hx with hx | hx
      · exact (in2 x hx).ext (y3.trans y4)
      · exact (ha3 x hx).2.ext y4
    -- the absent ones
    have okr : OkR rows := tr.ok zok
    have oks : OkR srows := st.ok zok
    refine ⟨_, rfl, sl, rfl, ⟨_, SqL.of (x4 _ _ hs)⟩, fun D5 hD5 => ?_⟩
    refine lc_list (K := K) (a := sl) (xs := sxs) (fun i H' => Ext H4 H' ∧ ∃ acc, H' D5 = some (.lst acc) ∧ acc.length ≤ i ∧ ∀ x, x ∈ acc → ∃ r w c d, x = .ref r ∧ SqT K H' r [.str w, .str c, .str d] ∧ IsF fo th w c d ∧ toldS (fo ++ th) w c d ∉ rows) ⟨Ext.upd hD5, [], upd_same, Nat.zero_le _, fun x hx => by cases hx⟩ (fun i H' _ z => SqL.of (z.1 _ _ (x4 _ _ hs))) ?_ ?_
    · rintro i v H5 hv ⟨x5, acc, a5, alen, ha⟩
      have il : i < sxs.length := (List.getElem?_eq_some_iff.mp hv).1
      obtain ⟨t, r, rfl, sq, hr⟩ := (sr0.ext (x4.trans x5)).at_ hv
      obtain ⟨wd, c, d, rfl, ist⟩ := st r (List.mem_of_getElem? hr)
      refine ⟨rfl, _, rfl, _, rfl, .tuple ([wd, c, d].map PyData.str), _, .tup sq (dpAll_str _), .lst (SqL.of ((x4.trans x5) _ _ hl)) (rows_dp (hr0.ext (x4.trans x5))), shaped_strT _ (oks _ (List.mem_of_getElem? hr)), rows_shaped okr, _, rfl, ?_⟩
      rw [any_rows]
      refine ite2 (fun e => ?_) fun e => ⟨x5, acc, a5, by omega, ha⟩
      have nin : [wd, c, d] ∉ rows := by simpa using e
      refine ⟨_, rfl, acc, a5, by rw [sizeLine_eq]; omega, x5.over hD5, _, upd_same, by rw [List.length_append]; exact Nat.succ_le_succ alen, fun x hx => ?_⟩
      rcases List.mem_append.mp hx with hx | hx
      · obtain ⟨r2, w2, c2, d2, h1, h2, h3⟩ := ha x hx
        exact ⟨r2, w2, c2, d2, h1, sqT_upd h2 a5, h3⟩
      · rw [List.mem_singleton.mp hx]
        exact ⟨t, wd, c, d, rfl, sqT_upd sq a5, ist.1, by rw [ist.2]; exact nin⟩
    rintro H5 ⟨y5, acc5, a5, alen5, ha5⟩
    refine ⟨Nat.zero_le _, fun t6 h6 => fun d6 g6 => ⟨Nat.le_of_ble_eq_true rfl, fun o6 k6 => ?_⟩⟩
    have z1 := Ext.upd (o := .tup []) h6
    have z2 := Ext.upd (o := .dK []) g6
    have z3 := Ext.upd (o := .lst [.non, .int 5, .str "", .ref t6, .ref d6]) k6
    refine ⟨D5, o6, _, _, rfl, rfl, (z1.trans (z2.trans z3)) _ _ a5, upd_same, by show _ + 5 ≤ _; rw [sizeLine_eq]; omega, fun m7 hm7 => ?_⟩
    have z4 := Ext.upd (o := .lst (acc5 ++ [.non, .int 5, .str "", .ref t6, .ref d6])) hm7
    obtain ⟨abs, habs⟩ : ∃ abs : List V, abs = acc5 ++ [.non, .int 5, .str "", .ref t6, .ref d6] := ⟨_, rfl⟩
    obtain ⟨H7, hH7⟩ : ∃ H7, H7 = L2.upd (L2.upd (L2.upd (L2.upd H5 t6 (.tup [])) d6 (.dK [])) o6 (.lst [.non, .int 5, .str "", .ref t6, .ref d6])) m7 (.lst (acc5 ++ [.non, .int 5, .str "", .ref t6, .ref d6])) := ⟨_, rfl⟩
    have y7 : Ext H5 H7 := by
      rw [hH7]
      exact z1.trans (z2.trans (z3.trans z4))
    have m77 : H7 m7 = some (.lst abs) := by rw [hH7, habs, upd_same]
    have t67 : H7 t6 = some (.tup []) := by
      rw [hH7]
      exact (z2.trans (z3.trans z4)) _ _ upd_same
    have d67 : H7 d6 = some (.dK []) := by
      rw [hH7]
      exact (z3.trans z4) _ _ upd_same
    rw [← hH7]
    have x7 := x4.trans (y5.trans y7)
    have ablen : abs.length ≤ 200 := by
      rw [habs, List.length_append]
      show _ + 5 ≤ 200
      omega
    have out7 : ∀ x, x ∈ abs → OutF K fo th rows H7 x := fun x hx => by
      rw [habs] at hx
      rcases List.mem_append.mp hx with hx | hx
      · obtain ⟨r2, w2, c2, d2, h1, h2, h3⟩ := ha5 x hx
        exact .inr ⟨r2, w2, c2, d2, h1, h2.ext y7, h3⟩
      · simp only [List.mem_cons, List.not_mem_nil, or_false] at hx
        rcases hx with rfl | rfl | rfl | rfl | rfl
        · exact .inl (no_kit (.base .non) (by decide +kernel) (by decide +kernel))
        · exact .inl (no_kit (.base (.int 5)) (by decide +kernel) (by decide +kernel))
        · exact .inl (no_kit (.base (.str _)) (by decide +kernel) (by decide +kernel))
        · exact .inl (no_len (.inr (SqT.of t67)) (by decide))
        · exact .inl (no_kit (.base (.dK d67)) (by decide +kernel) (by decide +kernel))
    have m47 := (y5.trans y7) _ _ m44
    -- all of them are in
    refine ⟨_, rfl, m4, rfl, ⟨_, SqL.of m47⟩, fun D8 hD8 => ?_⟩
    refine lc_list (K := K) (a := m4) (xs := mix) (fun i H' => Ext H7 H' ∧ H' D8 = some (.lst ((List.replicate i true).map V.bl))) ⟨Ext.upd hD8, upd_same⟩ (fun i H' _ z => SqL.of (z.1 _ _ m47)) ?_ ?_
    · rintro i v H8 hv ⟨x8, a8⟩
      have il : i < mix.length := (List.getElem?_eq_some_iff.mp hv).1
      obtain ⟨r, wd, c, d, rfl, sq, isf, mem⟩ := (in4 v (List.mem_of_getElem? hv)).ext ((y5.trans y7).trans x8)
      refine ⟨rfl, ?_⟩
      refine lcYes ?_
      refine ⟨_, rfl, _, rfl, a, dx, fs, rfl, (x7.trans x8) _ _ hins, a, fo, th, rows, _, rfl, fa.ext (x7.trans x8), nd, sz, zok, .inr ⟨r, wd, c, d, rfl, sq, isf, fun H9 x9 => ⟨_, rfl, ?_⟩⟩⟩
      rw [decide_eq_true mem]
      refine ⟨_, x9 _ _ a8, ?_, (x8.trans x9).over hD8, ?_⟩
      · rw [List.length_map, List.length_replicate, sizeLine_eq]; omega
      · rw [upd_same, List.replicate_succ', List.map_append]
        rfl
    rintro H8 ⟨x8, a8⟩
    refine ⟨D8, _, rfl, SqL.of a8, ?_⟩
    have eall : (List.replicate mix.length true).all id = true := by simp
    rw [eall]
    refine ⟨_, rfl, ?_⟩
    refine iteT ?_
    -- none of those
    have m78 := x8 _ _ m77
    refine ⟨_, rfl, m7, rfl, ⟨_, SqL.of m78⟩, fun D9 hD9 => ?_⟩
    refine lc_list (K := K) (a := m7) (xs := abs) (fun i H' => Ext H8 H' ∧ H' D9 = some (.lst ((List.replicate i false).map V.bl))) ⟨Ext.upd hD9, upd_same⟩ (fun i H' _ z => SqL.of (z.1 _ _ m78)) ?_ ?_
    · rintro i v H9 hv ⟨x9, a9⟩
      have il : i < abs.length := (List.getElem?_eq_some_iff.mp hv).1
      have xx := x7.trans (x8.trans x9)
      refine ⟨rfl, ?_⟩
      refine lcYes ?_
      have fin : ∀ H', Ext H9 H' → ∃ acc, H' D9 = some (.lst acc) ∧ acc.length < sizeLine ∧ (Ext H8 (L2.upd H' D9 (.lst (acc ++ [.bl false]))) ∧ (L2.upd H' D9 (.lst (acc ++ [.bl false]))) D9 = some (.lst ((List.replicate (i + 1) false).map V.bl))) := fun H' x' => by
        refine ⟨_, x' _ _ a9, ?_, (x9.trans x').over hD9, ?_⟩
        · rw [List.length_map, List.length_replicate, sizeLine_eq]; omega
        · rw [upd_same, List.replicate_succ', List.map_append]
          rfl
      refine ⟨_, rfl, _, rfl, a, dx, fs, rfl, xx _ _ hins, a, fo, th, rows, _, rfl, fa.ext xx, nd, sz, zok, ?_⟩
      rcases (out7 v (List.mem_of_getElem? hv)).ext (x8.trans x9) with no | ⟨r, wd, c, d, rfl, sq, isf, mem⟩
      · exact .inl ⟨no, fun H' x' => ⟨_, rfl, fin H' x'⟩⟩
      · refine .inr ⟨r, wd, c, d, rfl, .inr sq, isf, fun H' x' => ⟨_, rfl, ?_⟩⟩
        rw [decide_eq_false mem]
        exact fin H' x'
    rintro H9 ⟨x9, a9⟩
    refine ⟨D9, _, rfl, SqL.of a9, _, rfl, ?_⟩
    have eany : (List.replicate abs.length false).any id = false := by simp
    rw [eany]
    exact q H9 (x7.trans (x8.trans x9))
theorem ok_alone (Fn : FnP K "_law_is_alone" s__law_is_alone f fd) (F : FacTxt P w K mg CF C CB) (gB_len : mg "len" = none) (gB_tuple : mg "tuple" = none) (gB_int : mg "int" = none) (gB_any : mg "any" = none) : FnOk P w K mg base CX0 9 f fd ["_law_facts", "_law_house_here", "_law_due"] (spAlone K CF C) := by
  refine Fn.ok sc__law_is_alone (fun vs H Q E h => ?_) (fun cdv A outer s H vs Q E hr h => ⟨_, PSs.nox
    (C8.pss_cut (ps_set (i := 3) sc__law_is_alone.nd rfl (Or.inl rfl) (pe_lst (pa_cons (pv 2) (pa_cons (pe_callTy call_tup (by rfl) gB_tuple (by decide +kernel) (pa_cons (pv 2) pa_nil)) (pa_cons pe_non (pa_cons (pe_ifExp (pt_cmpR (op_neD hr.units) (pv 2) (pe_lst pa_nil) (nomark _)) (pe_make F.M (F.I _) (hr.mono (by decide)) (by rfl) F.gF F.bI .nil passL (pa_cons (pv 1) (pa_cons (pe_slice sl_list (pv 2) (po_some pe_int) po_none) pa_nil))) pe_int) pa_nil))))))
      (pss_cons (ps_set (i := 3) sc__law_is_alone.nd rfl (Or.inl rfl) (pe_op L2.op_cat (pv 3) (pe_op op_rep (pe_lst (pa_cons (pe_make F.M (F.I _) (hr.mono (by decide)) (by rfl) F.gF F.bI .nil passL (pa_cons (pv 1) (pa_cons (pe_revL (pv 2)) pa_nil))) pa_nil)) (pe_callTy call_int1 (by rfl) gB_int (by decide +kernel) (pa_cons (pe_cmpR op_gt (pe_callB call_len (by rfl) gB_len boot_len (pa_cons (pv 2) pa_nil)) pe_int (nomark _)) pa_nil)))))
      (pss_one (ps_ret (pe_and (pe_cmpR (op_eqO (EI := E0) (hr.mono (by decide)) F.mE (F.E _) F.bE pass0) (pv 0) (pe_make F.M (F.I _) (hr.mono (by decide)) (by rfl) F.gF F.bI .nil passL (pa_cons (pv 1) (pa_cons (pv 2) pa_nil))) (nomark _)) (pe_one (pe_not (pe_callB (cr_any rfl) (by rfl) gB_any boot_any (pa_cons (pe_lc (own := [("_law_x", 4)]) (g := (gName 4)) (tt := tYes) rfl sc__law_is_alone.nd (pi_list (pv 3)) (blkOk_by (N := nm__law_is_alone) (sc := defScope s__law_is_alone) (by decide +kernel)) (fun _ _ _ _ _ => (pg_name (i := 4) sc__law_is_alone.nd rfl (Or.inl rfl))) (fun _ _ _ _ _ => pts_nil) (fun _ _ _ _ _ => (pe_or (pe_cmpR (opK (r := fun K' => rEqO K' CF (spFEq K CF C) E0) (K := K) rfl (op_eqO (EI := E0) (hr.mono (by decide)) F.mE (F.E _) F.bE pass0)) (pv 0) (pv 4) (nomark _)) (pe_one (pe_not (pe_cmpR (opK (r := fun K' => rNeO K' CF (spFEq K CF C) E0) (K := K) rfl (op_neO (EI := E0) (hr.mono (by decide)) F.mE F.ne F.T.hm (F.E _) F.bE pass0)) (pv 0) (pv 4) (nomark _))))))) pa_nil))))))))), ?_⟩)
  · obtain ⟨a, h, l, fo, th, rows, rfl, _⟩ := h
    rfl
  · obtain ⟨a, h, l, fo, th, rows, rfl, fa, hou, nd, sz, zok, ⟨dxs, hl, hr0⟩, tr, rnd, len, q⟩ := h
    have dl : dxs.length = rows.length := hr0.len
    have okr : OkR rows := tr.ok zok
    obtain ⟨dx, fs, hins⟩ := fa.ins
    refine ⟨fun σ' H' => Ext H H' ∧ ∃ lo os, σ' = [some (.ref a), some (.ref h), some (.ref l), some (.ref lo), none] ∧ H' lo = some (.lst os) ∧ os.length = 4 ∧ ∀ x, x ∈ os → UnF K CF C fo th rows H' x, ?_, ?_⟩
    · refine ⟨_, rfl, _, rfl, l, _, rfl, .inl (SqL.of hl), fun t1 H1 x1 st1 => ?_⟩
      refine ⟨_, rfl, Nat.zero_le _, fun e1 he1 => ?_⟩
      have ze := Ext.upd (o := .lst []) he1
      have x2 := x1.trans ze
      refine ⟨rowsD rows, .list [], .lst (SqL.of (x2 _ _ hl)) (rows_dp (hr0.ext x2)), .lst (SqL.of upd_same) .nil, rows_shaped okr, rfl, _, rfl, ?_⟩
      have ev : PyData.eqv (rowsD rows) (.list []) = decide (rows = []) := eqv_rows rows []
      rw [ev]
      have u1 : ∀ H', Ext (L2.upd H1 e1 (.lst [])) H' → UnF K CF C fo th rows H' (.ref l) := fun H' x' => .inl ⟨"list", by decide, .base (.lst ((x2.trans x') _ _ hl))⟩
      have u2 : ∀ H', Ext (L2.upd H1 e1 (.lst [])) H' → UnF K CF C fo th rows H' (.ref t1) := fun H' x' => .inl ⟨"tuple", by decide, tyx_sqT (st1.ext (ze.trans x'))⟩
      have u3 : ∀ H', UnF K CF C fo th rows H' .non := fun H' => .inl ⟨"NoneType", by decide, .base .non⟩
      refine ite2 (fun c => ?_) fun c => ?_
      · have rne : rows ≠ [] := by simpa using c
        have r1 : 1 ≤ dxs.length := by
          rw [dl]
          exact List.length_pos_iff.mpr rne
        refine ⟨_, rfl, _, rfl, _, rfl, l, _, rfl, SqL.of (x2 _ _ hl), fun l3 hl3 => ?_⟩
        have z3 := Ext.upd (o := .lst (cutV dxs (some 1) none)) hl3
        intro b d hb hd nb
        have ecut : cutV dxs (some ((1 : Nat) : Int)) none = dxs.drop 1 := cutV_drop r1
        have sub : ∀ r, r ∈ rows.drop 1 → r ∈ rows := fun r hr => List.mem_of_mem_drop hr
        refine mkF (hou.ext (x2.trans z3)) nd sz zok (.inl (SqL.of upd_same)) (by
          have z := ((hr0.ext (x2.trans z3)).drop1).raws
          rw [← ecut] at z
          exact z) ((tr.sub sub).fact) (by rw [List.length_drop]; omega) hb hd nb fun H4 x4 fa4 => ?_
        rw [(tr.sub sub).told, once_nd (rnd.sublist (List.drop_sublist _ _))] at fa4
        refine ⟨Nat.le_of_ble_eq_true rfl, fun lo hlo => ?_⟩
        have z5 := Ext.upd (o := .lst [V.ref l, V.ref t1, V.non, V.ref b]) hlo
        have xx := z3.trans (x4.trans z5)
        refine ⟨x2.trans xx, lo, _, rfl, upd_same, rfl, fun x hx => ?_⟩
        simp only [List.mem_cons, List.not_mem_nil, or_false] at hx
        rcases hx with rfl | rfl | rfl | rfl
        · exact u1 _ xx
        · exact u2 _ xx
        · exact u3 _
        · refine .inr ⟨b, _, rfl, fa4.ext z5, fun e => ?_⟩
          have := congrArg List.length e
          rw [List.length_drop] at this
          omega
      · refine ⟨Nat.le_of_ble_eq_true rfl, fun lo hlo => ?_⟩
        have z5 := Ext.upd (o := .lst [V.ref l, V.ref t1, V.non, V.int 5]) hlo
        refine ⟨x2.trans z5, lo, _, rfl, upd_same, rfl, fun x hx => ?_⟩
        simp only [List.mem_cons, List.not_mem_nil, or_false] at hx
        rcases hx with rfl | rfl | rfl | rfl
        · exact u1 _ z5
        · exact u2 _ z5
        · exact u3 _
        · exact .inl ⟨"int", by decide, .base (.int 5)⟩
    rintro σ' H5 ⟨x5, lo, os, rfl, hlo, olen, oun⟩
    -- the facts turned about
    refine ⟨_, rfl, _, rfl, _, rfl, l, _, rfl, SqL.of (x5 _ _ hl), fun l6 hl6 => ?_⟩
    have z6 := Ext.upd (o := .lst dxs.reverse) hl6
    intro b d hb hd nb
    have sub : ∀ r, r ∈ rows.reverse → r ∈ rows := fun r hr => List.mem_reverse.mp hr
    refine mkF (hou.ext (x5.trans z6)) nd sz zok (.inl (SqL.of upd_same)) ((hr0.ext (x5.trans z6)).rev).raws ((tr.sub sub).fact) (by rw [List.length_reverse]; omega) hb hd nb fun H7 x7 fa7 => ?_
    rw [(tr.sub sub).told, once_nd ((List.reverse_perm rows).nodup_iff.mpr rnd)] at fa7
    refine ⟨Nat.le_of_ble_eq_true rfl, fun l8 hl8 => ?_⟩
    have z8 := Ext.upd (o := .lst [V.ref b]) hl8
    have x58 := z6.trans (x7.trans z8)
    refine ⟨_, rfl, _, dxs.length, rfl, .inl ⟨_, SqL.of ((x5.trans x58) _ _ hl), rfl⟩, _, _, rfl, rfl, .inr ⟨_, rfl, ?_⟩⟩
    obtain ⟨k, hk, k1, kc⟩ : ∃ k : Nat, (if decide ((dxs.length : Int) > 1) = true then (1 : Int) else 0) = (k : Int) ∧ k ≤ 1 ∧ (k = 1 → 1 < rows.length) := by
      by_cases c : (dxs.length : Int) > 1
      · exact ⟨1, by rw [decide_eq_true c]; rfl, Nat.le_refl _, fun _ => by omega⟩
      · exact ⟨0, by rw [decide_eq_false c]; rfl, Nat.zero_le _, fun e => by cases e⟩
    rw [hk]
    refine ⟨l8, _, _, rfl, rfl, upd_same, Int.le_trans (by decide) (Int.natCast_nonneg _), Int.lt_of_le_of_lt (Int.ofNat_le.mpr k1) (by decide), by rw [Int.toNat_natCast, sizeLine_eq]; show 1 * _ ≤ _; omega, fun l9 hl9 => ?_⟩
    rw [Int.toNat_natCast, flat_rep]
    have z9 := Ext.upd (o := .lst (List.replicate k (V.ref b))) hl9
    have x59 := x58.trans z9
    refine ⟨lo, l9, _, _, rfl, rfl, x59 _ _ hlo, upd_same, by rw [List.length_replicate, sizeLine_eq]; omega, fun m hm => ?_⟩
    have z10 := Ext.upd (o := .lst (os ++ List.replicate k (V.ref b))) hm
    obtain ⟨ots, hots⟩ : ∃ ots, ots = os ++ List.replicate k (V.ref b) := ⟨_, rfl⟩
    obtain ⟨HA, hHA⟩ : ∃ HA, HA = L2.upd (L2.upd (L2.upd H7 l8 (.lst [V.ref b])) l9 (.lst (List.replicate k (V.ref b)))) m (.lst (os ++ List.replicate k (V.ref b))) := ⟨_, rfl⟩
    have x5A : Ext H5 HA := by
      rw [hHA]
      exact x59.trans z10
    have x7A : Ext H7 HA := by
      rw [hHA]
      exact z8.trans (z9.trans z10)
    have mA : HA m = some (.lst ots) := by rw [hHA, hots, upd_same]
    rw [← hHA]
    have xA := x5.trans x5A
    have otl : ots.length ≤ 5 := by
      rw [hots, List.length_append, List.length_replicate]
      omega
    have oA : ∀ x, x ∈ ots → UnF K CF C fo th rows HA x := fun x hx => by
      rw [hots] at hx
      rcases List.mem_append.mp hx with hx | hx
      · exact (oun x hx).ext x5A
      · have hk1 : k = 1 := by
          have : 0 < (List.replicate k (V.ref b)).length := List.length_pos_of_mem hx
          rw [List.length_replicate] at this
          omega
        rw [List.eq_of_mem_replicate hx]
        exact .inr ⟨b, _, rfl, fa7.ext x7A, rev_neN (kc hk1) rnd⟩
    -- equal to those told again
    refine ⟨_, rfl, _, rfl, _, rfl, ?_⟩
    intro b2 d2 hb2 hd2 nb2
    refine mkF (hou.ext xA) nd sz zok (.inl (SqL.of (xA _ _ hl))) ((hr0.ext xA).raws) tr.fact (by omega) hb2 hd2 nb2 fun HB xB faB => ?_
    rw [tr.told, once_nd rnd] at faB
    have xAB := xA.trans xB
    refine ⟨a, dx, fs, .ref CF, rfl, xAB _ _ hins, tyF F.T faB, by simp [PySem.W.notFirst], a, fo, th, rows, _, rfl, fa.ext xAB, .inr ⟨b2, fo, th, rows, rfl, faB, fun HC xC => ⟨_, rfl, ?_⟩⟩⟩
    rw [decide_eq_true rfl, decide_eq_true rfl, decide_eq_true rfl]
    refine ⟨_, rfl, ?_⟩
    refine iteT ?_
    have mC := (xB.trans xC) _ _ mA
    have xAC := xAB.trans xC
    have eqs : ∀ (y : V) (Hj : Hp), y ∈ ots → Ext HC Hj → ∃ t, TyX K Hj y t ∧ PySem.W.notFirst K CF t = true ∧ ∀ R : Bool → Hp → Prop, (∀ H', Ext Hj H' → R false H') → spFEq K CF C [.ref a, y] Hj (fun v H2 => ∃ b, v = .bl b ∧ R b H2) E0 := by
      intro y Hj hy xj
      have faj := fa.ext (xAC.trans xj)
      rcases (oA y hy).ext ((xB.trans xC).trans xj) with ⟨T, hT, ty⟩ | ⟨b, rows2, rfl, fb, ne⟩
      · exact ⟨.type T, ty, (F.nb T hT).1, fun R hR => ⟨a, fo, th, rows, y, rfl, faj, .inl ⟨_, ty, (F.nb T hT).2, false, rfl, hR Hj Ext.rfl'⟩⟩⟩
      · refine ⟨.ref CF, tyF F.T fb, by simp [PySem.W.notFirst], fun R hR => ⟨a, fo, th, rows, _, rfl, faj, .inr ⟨b, fo, th, rows2, rfl, fb, fun H' x' => ⟨_, rfl, ?_⟩⟩⟩⟩
        rw [decide_eq_false ne, Bool.and_false, Bool.and_false]
        exact hR H' x'
    refine ⟨_, rfl, m, rfl, ⟨_, SqL.of mC⟩, fun D hD => lc_list (K := K) (a := m) (xs := ots) (fun i Hj => Ext HC Hj ∧ Hj D = some (.lst ((List.replicate i false).map V.bl))) ⟨Ext.upd hD, upd_same⟩ (fun i Hj _ z => SqL.of (z.1 _ _ mC)) ?_ ?_⟩
    · rintro i x Hj hx ⟨xj, lj⟩
      have hi : i < ots.length := (List.getElem?_eq_some_iff.mp hx).1
      obtain ⟨t, ty, nfi, he⟩ := eqs x Hj (List.mem_of_getElem? hx) xj
      refine ⟨rfl, ?_⟩
      refine lcYes ?_
      refine ⟨_, rfl, _, rfl, a, dx, fs, t, rfl, (xAC.trans xj) _ _ hins, ty, nfi, he _ fun Hk xk => ?_⟩
      refine ⟨false, rfl, ?_⟩
      refine iteF ?_
      obtain ⟨t2, ty2, nfi2, he2⟩ := eqs x Hk (List.mem_of_getElem? hx) (xj.trans xk)
      refine ⟨_, rfl, _, rfl, a, dx, fs, t2, rfl, (xAC.trans (xj.trans xk)) _ _ hins, ty2, nfi2, he2 _ fun Hn xn => ?_⟩
      refine ⟨true, rfl, ?_⟩
      refine ⟨_, (xk.trans xn) _ _ lj, ?_, (xj.trans (xk.trans xn)).over hD, ?_⟩
      · rw [List.length_map, List.length_replicate, sizeLine_eq]
        omega
      · rw [upd_same, List.replicate_succ', List.map_append]
        rfl
    rintro Hk ⟨xk, lk⟩
    refine ⟨D, _, rfl, SqL.of lk, _, rfl, ?_⟩
    have ea : (List.replicate ots.length false).any id = false := by simp
    rw [ea]
    exact q Hk (xAC.trans xk)
end
end My

namespace My
open PySem PySem.Spec PyProof.Rows L2
def spLaw (K : PySem.W.Frag) : Sp := fun vs H Q _ => ∃ (a : Addr) (ns : List Int), vs = [.ref a] ∧ SqL K H a (ns.map V.int) ∧ ∀ H', Q (.bl true) H'
/-! ### what is kept -/
def Kp (S : List Addr) (H H' : Hp) : Prop := ∀ a u, a ∉ S → H a = some u → H' a = some u
/-- only lists change -/
def Mu (H H' : Hp) : Prop := ∀ a u, H a = some u → H' a = some u ∨ ∃ xs ys, u = .lst xs ∧ H' a = some (.lst ys)
theorem Ext.mu {H H' : Hp} (e : Ext H H') : Mu H H' := fun a u h => .inl (e a u h)
theorem Mu.trans {H H1 H2 : Hp} (m : Mu H H1) (n : Mu H1 H2) : Mu H H2 := fun a u h => by
  rcases m a u h with h1 | ⟨xs, ys, e, h1⟩
  · exact n a u h1
  · rcases n a _ h1 with h2 | ⟨_, zs, _, h2⟩
    · exact .inr ⟨xs, ys, e, h2⟩
    · exact .inr ⟨xs, zs, e, h2⟩
theorem Mu.upd {H H' : Hp} {l : Addr} {ys zs : List V} (m : Mu H H') (hl : H' l = some (.lst ys)) : Mu H (L2.upd H' l (.lst zs)) := m.trans fun a u h => by
  by_cases e : a = l
  · subst e
    rw [hl] at h
    exact .inr ⟨ys, zs, (Option.some.inj h).symm, upd_same⟩
  · exact .inl (by rw [upd_ne e]; exact h)
theorem But.mu {H H' : Hp} {p : Addr} {xs ys : List V} (b : But H H' p) (hp : H p = some (.lst xs)) (hp' : H' p = some (.lst ys)) : Mu H H' := fun a u h => by
  by_cases e : a = p
  · subst e
    rw [hp] at h
    exact .inr ⟨xs, ys, (Option.some.inj h).symm, hp'⟩
  · exact .inl (b a u e h)
theorem Mu.keep {H H' : Hp} (m : Mu H H') {a : Addr} {u : HO} (h : H a = some u) (n : ∀ xs, u ≠ .lst xs) : H' a = some u := (m a u h).resolve_right fun ⟨xs, _, e, _⟩ => n xs e
theorem Mu.none {H H' : Hp} (m : Mu H H') {a : Addr} (h : H' a = none) : H a = none := by
  cases e : H a with
  | none => rfl
  | some u =>
    rcases m a u e with h1 | ⟨_, _, _, h1⟩ <;> · rw [h1] at h; cases h
theorem SqT.mu {K : PySem.W.Frag} {H H' : Hp} {f : Addr} {xs : List V} (h : SqT K H f xs) (m : Mu H H') : SqT K H' f xs := by
  rcases h with (h | ⟨o, h⟩) | h
  · exact .inl (.inl (m.keep h fun _ z => nomatch z))
  · exact .inl (.inr ⟨o, m.keep h fun _ z => nomatch z⟩)
  · exact .inr h
theorem Rows.mu {K : PySem.W.Frag} {H H' : Hp} (m : Mu H H') : ∀ {xs : List V} {rs : List (List Str)}, Rows K H xs rs → Rows K H' xs rs
  | [], [], _ => True.intro
  | _ :: _, _ :: _, ⟨⟨t, e1, h⟩, hr⟩ => ⟨⟨t, e1, SqT.mu h m⟩, Rows.mu m hr⟩
  | [], _ :: _, h => h.elim
  | _ :: _, [], h => h.elim
theorem Hou.mu {H H' : Hp} {K : PySem.W.Frag} {C a : Addr} {fo th : List Str} (h : Hou H K C a fo th) (m : Mu H H') : Hou H' K C a fo th := by
  obtain ⟨⟨dx, fs, f, t, n, h1, h2, h3, h4, h5, h6, h7⟩, ok⟩ := h
  exact ⟨⟨dx, fs, f, t, n, m.keep h1 (fun _ z => nomatch z), h2, h3, h4, SqT.mu h5 m, SqT.mu h6 m, SqT.mu h7 m⟩, ok⟩
theorem FacAt.mu {H H' : Hp} {K : PySem.W.Frag} {CF C a : Addr} {fo th : List Str} {rows : List (List Str)} (h : FacAt H K CF C a fo th rows) (m : Mu H H') : FacAt H' K CF C a fo th rows := by
  obtain ⟨dx, fs, ho, r, ys, h1, h2, h3, h4, h5, h6, h7, h8⟩ := h
  exact ⟨dx, fs, ho, r, ys, m.keep h1 (fun _ z => nomatch z), h2, h3, Hou.mu h4 m, SqT.mu h5 m, Rows.mu m h6, h7, h8⟩
theorem Kp.ext {S : List Addr} {H H1 H2 : Hp} (k : Kp S H H1) (e : Ext H1 H2) : Kp S H H2 := fun a u n h => e _ _ (k a u n h)
theorem Kp.but {S : List Addr} {H H1 H2 : Hp} {p : Addr} (k : Kp S H H1) (b : But H1 H2 p) (m : p ∈ S) : Kp S H H2 := fun a u n h => b a u (fun e => n (e ▸ m)) (k a u n h)
theorem Kp.upd {S : List Addr} {H H1 : Hp} {l : Addr} {o : HO} (k : Kp S H H1) (m : l ∈ S) : Kp S H (L2.upd H1 l o) := fun a u n h => by
  rw [upd_ne (show a ≠ l from fun e => n (by rw [e]; exact m))]
  exact k a u n h
theorem Kp.rfl' {S : List Addr} {H : Hp} : Kp S H H := fun _ _ _ h => h
/-! ### what is handed over -/
def Hnd (K : PySem.W.Frag) (HB H : Hp) (x : V) (r : List Str) : Prop := ∃ t, x = .ref t ∧ (SqT K H t (r.map V.str) ∨ (HB t = none ∧ H t = some (.lst (r.map V.str))))
def Hnds (K : PySem.W.Frag) (HB H : Hp) (xs : List V) (rs : List (List Str)) : Prop := xs.length = rs.length ∧ ∀ (i : Nat) (x : V), xs[i]? = some x → ∃ r, rs[i]? = some r ∧ Hnd K HB H x r
theorem Hnd.kp {K : PySem.W.Frag} {HB H H' : Hp} {S : List Addr} {x : V} {r : List Str} (h : Hnd K HB H x r) (m : Mu H H') (k : Kp S H H') (n : ∀ a, a ∈ S → HB a ≠ none) : Hnd K HB H' x r := by
  obtain ⟨t, e, h | ⟨h0, h⟩⟩ := h
  · exact ⟨t, e, .inl (SqT.mu h m)⟩
  · exact ⟨t, e, .inr ⟨h0, k _ _ (fun z => n t z h0) h⟩⟩
theorem Hnds.kp {K : PySem.W.Frag} {HB H H' : Hp} {S : List Addr} {xs : List V} {rs : List (List Str)} (h : Hnds K HB H xs rs) (m : Mu H H') (k : Kp S H H') (n : ∀ a, a ∈ S → HB a ≠ none) : Hnds K HB H' xs rs := ⟨h.1, fun i x hx => by
  obtain ⟨r, h1, h2⟩ := h.2 i x hx
  exact ⟨r, h1, h2.kp m k n⟩⟩
theorem Hnds.snoc {K : PySem.W.Frag} {HB H : Hp} {xs : List V} {rs : List (List Str)} {x : V} {r : List Str} (h : Hnds K HB H xs rs) (h1 : Hnd K HB H x r) : Hnds K HB H (xs ++ [x]) (rs ++ [r]) := by
  refine ⟨by rw [List.length_append, List.length_append, h.1]; rfl, fun i y hy => ?_⟩
  by_cases c : i < xs.length
  · rw [List.getElem?_append_left c] at hy
    obtain ⟨r2, e, z⟩ := h.2 i y hy
    exact ⟨r2, by rw [List.getElem?_append_left (by rw [← h.1]; exact c)]; exact e, z⟩
  · have hi : i < (xs ++ [x]).length := (List.getElem?_eq_some_iff.mp hy).1
    rw [List.length_append, List.length_singleton] at hi
    have e : i = xs.length := by omega
    subst e
    rw [List.getElem?_concat_length] at hy
    cases hy
    exact ⟨r, by rw [h.1, List.getElem?_concat_length], h1⟩
theorem Hnds.raws {K : PySem.W.Frag} {HB H : Hp} {xs : List V} {rs : List (List Str)} (h : Hnds K HB H xs rs) : Raws K H xs rs := ⟨h.1, fun i x hx => by
  obtain ⟨r, h1, t, e, h2⟩ := h.2 i x hx
  exact ⟨t, r, e, h1, h2.elim .inr fun z => .inl (SqL.of z.2)⟩⟩
theorem dpAll_ex {K : PySem.W.Frag} {H : Hp} {Pd : PyData → Prop} : ∀ xs : List V, (∀ x, x ∈ xs → ∃ d, Dp K H x d ∧ Pd d) → ∃ ds, DpAll K H xs ds ∧ ∀ d, d ∈ ds → Pd d
  | [], _ => ⟨[], .nil, fun d hd => by cases hd⟩
  | x :: xs, h => by
    obtain ⟨d, h1, h2⟩ := h x List.mem_cons_self
    obtain ⟨ds, h3, h4⟩ := dpAll_ex xs fun y hy => h y (List.mem_cons_of_mem _ hy)
    refine ⟨d :: ds, .cons h1 h3, fun e he => ?_⟩
    rcases List.mem_cons.mp he with rfl | he
    · exact h2
    · exact h4 e he
theorem Hnds.dp {K : PySem.W.Frag} {HB H : Hp} {xs : List V} {rs : List (List Str)} (h : Hnds K HB H xs rs) (ok : OkR rs) : ∃ ds, DpAll K H xs ds ∧ ∀ d, d ∈ ds → d.canLay0 = true ∧ d.depth ≤ 2 := dpAll_ex xs fun x hx => by
  obtain ⟨i, hi⟩ := List.mem_iff_getElem?.mp hx
  obtain ⟨r, h1, t, rfl, h2⟩ := h.2 i x hi
  have okr := ok r (List.mem_of_getElem? h1)
  rcases h2 with h2 | ⟨_, h2⟩
  · exact ⟨_, .tup h2 (dpAll_str r), flat_tup r okr⟩
  · exact ⟨_, .lst (SqL.of h2) (dpAll_str r), flat_lst r okr⟩
theorem once_nodup : ∀ rs acc : List (List Str), acc.Nodup → (rs.foldl (fun acc r => if r ∈ acc then acc else acc ++ [r]) acc).Nodup
  | [], _, h => h
  | r :: rs, acc, h => by
    rw [List.foldl_cons]
    refine once_nodup rs _ ?_
    split
    · exact h
    · rename_i n
      exact List.nodup_append.mpr ⟨h, (by simp : [r].Nodup), fun a ha b hb e => n (by rw [List.mem_singleton.mp hb] at e; rw [← e]; exact ha)⟩
theorem zeros_dp {K : PySem.W.Frag} {H : Hp} (n : Nat) : DpAll K H (List.replicate n (V.int 0)) (List.replicate n (PyData.int 0)) := by
  have h := dpAll_rep (K := K) (H := H) (d := .int 0) (List.replicate n (V.int 0)) fun x hx => by
    rw [List.eq_of_mem_replicate hx]
    exact .int 0
  rw [List.length_replicate] at h
  exact h
theorem zeros_shaped (n : Nat) : SeqAt.shaped (.list (List.replicate n (PyData.int 0))) = true := shaped_ds _ fun d hd => by
  rw [List.eq_of_mem_replicate hd]
  exact ⟨rfl, by decide⟩
theorem Rows.take {K : PySem.W.Frag} {H : Hp} : ∀ (n : Nat) {xs : List V} {rs : List (List Str)}, Rows K H xs rs → Rows K H (xs.take n) (rs.take n)
  | 0, _, _, _ => True.intro
  | _ + 1, [], [], _ => True.intro
  | n + 1, x :: xs, r :: rs, ⟨h1, h2⟩ => ⟨h1, Rows.take n h2⟩
  | _ + 1, [], _ :: _, h => h.elim
  | _ + 1, _ :: _, [], h => h.elim
theorem Rows.drop {K : PySem.W.Frag} {H : Hp} : ∀ (n : Nat) {xs : List V} {rs : List (List Str)}, Rows K H xs rs → Rows K H (xs.drop n) (rs.drop n)
  | 0, _, _, h => h
  | _ + 1, [], [], _ => True.intro
  | n + 1, x :: xs, r :: rs, ⟨h1, h2⟩ => Rows.drop n h2
  | _ + 1, [], _ :: _, h => h.elim
  | _ + 1, _ :: _, [], h => h.elim
theorem FactsOf.app {K : PySem.W.Frag} {H : Hp} {fo th : List Str} {xs ys : List V} {bs cs : List Bool} (h : FactsOf K H fo th xs bs) (g : FactsOf K H fo th ys cs) : FactsOf K H fo th (xs ++ ys) (bs ++ cs) := by
  refine ⟨by rw [List.length_append, List.length_append, h.1, g.1], fun i x hx => ?_⟩
  by_cases c : i < xs.length
  · rw [List.getElem?_append_left c] at hx
    obtain ⟨b, e, z⟩ := h.2 i x hx
    exact ⟨b, by rw [List.getElem?_append_left (by rw [← h.1]; exact c)]; exact e, z⟩
  · rw [List.getElem?_append_right (by omega)] at hx
    obtain ⟨b, e, z⟩ := g.2 _ x hx
    exact ⟨b, by rw [List.getElem?_append_right (by rw [← h.1]; omega), ← h.1]; exact e, z⟩
theorem FactsOf.one {K : PySem.W.Frag} {H : Hp} {fo th : List Str} {x : V} (h : FactOf K H fo th x false) : FactsOf K H fo th [x] [false] := ⟨rfl, fun i y hy => by
  cases i with
  | zero =>
    cases hy
    exact ⟨false, rfl, h⟩
  | succ i => cases hy⟩
theorem isF_more {fo th more : List Str} {w a b : Str} (h : IsF fo th w a b) : IsF fo (th ++ more) w a b := by
  obtain ⟨h1, h2, h3, h4, h5⟩ := h
  exact ⟨h1, by rw [← List.append_assoc]; exact List.mem_append_left _ h2, by rw [← List.append_assoc]; exact List.mem_append_left _ h3, h4, h5⟩
theorem FactR.snoc {fo th : List Str} {rs : List (List Str)} {w a b : Str} (h : FactR fo th rs) (i : IsF fo th w a b) : FactR fo th (rs ++ [[w, a, b]]) := fun r hr => by
  rcases List.mem_append.mp hr with hr | hr
  · exact h r hr
  · exact ⟨w, a, b, List.mem_singleton.mp hr, i⟩
theorem FactR.ok {fo th : List Str} {rs : List (List Str)} (h : FactR fo th rs) (zok : ∀ z, z ∈ fo ++ th → PyData.strOk z = true) : OkR rs := fun r hr z hz => by
  obtain ⟨w, a, b, rfl, i⟩ := h r hr
  simp at hz
  rcases hz with rfl | rfl | rfl
  · exact wordsOk _ i.1
  · exact zok _ i.2.1
  · exact zok _ i.2.2.1
abbrev nm_law : List Str := ["_law_script", "_law_turn", "_law_pool_here", "_law_folders", "_law_things", "_law_house_here", "_law_due", "_law_handed_here", "_law_k", "_law_fact_here", "_law_passed", "_law_facts", "_law_part", "_law_some", "_law_odd_here", "_law_at", "_law_bad", "_law_nones", "_law_x", "_law_none"]
theorem sc_law : FnScope nm_law ["_law_script"] (defScope s_law) := ⟨rfl, rfl, rfl, by decide +kernel, rfl, by decide +kernel, by decide +kernel⟩
section
variable {P : Program} {w : World} {K : PySem.W.Frag} {mg : Str → Option Value} {base : Heap} {f C CB CF CE : Addr} {fd : FuncData}
theorem ok_law (Fn : FnP K "law" s_law f fd) (Z : HouseTxt P w K mg C CB) (F : FacTxt P w K mg CF C CE)
    (h_law_cell : Has P w K mg base 1 "_law_cell" ["_law_script", "_law_k"] (spCell1 K)) (h_law_pool : Has P w K mg base 1 "_law_pool" ["_law_grain"] spPool) (h_law_take : Has P w K mg base 1 "_law_take" ["_law_pool_here", "_law_many"] spTake)
    (h_law_house : Has P w K mg base 3 "_law_house" ["_law_pool_here", "_law_most", "_law_more"] spHouse) (h_law_fact : Has P w K mg base 2 "_law_fact" ["_law_pool_here", "_law_folders", "_law_things"] (spFact K)) (h_law_handed : Has P w K mg base 2 "_law_handed" ["_law_pool_here", "_law_fact_here"] (spHanded K))
    (h_law_refused : Has P w K mg base 9 "_law_refused" ["_law_house_here", "_law_rows"] (spRefused K C)) (h_law_odd : Has P w K mg base 2 "_law_odd" ["_law_pool_here", "_law_folders", "_law_things"] (spOdd K))
    (h_law_is_in_right : Has P w K mg base 7 "_law_is_in_right" ["_law_facts", "_law_due", "_law_some"] (spInRight K CF C)) (h_law_is_alone : Has P w K mg base 9 "_law_is_alone" ["_law_facts", "_law_house_here", "_law_due"] (spAlone K CF C)) (h_law_walks_apart : Has P w K mg base 3 "_law_walks_apart" ["_law_facts", "_law_due"] (spWalks K CF C))
    (gB_range : mg "range" = none) (gB_len : mg "len" = none) (gB_list : mg "list" = none) (gB_tuple : mg "tuple" = none) (gB_isinstance : mg "isinstance" = none) : FnOk P w K mg base CX0 10 f fd ["_law_script"] (spLaw K) := by
  refine Fn.ok sc_law (fun vs H Q E h => ?_) (fun cdv A outer s H vs Q E hr h => ⟨_, PSs.nox
    (pss_cons (ps_for PassesOwn.never rfl (pi_range1 (by rfl) gB_range (pa_cons pe_int pa_nil)) (pg_name (i := 1) sc_law.nd rfl (Or.inl rfl))
      (pss_cons (ps_set (i := 2) sc_law.nd rfl (Or.inr rfl) (pe_has h_law_pool (hr.mono (by decide)) (pa_cons (pe_op op_add (pe_has h_law_cell (hr.mono (by decide)) (pa_cons (pv 0) (pa_cons (pv 1) pa_nil))) (pv 1)) pa_nil)))
      (pss_cons (ps_asg (pe_has h_law_house (hr.mono (by decide)) (pa_cons (pv 2) (pa_cons pe_int (pa_cons pe_int pa_nil)))) (pg_tup rfl (pgs_cons (pg_name (i := 3) sc_law.nd rfl (Or.inr rfl)) (pgs_cons (pg_name (i := 4) sc_law.nd rfl (Or.inr rfl)) pgs_nil))))
      (pss_cons (ps_asg (pe_tup (pa_cons (pe_make Z.M (Z.I _) (hr.mono (by decide)) (by rfl) Z.gH Z.bI .nil passL (pa_cons (pv 3) (pa_cons (pv 4) pa_nil))) (pa_cons (pe_lst pa_nil) (pa_cons (pe_lst pa_nil) pa_nil)))) (pg_tup rfl (pgs_cons (pg_name (i := 5) sc_law.nd rfl (Or.inr rfl)) (pgs_cons (pg_name (i := 6) sc_law.nd rfl (Or.inl rfl)) (pgs_cons (pg_name (i := 7) sc_law.nd rfl (Or.inl rfl)) pgs_nil)))))
      (pss_cons (ps_for PassesOwn.never rfl (pi_range1 (by rfl) gB_range (pa_cons (pe_has h_law_take (hr.mono (by decide)) (pa_cons (pv 2) (pa_cons pe_int pa_nil))) pa_nil)) (pg_name (i := 8) sc_law.nd rfl (Or.inl rfl))
      (pss_cons (ps_set (i := 9) sc_law.nd rfl (Or.inl rfl) (pe_has h_law_fact (hr.mono (by decide)) (pa_cons (pv 2) (pa_cons (pv 3) (pa_cons (pv 4) pa_nil)))))
      (pss_cons (ps_expr (pe_bm PySem.F.plainAttrs_list PySem.F.slot_list_append PySem.F.type_list_append mt_append (pv 7) (pa_cons (pe_has h_law_handed (hr.mono (by decide)) (pa_cons (pv 2) (pa_cons (pv 9) pa_nil))) pa_nil)))
      (pss_one (ps_if (pt_cmpR (op_notInD (u65 hr)) (pv 9) (pv 6) (by rfl)) (pss_one (ps_expr (pe_bm PySem.F.plainAttrs_list PySem.F.slot_list_append PySem.F.type_list_append mt_append (pv 6) (pa_cons (pv 9) pa_nil)))) pss_nil)))))
      (pss_cons (ps_set (i := 10) sc_law.nd rfl (Or.inl rfl) (pe_ix ix_list (pe_lst (pa_cons (pe_callTy call_lstS (by rfl) gB_list (by decide +kernel) (pa_cons (pv 7) pa_nil)) (pa_cons (pe_callTy call_tup (by rfl) gB_tuple (by decide +kernel) (pa_cons (pv 7) pa_nil)) pa_nil))) (pe_has h_law_take (hr.mono (by decide)) (pa_cons (pv 2) (pa_cons pe_int pa_nil))) (fun _ _ => rfl)))
      (pss_cons (ps_set (i := 11) sc_law.nd rfl (Or.inl rfl) (pe_make F.M (F.I _) (hr.mono (by decide)) (by rfl) F.gF F.bI .nil passL (pa_cons (pv 5) (pa_cons (pv 10) pa_nil))))
      (pss_cons (ps_if (pt_cmpR (op_neD hr.units) (pe_callTy call_lstS (by rfl) gB_list (by decide +kernel) (pa_cons (pv 10) pa_nil)) (pv 7) (nomark _)) (pss_one (ps_ret pe_bl)) pss_nil)
      (pss_cons (ps_for PassesOwn.never rfl (pi_list (pv 7)) (pg_name (i := 12) sc_law.nd rfl (Or.inl rfl))
      (pss_one (ps_if (pt_val (pe_callB call_isi (by rfl) gB_isinstance boot_isinstance (pa_cons (pv 12) (pa_cons (pe_bltn (v := .ty "list") (by rfl) gB_list boot_list rfl) pa_nil)))) (pss_one (ps_expr (pe_bm PySem.F.plainAttrs_list PySem.F.slot_list_append PySem.F.type_list_append mt_append (pv 12) (pa_cons pe_str pa_nil)))) pss_nil)))
      (pss_cons (ps_if (PW.pt (pw_or (pt_cmpR (op_neO (EI := E0) (hr.mono (by decide)) Z.mE Z.ne Z.T.hm (Z.E _) Z.bE pass0) (pe_fld (pv 11) rfl) (pv 5) (nomark _)) (pw_or (pt_cmpR (op_neD hr.units) (pe_meth0 (pv 11) F.T.cl F.mT (F.To _) (hr.mono (by decide)) F.bT .nil pass0) (pv 6) (nomark _)) (pw_or (pt_cmpR op_ne (pe_callB (call_lenO (EI := E0) (hr.mono (by decide)) F.mL (F.L _) F.bL pass0) (by rfl) gB_len boot_len (pa_cons (pv 11) pa_nil)) (pe_callB call_len (by rfl) gB_len boot_len (pa_cons (pv 6) pa_nil)) (nomark _)) (pw_or1 (pt_cmpR (op_neD hr.units) (pe_lc (own := [("_law_x", 18)]) (g := (gName 18)) (tt := tYes) rfl sc_law.nd (pi_own (hr.mono (by decide)) F.mW F.W F.bW (pv 11)) (blkOk_by (N := nm_law) (sc := defScope s_law) (by decide +kernel)) (fun _ _ _ _ _ => (pg_name (i := 18) sc_law.nd rfl (Or.inl rfl))) (fun _ _ _ _ _ => pts_nil) (fun _ _ _ _ _ => (pv 18))) (pv 6) (nomark _))))))) (pss_one (ps_ret pe_bl)) pss_nil)
      (pss_cons (ps_if (PW.pt (pw_or (pt_cmpR op_in_seq pe_bl (pe_lc (own := [("_law_x", 18)]) (g := (gName 18)) (tt := tYes) rfl sc_law.nd (pi_list (pe_meth0 (pv 11) F.T.cl F.mT (F.To _) (hr.mono (by decide)) F.bT .nil pass0)) (blkOk_by (N := nm_law) (sc := defScope s_law) (by decide +kernel)) (fun _ _ _ _ _ => (pg_name (i := 18) sc_law.nd rfl (Or.inl rfl))) (fun _ _ _ _ _ => pts_nil) (fun _ _ _ _ _ => (pe_callB (caK (r := rIsi) (K := K) rfl call_isi) (by rfl) gB_isinstance boot_isinstance (pa_cons (pv 18) (pa_cons (pe_bltn (v := .ty "tuple") (by rfl) gB_tuple boot_tuple rfl) pa_nil))))) (by rfl)) (pw_or1 (pt_not (pt_val (pe_has h_law_walks_apart (hr.mono (by decide)) (pa_cons (pv 11) (pa_cons (pv 6) pa_nil)))))))) (pss_one (ps_ret pe_bl)) pss_nil)
      (pss_cons (ps_setLc (i := 13) (own := [("_law_k", 8)]) (g := (gName 8)) (tt := tYes) rfl sc_law.nd rfl rfl (sw_true rfl rfl rfl (by decide +kernel)) (pi_range1 (by rfl) gB_range (pa_cons pe_int pa_nil)) (blkOk_by (N := nm_law) (sc := defScope s_law) (by decide +kernel)) (fun _ _ _ _ _ => (pg_name (i := 8) sc_law.nd rfl (Or.inl rfl))) (fun _ _ _ _ _ => pts_nil) (fun _ _ _ _ _ => (pe_has h_law_fact (hr.mono (by decide)) (pa_cons (pv 2) (pa_cons (pv 3) (pa_cons (pv 4) pa_nil))))))
      (pss_cons (ps_if (PW.pt (pw_or (pt_not (pt_val (pe_has h_law_is_in_right (hr.mono (by decide)) (pa_cons (pv 11) (pa_cons (pv 6) (pa_cons (pv 13) pa_nil)))))) (pw_or1 (pt_not (pt_val (pe_has h_law_is_alone (hr.mono (by decide)) (pa_cons (pv 11) (pa_cons (pv 5) (pa_cons (pv 6) pa_nil))))))))) (pss_one (ps_ret pe_bl)) pss_nil)
      (pss_cons (ps_if (pt_cmpR (op_eqO (EI := E0) (hr.mono (by decide)) F.mE (F.E _) F.bE pass0) (pv 11) (pe_make F.M (F.I _) (hr.mono (by decide)) (by rfl) F.gF F.bI .nil passL (pa_cons (pe_make Z.M (Z.I _) (hr.mono (by decide)) (by rfl) Z.gH Z.bI .nil passL (pa_cons (pv 3) (pa_cons (pe_op L2.op_cat (pv 4) (pe_lst (pa_cons pe_str pa_nil))) pa_nil))) (pa_cons (pv 6) pa_nil))) (nomark _)) (pss_one (ps_ret pe_bl)) pss_nil)
      (pss_cons (ps_par (i := 14) (j := 15) rfl sc_law.nd rfl rfl (by decide) rfl rfl (pa_cons (pe_has h_law_odd (hr.mono (by decide)) (pa_cons (pv 2) (pa_cons (pv 3) (pa_cons (pv 4) pa_nil)))) (pa_cons (pe_has h_law_take (hr.mono (by decide)) (pa_cons (pv 2) (pa_cons (pe_op op_add (pe_callB call_len (by rfl) gB_len boot_len (pa_cons (pv 6) pa_nil)) pe_int) pa_nil))) pa_nil)) (by rfl))
      (pss_cons (ps_set (i := 16) sc_law.nd rfl (Or.inl rfl) (pe_op L2.op_cat (pe_op L2.op_cat (pe_op L2.op_cat (pe_slice sl_list (pv 6) po_none (po_some (pv 15))) (pe_lst (pa_cons (pv 14) pa_nil))) (pe_slice sl_list (pv 6) (po_some (pv 15)) po_none)) (pe_lst (pa_cons pe_non pa_nil))))
      (pss_cons (ps_if (PW.pt (pw_or (pt_cmpR op_ne (pe_has h_law_refused (hr.mono (by decide)) (pa_cons (pv 5) (pa_cons (pv 16) pa_nil))) (pv 15) (nomark _)) (pw_or1 (pt_cmpR (op_inO (EI := E0) (hr.mono (by decide)) F.mS (F.S _) F.bS pass0) (pv 14) (pv 11) (by rfl))))) (pss_one (ps_ret pe_bl)) pss_nil)
      (pss_cons (ps_set (i := 17) sc_law.nd rfl (Or.inl rfl) (pe_lst (pa_cons pe_non (pa_cons pe_int (pa_cons pe_str (pa_cons pe_dnewK (pa_cons pe_bl (pa_cons (pv 11) pa_nil))))))))
      (pss_one (ps_if (PW.pt (pw_or (pt_cmpR (op_neD hr.units) (pe_lc (own := [("_law_none", 19)]) (g := (gName 19)) (tt := tYes) rfl sc_law.nd (pi_list (pv 17)) (blkOk_by (N := nm_law) (sc := defScope s_law) (by decide +kernel)) (fun _ _ _ _ _ => (pg_name (i := 19) sc_law.nd rfl (Or.inl rfl))) (fun _ _ _ _ _ => pts_nil) (fun _ _ _ _ _ => (pe_has h_law_refused (hr.mono (by decide)) (pa_cons (pv 5) (pa_cons (pv 19) pa_nil))))) (pe_op op_rep (pe_lst (pa_cons pe_int pa_nil)) pe_int) (nomark _)) (pw_or1 (pt_cmpR op_ne (pe_callB (call_lenO (EI := E0) (hr.mono (by decide)) F.mL (F.L _) F.bL pass0) (by rfl) gB_len boot_len (pa_cons (pe_make F.M (F.I _) (hr.mono (by decide)) (by rfl) F.gF F.bD F.vD passL (pa_cons (pv 5) pa_nil)) pa_nil)) pe_int (nomark _))))) (pss_one (ps_ret pe_bl)) pss_nil))))))))))))))))))))
      (pss_one (ps_ret pe_bl))), ?_⟩)
  · obtain ⟨a, ns, rfl, _⟩ := h
    rfl
  · obtain ⟨as, ns, rfl, hsc, q⟩ := h
    refine ⟨5, rfl, by decide, by decide, for_range (lo := 0) (n := 5) (fun _ σ H' => ∃ v1 v2 v3 v4 v5 v6 v7 v8 v9 v10 v11 v12 v13 v14 v15 v16 v17 v18 v19 : Option V, σ = [some (.ref as), v1, v2, v3, v4, v5, v6, v7, v8, v9, v10, v11, v12, v13, v14, v15, v16, v17, v18, v19] ∧ Ext H H') ⟨none, none, none, none, none, none, none, none, none, none, none, none, none, none, none, none, none, none, none, rfl, Ext.rfl'⟩ ?_ fun σ H' _ => q H'⟩
    rintro k σ H0 hk ⟨v1, v2, v3, v4, v5, v6, v7, v8, v9, v10, v11, v12, v13, v14, v15, v16, v17, v18, v19, rfl, x0⟩
    refine ⟨_, rfl, _, rfl, as, ns, k, by rw [Int.zero_add]; rfl, hsc.ext x0, fun i0 => ⟨_, rfl, _, _, rfl, rfl, _, rfl, fun p H1 hp hH1 => ?_⟩⟩
    obtain ⟨pa, pb, pa0, pb0, pb1, rfl⟩ := hH1
    obtain ⟨H1, hH1⟩ : ∃ H1, H1 = L2.upd H0 p (.lst [.int pa, .int pb, .int 0]) := ⟨_, rfl⟩
    rw [← hH1]
    have pool1 : Pool H1 p 0 := ⟨pa, pb, 0, by rw [hH1, upd_same], pa0, pb0, pb1, Int.le_refl _, Int.le_refl _⟩
    have x1 : Ext H0 H1 := by
      rw [hH1]
      exact Ext.upd hp
    have Hp0 : H p = none := ext_none x0 hp
    refine ⟨_, rfl, p, 0, 3, 3, rfl, by decide, by decide, by decide, by decide, pool1, by decide, fun t l1 l2 fo th H2 b2 p2 ht2 hf ht n12 nl1 nl2 f1 f3 t3 tot nms => ⟨t, _, rfl, SqT.of ht2, rfl, _, _, rfl, _, _, rfl, rfl, ?_⟩⟩
    have x2 : Ext H H2 := ext_but' (x0.trans x1) Hp0 b2
    have n1p : l1 ≠ p := fun e => by rw [e] at nl1; obtain ⟨y, h⟩ := pool1.lst; rw [nl1] at h; cases h
    have n2p : l2 ≠ p := fun e => by rw [e] at nl2; obtain ⟨y, h⟩ := pool1.lst; rw [nl2] at h; cases h
    have nok := nms.ok
    have nd := nms.1
    have n6 : (fo ++ th).length ≤ 6 := by
      rw [List.length_append]
      omega
    have n2 : 2 ≤ (fo ++ th).length := by
      rw [List.length_append]
      omega
    have fne : fo ≠ [] := fun e => by
      subst e
      exact absurd f1 (by decide)
    have zok : ∀ z, z ∈ fo ++ th → PyData.strOk z = true := fun z hz => (nok.2 z hz).2.1
    have zsz : (fo ++ th).length < sizeLine := by rw [sizeLine_eq]; omega
    refine ⟨_, rfl, _, rfl, ?_⟩
    intro h dx hh hdx nx
    refine mk_at (a := l1) (b := l2) (fo := fo) (th := th) (.inl (SqL.of hf)) (.inl (SqL.of ht)) nok fne (by omega) hh hdx nx fun H3 x3 hou3 => ?_
    refine ⟨Nat.zero_le _, fun ld hld => ⟨Nat.zero_le _, fun lh hlh => ⟨Nat.le_of_ble_eq_true rfl, fun tt htt => ⟨tt, _, rfl, SqT.of upd_same, rfl, _, _, rfl, _, _, rfl, _, _, rfl, rfl, ?_⟩⟩⟩⟩
    have w1 := Ext.upd (o := .lst []) hld
    have w2 := Ext.upd (o := .lst []) hlh
    have w3 := Ext.upd (o := .tup [.ref h, .ref ld, .ref lh]) htt
    obtain ⟨HB, hHB⟩ : ∃ HB, HB = upd (upd (upd H3 ld (.lst [])) lh (.lst [])) tt (.tup [.ref h, .ref ld, .ref lh]) := ⟨_, rfl⟩
    have x3B : Ext H3 HB := by
      rw [hHB]
      exact w1.trans (w2.trans w3)
    have x2B : Ext H2 HB := x3.trans x3B
    have pB := pool_ext p2 x2B
    have ndp : ld ≠ p := pool_ne (pool_ext p2 x3) hld
    have nhp : lh ≠ p := pool_ne (pool_ext p2 (x3.trans w1)) hlh
    have ndh : ld ≠ lh := ne_of_none (upd_same (H := H3) (a := ld) (o := .lst [])) hlh
    have ldB : HB ld = some (.lst []) := by
      rw [hHB]
      exact (w2.trans w3) _ _ upd_same
    have lhB : HB lh = some (.lst []) := by
      rw [hHB]
      exact w3 _ _ upd_same
    have n1d : l1 ≠ ld := ne_of_none (x3 _ _ hf) hld
    have n2d : l2 ≠ ld := ne_of_none (x3 _ _ ht) hld
    have n1h : l1 ≠ lh := ne_of_none ((x3.trans w1) _ _ hf) hlh
    have n2h : l2 ≠ lh := ne_of_none ((x3.trans w1) _ _ ht) hlh
    have hfB := x2B _ _ hf
    have htB := x2B _ _ ht
    have houB := hou3.ext x3B
    rw [← hHB]
    clear hHB w1 w2 w3
    have xB : Ext H HB := x2.trans x2B
    obtain ⟨S, hS⟩ : ∃ S : List Addr, S = [p, ld, lh] := ⟨_, rfl⟩
    have pS : p ∈ S := by rw [hS]; exact List.mem_cons_self
    have dS : ld ∈ S := by rw [hS]; exact List.mem_cons_of_mem _ List.mem_cons_self
    have hhS : lh ∈ S := by rw [hS]; exact List.mem_cons_of_mem _ (List.mem_cons_of_mem _ List.mem_cons_self)
    have n1S : l1 ∉ S := by rw [hS]; simp [n1p, n1d, n1h]
    have n2S : l2 ∉ S := by rw [hS]; simp [n2p, n2d, n2h]
    obtain ⟨yB, hyB⟩ := pB.lst
    have nS : ∀ a, a ∈ S → HB a ≠ none := fun a ha => by
      rw [hS] at ha
      simp at ha
      rcases ha with rfl | rfl | rfl
      · rw [hyB]; exact fun z => nomatch z
      · rw [ldB]; exact fun z => nomatch z
      · rw [lhB]; exact fun z => nomatch z
    -- the facts are drawn
    refine ⟨_, rfl, p, 10, _, rfl, by decide, by decide, pB, by decide, fun r o r0 r1 gp => ?_⟩
    obtain ⟨r, rfl⟩ := Int.eq_ofNat_of_zero_le r0
    have r10 : r < 10 := by omega
    obtain ⟨HC, hHC⟩ : ∃ HC, HC = L2.upd HB p o := ⟨_, rfl⟩
    rw [← hHC] at gp ⊢
    have bC : But HB HC p := by
      rw [hHC]
      exact But.upd (ext_but Ext.rfl')
    obtain ⟨yC, hyC⟩ := gp.lst
    refine ⟨(r : Int), rfl, Int.le_trans (by decide) (Int.natCast_nonneg r), Int.lt_of_le_of_lt (Int.ofNat_le.mpr (Nat.le_of_lt r10)) (by decide), for_range (lo := 0) (n := r) (fun i σ H' => ∃ (v8 v9 : Option V) (dxs hxs : List V) (hs : List (List Str)), σ = [some (.ref as), some (.int (0 + (k : Int))), some (.ref p), some (.ref l1), some (.ref l2), some (.ref h), some (.ref ld), some (.ref lh), v8, v9, v10, v11, v12, v13, v14, v15, v16, v17, v18, v19] ∧
      Kp S HB H' ∧ Mu HB H' ∧ Pool H' p (100 + 5 * i) ∧ H' ld = some (.lst dxs) ∧ Rows K H' dxs (onceR (hs.map (toldR (fo ++ th)))) ∧ H' lh = some (.lst hxs) ∧ Hnds K HB H' hxs hs ∧ FactR fo th hs ∧ TR fo th (onceR (hs.map (toldR (fo ++ th)))) ∧ hs.length = i) ?_ ?_ ?_⟩
    · refine ⟨v8, v9, [], [], [], rfl, fun a u n e => bC a u (fun z => n (z ▸ pS)) e, bC.mu hyB hyC, pool_mono gp (by omega), bC _ _ ndp ldB, True.intro, bC _ _ nhp lhB, ⟨rfl, fun i x hx => by cases hx⟩, (fun r hr => by cases hr), (fun r hr => by cases hr), rfl⟩
    · rintro i σ H4 hi ⟨v8, v9, dxs, hxs, hs, rfl, kp, mu, p4, d4, rw4, h4, hn4, fr4, tr4, hl4⟩
      obtain ⟨y4, hy4⟩ := p4.lst
      have hxl : hxs.length = i := hn4.1.trans hl4
      have dxl : dxs.length ≤ i := by
        rw [rw4.len, ← hl4]
        have z := once_len (hs.map (toldR (fo ++ th))) []
        rw [List.length_map, List.length_nil, Nat.zero_add] at z
        exact z
      refine ⟨_, rfl, _, rfl, _, rfl, p, l1, l2, fo, th, _, rfl, p4, by omega, kp _ _ n1S hfB, kp _ _ n2S htB, n1p, n2p, nd, f1, n2, by omega, fun t wd a b Ha ba pa t0 ta ist => ?_⟩
      obtain ⟨ya, hya⟩ := pa.lst
      have ma : Mu H4 Ha := ba.mu hy4 hya
      have ka : Kp S H4 Ha := Kp.rfl'.but ba pS
      refine ⟨_, rfl, .inl ⟨rfl, _, SqL.of (ba _ _ nhp h4)⟩, _, rfl, _, rfl, p, t, fo, th, wd, a, b, _, rfl, pa, by omega, SqT.of ta, ist, fun r2 c d Hb bb pb isf et hr2 => ?_⟩
      obtain ⟨yb, hyb⟩ := pb.lst
      have mb : Mu H4 Hb := ma.trans (bb.mu hya hyb)
      have kb : Kp S H4 Hb := ka.but bb pS
      have hb := bb _ _ nhp (ba _ _ nhp h4)
      have db := bb _ _ ndp (ba _ _ ndp d4)
      have tb : Hb t = some (.tup [.str wd, .str a, .str b]) := bb _ _ (ne_of ta hya (fun z => nomatch z)) ta
      have hnew : Hnd K HB Hb (.ref r2) [wd, c, d] := by
        rcases hr2 with ⟨rfl, rfl, rfl⟩ | ⟨e0, e1⟩
        · exact ⟨_, rfl, .inl (SqT.of tb)⟩
        · exact ⟨r2, rfl, .inr ⟨(mu.trans ma).none e0, e1⟩⟩
      refine ⟨lh, hxs, _, rfl, rfl, hb, by rw [hxl, sizeLine_eq]; omega, ?_⟩
      obtain ⟨Hc, hHc⟩ : ∃ Hc, Hc = L2.upd Hb lh (.lst (hxs ++ [.ref r2])) := ⟨_, rfl⟩
      rw [← hHc]
      have mbc : Mu Hb Hc := by
        rw [hHc]
        exact (Ext.mu Ext.rfl').upd hb
      have kbc : Kp S Hb Hc := by
        rw [hHc]
        exact Kp.rfl'.upd hhS
      have mc : Mu H4 Hc := mb.trans mbc
      have kc : Kp S H4 Hc := fun a u n e => kbc a u n (kb a u n e)
      have hc : Hc lh = some (.lst (hxs ++ [.ref r2])) := by rw [hHc, upd_same]
      have dc : Hc ld = some (.lst dxs) := by rw [hHc, upd_ne ndh]; exact db
      have tc : SqT K Hc t [.str wd, .str a, .str b] := SqT.mu (SqT.of tb) mbc
      have pc : Pool Hc p (100 + 5 * i + 5) := by
        rw [hHc]
        exact pool_upd (pool_mono pb (by omega)) nhp
      have hnc : Hnds K HB Hc (hxs ++ [.ref r2]) (hs ++ [[wd, c, d]]) := (hn4.kp mc kc nS).snoc (hnew.kp mbc kbc nS)
      have frc := fr4.snoc isf
      have rwc := Rows.mu mc rw4
      have eo : onceR ((hs ++ [[wd, c, d]]).map (toldR (fo ++ th))) = if [wd, a, b] ∈ onceR (hs.map (toldR (fo ++ th))) then onceR (hs.map (toldR (fo ++ th))) else onceR (hs.map (toldR (fo ++ th))) ++ [[wd, a, b]] := by
        have e1 : toldR (fo ++ th) [wd, c, d] = [wd, a, b] := et
        rw [List.map_append, List.map_singleton, e1, once_snoc]
      have hlc : (hs ++ [[wd, c, d]]).length = i + 1 := by rw [List.length_append, hl4]; rfl
      have okt : OkS [wd, a, b] := fun z hz => by
        simp at hz
        rcases hz with rfl | rfl | rfl
        · exact wordsOk _ ist.1.1
        · exact zok _ ist.1.2.1
        · exact zok _ ist.1.2.2.1
      have fin : (100 + 5 * (i : Int) + 5) = 100 + 5 * ((i + 1 : Nat) : Int) := by omega
      rw [fin] at pc
      refine ⟨_, rfl, _, rfl, .tuple ([wd, a, b].map PyData.str), _, .tup tc (dpAll_str [wd, a, b]), .lst (SqL.of dc) (rows_dp rwc), shaped_strT _ okt, rows_shaped (tr4.ok zok), _, rfl, ?_⟩
      rw [any_rows]
      refine ite2 (fun e => ?_) fun e => ?_
      · have nin : [wd, a, b] ∉ onceR (hs.map (toldR (fo ++ th))) := fun m => by
          rw [decide_eq_true m] at e
          cases e
        rw [if_neg nin] at eo
        refine ⟨_, rfl, .inl ⟨rfl, _, SqL.of dc⟩, _, rfl, ld, dxs, _, rfl, rfl, dc, by rw [sizeLine_eq]; omega, ?_⟩
        have md : Mu Hc (L2.upd Hc ld (.lst (dxs ++ [.ref t]))) := (Ext.mu Ext.rfl').upd dc
        have kd : Kp S Hc (L2.upd Hc ld (.lst (dxs ++ [.ref t]))) := Kp.rfl'.upd dS
        refine ⟨_, _, dxs ++ [.ref t], hxs ++ [.ref r2], hs ++ [[wd, c, d]], rfl, fun a u n e => kd a u n (kc a u n (kp a u n e)), mu.trans (mc.trans md), pool_upd pc ndp, upd_same, ?_, ?_, hnc.kp md kd nS, frc, ?_, hlc⟩
        · rw [eo]
          exact Rows.app (Rows.mu md rwc) ⟨⟨t, rfl, SqT.mu tc md⟩, True.intro⟩
        · rw [upd_ne (Ne.symm ndh)]
          exact hc
        · rw [eo]
          intro r hr
          rcases List.mem_append.mp hr with hr | hr
          · exact tr4 r hr
          · exact ⟨wd, a, b, List.mem_singleton.mp hr, ist⟩
      · have isin : [wd, a, b] ∈ onceR (hs.map (toldR (fo ++ th))) := Decidable.byContradiction fun m => by
          rw [decide_eq_false m] at e
          exact e rfl
        rw [if_pos isin] at eo
        refine ⟨_, _, dxs, hxs ++ [.ref r2], hs ++ [[wd, c, d]], rfl, fun a u n e => kc a u n (kp a u n e), mu.trans mc, pc, dc, ?_, hc, hnc, frc, ?_, hlc⟩
        · rw [eo]
          exact rwc
        · rw [eo]
          exact tr4
    · rintro σ H4 ⟨v8, v9, dxs, hxs, hs, rfl, kp, mu, p4, d4, rw4, h4, hn4, fr4, tr4, hl4⟩
      obtain ⟨drs, hdrs⟩ : ∃ drs, drs = onceR (hs.map (toldR (fo ++ th))) := ⟨_, rfl⟩
      rw [← hdrs] at rw4 tr4
      have dnd : drs.Nodup := by
        rw [hdrs]
        exact once_nodup _ [] List.nodup_nil
      have drl : drs.length ≤ 10 := by
        rw [hdrs]
        have z := once_len (hs.map (toldR (fo ++ th))) []
        rw [List.length_map, List.length_nil, Nat.zero_add, hl4] at z
        exact Nat.le_trans z (Nat.le_of_lt r10)
      have hxl : hxs.length = r := hn4.1.trans hl4
      have dxl : dxs.length = drs.length := rw4.len
      have okh : OkR hs := fr4.ok zok
      have okd : OkR drs := tr4.ok zok
      have x04 : Ext H H4 := fun a u e => by
        refine kp a u (fun m => ?_) (xB _ _ e)
        rw [hS] at m
        simp at m
        rcases m with rfl | rfl | rfl
        · rw [Hp0] at e; cases e
        · rw [ext_none (x2.trans x3) hld] at e; cases e
        · have z := hlh
          rw [upd_ne (Ne.symm ndh)] at z
          rw [ext_none (x2.trans x3) z] at e; cases e
      have hou4 := Hou.mu houB mu
      have hf4 := kp _ _ n1S hfB
      have ht4 := kp _ _ n2S htB
      -- what is passed
      refine ⟨_, rfl, lh, _, rfl, .inl (SqL.of h4), fun c1 hc1 => ⟨_, rfl, lh, _, rfl, .inl (SqL.of (Ext.upd hc1 _ _ h4)), fun t2 H5 x5 st5 => ⟨Nat.le_of_ble_eq_true rfl, fun cl hcl => ⟨_, rfl, p, 2, _, rfl, by decide, by decide, pool_ext p4 ((Ext.upd hc1).trans (x5.trans (Ext.upd hcl))), by omega, fun r3 o3 r30 r31 gp3 => ?_⟩⟩⟩⟩
      have z1 := Ext.upd (o := .lst hxs) hc1
      have z2 := Ext.upd (o := .lst [.ref c1, .ref t2]) hcl
      obtain ⟨H6, hH6⟩ : ∃ H6, H6 = L2.upd H5 cl (.lst [.ref c1, .ref t2]) := ⟨_, rfl⟩
      have x6 : Ext H4 H6 := by
        rw [hH6]
        exact z1.trans (x5.trans z2)
      have cl6 : H6 cl = some (.lst [.ref c1, .ref t2]) := by rw [hH6, upd_same]
      have c16 : H6 c1 = some (.lst hxs) := by
        rw [hH6]
        exact (x5.trans z2) _ _ upd_same
      have st6 : SqT K H6 t2 hxs := by
        rw [hH6]
        exact st5.ext z2
      have nc1p : c1 ≠ p := pool_ne p4 hc1
      have nclp : cl ≠ p := pool_ne (pool_ext p4 (z1.trans x5)) hcl
      rw [← hH6] at gp3 ⊢
      clear hH6
      obtain ⟨H7, hH7⟩ : ∃ H7, H7 = L2.upd H6 p o3 := ⟨_, rfl⟩
      rw [← hH7] at gp3 ⊢
      have b7 : But H6 H7 p := by
        rw [hH7]
        exact But.upd (ext_but Ext.rfl')
      have p6 := pool_ext p4 x6
      obtain ⟨y6, hy6⟩ := p6.lst
      obtain ⟨y7, hy7⟩ := gp3.lst
      have m7 : Mu H4 H7 := (Ext.mu x6).trans (b7.mu hy6 hy7)
      have k7 : Kp S H4 H7 := fun a u n e => b7 a u (fun z => n (by rw [z]; exact pS)) (x6 _ _ e)
      have k7' : ∀ a u, a ≠ p → H4 a = some u → H7 a = some u := fun a u n e => b7 a u n (x6 _ _ e)
      obtain ⟨pp, hpp, sq7⟩ : ∃ pp, atI [V.ref c1, V.ref t2] r3 = some (.ref pp) ∧ SeqAt2 K H7 pp hxs := by
        have h01 : r3 = 0 ∨ r3 = 1 := by omega
        rcases h01 with rfl | rfl
        · exact ⟨c1, rfl, .inl (SqL.of (b7 _ _ nc1p c16))⟩
        · exact ⟨t2, rfl, .inr (SqT.mu st6 (b7.mu hy6 hy7))⟩
      refine ⟨cl, _, _, .ref pp, rfl, rfl, SqL.of (b7 _ _ nclp cl6), hpp, ?_⟩
      have hn7 := hn4.kp m7 k7 nS
      have hou7 := Hou.mu hou4 m7
      have hf7 := k7' _ _ n1p hf4
      have ht7 := k7' _ _ n2p ht4
      have ld7 := k7' _ _ ndp d4
      have lh7 := k7' _ _ nhp h4
      have rw7 := Rows.mu m7 rw4
      have x07 : Ext H H7 := fun a u e => b7 a u (ne_of_none e Hp0) (x6 _ _ (x04 a u e))
      have p7 : Pool H7 p 1000 := pool_mono gp3 (by omega)
      -- the facts
      refine ⟨_, rfl, _, rfl, ?_⟩
      intro b d hb hd nb
      refine mkF hou7 nd zsz zok sq7 hn7.raws fr4 (by omega) hb hd nb fun H8 x8 fa8 => ?_
      rw [← hdrs] at fa8
      refine ⟨_, rfl, pp, _, rfl, sq7.ext x8, fun l9 hl9 => ?_⟩
      have x89 := x8.trans (Ext.upd (o := .lst hxs) hl9)
      obtain ⟨ds, dp8, sh8⟩ := (hn7.kp (Ext.mu x89) (Kp.ext (Kp.rfl' (S := S)) x89) nS).dp okh
      have shd : SeqAt.shaped (.list ds) = true := shaped_ds ds sh8
      refine ⟨_, rfl, .list ds, .list ds, .lst (SqL.of upd_same) dp8, .lst (SqL.of (x89 _ _ lh7)) dp8, shd, shd, _, rfl, ?_⟩
      rw [SeqAt.eqv_refl _ (SeqAt.canLay_of_shaped shd)]
      refine iteF ?_
      obtain ⟨H9, hH9⟩ : ∃ H9, H9 = L2.upd H8 l9 (.lst hxs) := ⟨_, rfl⟩
      have x9 : Ext H7 H9 := by
        rw [hH9]
        exact x8.trans (Ext.upd hl9)
      have fa9 : FacAt H9 K CF C b fo th drs := by
        rw [hH9]
        exact fa8.ext (Ext.upd hl9)
      rw [← hH9]
      clear hH9
      have hn9 := hn7.kp (Ext.mu x9) (Kp.ext (Kp.rfl' (S := S)) x9) nS
      have lh9 := x9 _ _ lh7
      -- what was handed over is changed
      refine ⟨_, rfl, lh, rfl, ⟨_, SqL.of lh9⟩, for_list (K := K) (a := lh) (xs := hxs) (fun i σ H' => (∃ v12 : Option V, σ = [some (.ref as), some (.int (0 + (k : Int))), some (.ref p), some (.ref l1), some (.ref l2), some (.ref h), some (.ref ld), some (.ref lh), v8, v9, some (.ref pp), some (.ref b), v12, v13, v14, v15, v16, v17, v18, v19]) ∧
        Mu H9 H' ∧ (∀ a u, HB a ≠ none → H9 a = some u → H' a = some u) ∧ ∀ a xs, H9 a = some (.lst xs) → ∃ ys, H' a = some (.lst ys) ∧ ys.length ≤ xs.length + i) ⟨⟨v12, rfl⟩, Ext.mu Ext.rfl', fun _ _ _ e => e, fun a xs e => ⟨xs, e, Nat.le_refl _⟩⟩ ?_ ?_ ?_⟩
      · rintro i σ H' _ ⟨_, _, ke, _⟩
        exact SqL.of (ke _ _ (nS _ hhS) lh9)
      · rintro i x σ HM hx ⟨⟨u12, rfl⟩, mM, kM, lM⟩
        have il : i < hxs.length := (List.getElem?_eq_some_iff.mp hx).1
        obtain ⟨rr, _, tx, rfl, hx9⟩ := hn9.2 i x hx
        rcases hx9 with hx9 | ⟨n0, hx9⟩
        · refine ⟨_, rfl, .ref tx, .ty "list", .type "tuple", .type "list", false, rfl, .ty _, tyx_sqT (SqT.mu hx9 mM), kit_ty (by decide +kernel), false, rfl, ?_⟩
          refine iteF ?_
          exact ⟨⟨_, rfl⟩, mM, kM, fun a xs e => by
            obtain ⟨ys, e1, e2⟩ := lM a xs e
            exact ⟨ys, e1, by omega⟩⟩
        · obtain ⟨ys, hys, yl⟩ := lM _ _ hx9
          refine ⟨_, rfl, .ref tx, .ty "list", .type "list", .type "list", true, rfl, .ty _, tyx_lst hys, kit_ty (by decide +kernel), true, rfl, ?_⟩
          refine iteT ?_
          have r3l : (rr.map V.str).length ≤ 3 := by
            obtain ⟨w3, a3, b3, rfl, _⟩ := fr4 rr (List.mem_of_getElem? ‹_›)
            exact Nat.le_refl _
          refine ⟨_, rfl, .inl ⟨rfl, _, SqL.of hys⟩, tx, ys, _, rfl, rfl, hys, by rw [sizeLine_eq]; omega, ?_⟩
          refine ⟨⟨_, rfl⟩, mM.upd hys, fun a u n e => ?_, fun a xs e => ?_⟩
          · rw [upd_ne (show a ≠ tx from fun z => n (by rw [z]; exact n0))]
            exact kM a u n e
          · by_cases z : a = tx
            · subst z
              obtain ⟨ys2, e1, e2⟩ := lM a xs e
              rw [hys] at e1
              cases e1
              exact ⟨_, upd_same, by rw [List.length_append]; show _ + 1 ≤ _; omega⟩
            · obtain ⟨ys2, e1, e2⟩ := lM a xs e
              exact ⟨ys2, by rw [upd_ne z]; exact e1, by omega⟩
      rintro σ HM ⟨⟨u12, rfl⟩, mM, kM, _⟩
      have faM := FacAt.mu fa9 mM
      have houM := Hou.mu (hou7.ext x9) mM
      have nb1 : HB l1 ≠ none := by rw [hfB]; exact fun z => nomatch z
      have nb2 : HB l2 ≠ none := by rw [htB]; exact fun z => nomatch z
      have hfM := kM _ _ nb1 (x9 _ _ hf7)
      have htM := kM _ _ nb2 (x9 _ _ ht7)
      have ldM := kM _ _ (nS _ dS) (x9 _ _ ld7)
      have rwM := Rows.mu mM (rw7.ext x9)
      have pM : Pool HM p 1000 := by
        obtain ⟨g, mm, c, e1, e2⟩ := p7
        exact ⟨g, mm, c, kM _ _ (nS _ pS) (x9 _ _ e1), e2⟩
      have x0M : Ext H HM := fun a u e => kM a u (by rw [xB _ _ e]; exact fun z => nomatch z) (x9 _ _ (x07 a u e))
      clear mM kM hn9 hn7 m7 k7 k7' x9 x8 fa8 fa9
      -- house, told, len, a walk
      obtain ⟨dx2, fs2, h2, rr, ys, e1, e2, e3, e4, e5, e6, e7, e8⟩ := id faM
      obtain ⟨hx, hfs, hins⟩ := e4.ins
      refine ⟨_, rfl, b, CF, dx2, fs2, _, rfl, e1, F.T.cl, F.T.nh, e2, _, rfl, h2, hx, hfs, .ref C, rfl, hins, tyH Z.T houM, by simp [PySem.W.notFirst], h2, fo, th, _, rfl, e4, .inr ⟨h, fo, th, rfl, houM, true, by rw [decide_eq_true rfl, decide_eq_true rfl]; rfl, _, rfl, ?_⟩⟩
      refine iteF ?_
      refine ⟨_, rfl, b, dx2, fs2, rfl, e1, e8 _ (by decide), b, fo, th, drs, rfl, faM, fun lt1 ys1 H10 x10 n10 hl10 hr10 => ?_⟩
      refine ⟨_, rfl, rowsD drs, rowsD drs, .lst (SqL.of hl10) (rows_dp hr10), .lst (SqL.of (x10 _ _ ldM)) (rows_dp (rwM.ext x10)), rows_shaped okd, rows_shaped okd, _, rfl, ?_⟩
      rw [eqv_rows, decide_eq_true rfl]
      refine iteF ?_
      refine ⟨_, rfl, b, dx2, fs2, rfl, x10 _ _ e1, b, fo, th, drs, rfl, faM.ext x10, (drs.length : Int), rfl, Int.natCast_nonneg _, Int.lt_of_le_of_lt (Int.ofNat_le.mpr drl) (by decide), ?_⟩
      refine ⟨_, rfl, _, dxs.length, rfl, .inl ⟨_, SqL.of (x10 _ _ ldM), rfl⟩, rfl, _, rfl, ?_⟩
      rw [dxl]
      refine ite2 (fun e => absurd e (by simp)) (fun _ => ?_)
      have ysl : ys.length = drs.length := e6.len
      refine ⟨_, rfl, b, dx2, fs2, rr, ys, rfl, x10 _ _ e1, e3, e5.ext x10, fun D hD => lc_it (walk_tup (xs := ys)) (fun j Hj => Ext H10 Hj ∧ Hj D = some (.lst (ys.take j))) ⟨Ext.upd hD, upd_same⟩ (fun j Hj _ z => (e5.ext x10).ext z.1) ?_ ?_⟩
      · rintro j y Hj Hj' hj ⟨xj, lj⟩ ⟨rfl, hy⟩
        refine ⟨rfl, ?_⟩
        refine lcYes ?_
        refine ⟨_, rfl, _, lj, ?_, xj.over hD, ?_⟩
        · rw [List.length_take, sizeLine_eq]
          omega
        · rw [upd_same, List.take_add_one, hy]
          rfl
      rintro H11 ⟨x11, l11⟩
      rw [List.take_length] at l11
      have x1011 := x10.trans x11
      refine ⟨_, rfl, rowsD drs, rowsD drs, .lst (SqL.of l11) (rows_dp (e6.ext x1011)), .lst (SqL.of (x1011 _ _ ldM)) (rows_dp (rwM.ext x1011)), rows_shaped okd, rows_shaped okd, _, rfl, ?_⟩
      rw [eqv_rows, decide_eq_true rfl]
      refine iteF ?_
      -- tuples, walks within walks
      refine ⟨_, rfl, b, dx2, fs2, rfl, x1011 _ _ e1, e8 _ (by decide), b, fo, th, drs, rfl, faM.ext x1011, fun lt2 ys2 H12 x12 n12' hl12 hr12 => ⟨lt2, rfl, ⟨_, SqL.of hl12⟩, fun D2 hD2 => ?_⟩⟩
      have ys2l : ys2.length = drs.length := hr12.len
      refine lc_list (K := K) (a := lt2) (xs := ys2) (fun i H' => Ext H12 H' ∧ H' D2 = some (.lst (List.replicate i (V.bl true)))) ⟨Ext.upd hD2, upd_same⟩ (fun i H' _ z => SqL.of (z.1 _ _ hl12)) ?_ ?_
      · rintro i v H' hv ⟨x', l'⟩
        have il : i < ys2.length := (List.getElem?_eq_some_iff.mp hv).1
        obtain ⟨tx, r', rfl, sq, _⟩ := (hr12.ext x').at_ hv
        refine ⟨rfl, ?_⟩
        refine lcYes ?_
        refine ⟨_, rfl, .ref tx, .ty "tuple", .type "tuple", .type "tuple", true, rfl, .ty _, tyx_sqT sq, kit_ty (by decide +kernel), _, l', ?_, x'.over hD2, ?_⟩
        · rw [List.length_replicate, sizeLine_eq]
          omega
        · rw [upd_same, List.replicate_succ']
      rintro H13 ⟨x13, l13⟩
      have eflat : (List.replicate ys2.length (V.bl true)).all flatV = true := List.all_eq_true.mpr fun z hz => by rw [List.eq_of_mem_replicate hz]; rfl
      have enot : inV (.bl false) (List.replicate ys2.length (V.bl true)) = false := List.any_eq_false.mpr fun z hz => by
        rw [List.eq_of_mem_replicate hz]
        exact Bool.false_ne_true
      refine ⟨D2, _, rfl, .inl (SqL.of l13), rfl, eflat, _, rfl, ?_⟩
      rw [enot]
      refine iteF ?_
      have xM13 : Ext HM H13 := x1011.trans (x12.trans x13)
      refine ⟨_, rfl, _, rfl, b, ld, fo, th, drs, rfl, faM.ext xM13, ⟨dxs, xM13 _ _ ldM, rwM.ext xM13⟩, by omega, fun H14 x14 => ⟨true, rfl, ?_⟩⟩
      refine iteF ?_
      have xM14 := xM13.trans x14
      have pM14 := pool_ext pM xM14
      have n1p' : l1 ≠ p := n1p
      -- some facts
      refine ⟨4, rfl, by decide, by decide, fun D3 hD3 => ?_⟩
      obtain ⟨y14, hy14⟩ := pM14.lst
      have nD3p : D3 ≠ p := pool_ne pM14 hD3
      have hf14 := xM14 _ _ hfM
      have ht14 := xM14 _ _ htM
      have ld14 := xM14 _ _ ldM
      refine lc_range (lo := 0) (n := 4) (fun i H' => But H14 H' p ∧ Pool H' p (1000 + 3 * i) ∧ ∃ (sxs : List V) (srs : List (List Str)), H' D3 = some (.lst sxs) ∧ Rows K H' sxs srs ∧ TR fo th srs ∧ srs.length = i) ⟨ext_but (Ext.upd hD3), pool_mono (pool_ext pM14 (Ext.upd hD3)) (by omega), [], [], upd_same, True.intro, (fun r hr => by cases hr), rfl⟩ ?_ ?_
      · rintro i H' hi ⟨bk, pk, sxs, srs, lk, rk, tk, el⟩
        obtain ⟨yk, hyk⟩ := pk.lst
        have sxl : sxs.length = srs.length := rk.len
        refine ⟨rfl, ?_⟩
        refine lcYes ?_
        refine ⟨_, rfl, _, rfl, _, rfl, p, l1, l2, fo, th, _, rfl, pk, by omega, bk _ _ n1p hf14, bk _ _ n2p ht14, n1p, n2p, nd, f1, n2, by omega, fun t wd a' b' Ha ba pa t0 ta ist => ?_⟩
        obtain ⟨ya, hya⟩ := pa.lst
        have lka := ba _ _ nD3p lk
        have ma : Mu H' (L2.upd Ha D3 (.lst (sxs ++ [.ref t]))) := (ba.mu hyk hya).upd lka
        refine ⟨sxs, lka, by rw [sizeLine_eq]; omega, fun a u n e => ?_, pool_upd (pool_mono pa (by omega)) nD3p, sxs ++ [.ref t], srs ++ [[wd, a', b']], upd_same, ?_, ?_, by rw [List.length_append, el]; rfl⟩
        · rw [upd_ne (ne_of_none e hD3)]
          exact ba a u n (bk a u n e)
        · exact Rows.app (Rows.mu ma rk) ⟨⟨t, rfl, SqT.mu (SqT.of ta) ((Ext.mu Ext.rfl').upd lka)⟩, True.intro⟩
        · intro r' hr'
          rcases List.mem_append.mp hr' with hr' | hr'
          · exact tk r' hr'
          · exact ⟨wd, a', b', List.mem_singleton.mp hr', ist⟩
      rintro H15 ⟨b15, p15, sxs, srs, l15, r15, t15, el⟩
      obtain ⟨y15, hy15⟩ := p15.lst
      have m15 : Mu H14 H15 := b15.mu hy14 hy15
      have ld15 := b15 _ _ ndp ld14
      have rw15 := Rows.mu m15 (rwM.ext xM14)
      have fa15 := FacAt.mu (faM.ext xM14) m15
      have hou15 := Hou.mu (houM.ext xM14) m15
      have hf15 := b15 _ _ n1p hf14
      have ht15 := b15 _ _ n2p ht14
      have x015 : Ext H H15 := fun a u e => b15 a u (ne_of_none e Hp0) (xM14 _ _ (x0M a u e))
      refine ⟨_, rfl, _, rfl, _, rfl, b, ld, D3, fo, th, drs, srs, rfl, fa15, nd, zsz, zok, ⟨dxs, ld15, rw15⟩, tr4, by omega, ⟨sxs, l15, r15⟩, t15, by omega, fun H16 x16 => ⟨true, rfl, ?_⟩⟩
      refine iteF ?_
      refine ⟨_, rfl, _, rfl, _, rfl, b, h, ld, fo, th, drs, rfl, fa15.ext x16, hou15.ext x16, nd, zsz, zok, ⟨dxs, x16 _ _ ld15, rw15.ext x16⟩, tr4, dnd, by omega, fun H17 x17 => ⟨true, rfl, ?_⟩⟩
      refine iteF ?_
      -- of another house
      have x1517 := x16.trans x17
      have ht17 := x1517 _ _ ht15
      refine ⟨_, rfl, _, rfl, _, rfl, Nat.le_of_ble_eq_true rfl, fun e5 he5 => ⟨l2, e5, _, _, rfl, rfl, Ext.upd he5 _ _ ht17, upd_same, by rw [List.length_map, sizeLine_eq]; show _ + 1 ≤ _; omega, fun lz hlz => ?_⟩⟩
      have z5 := Ext.upd (o := .lst [.str "zq"]) he5
      have z6 := Ext.upd (o := .lst (th.map V.str ++ [.str "zq"])) hlz
      have z56 := z5.trans z6
      have okz : Nok (fo ++ (th ++ [("zq" : Str)])) := (Nok.zq nms).perm (by
        rw [← List.append_assoc]
        exact List.perm_append_singleton ("zq" : Str) (fo ++ th))
      have lz6 : (fo ++ (th ++ [("zq" : Str)])).length ≤ 7 := by
        rw [← List.append_assoc, List.length_append]
        exact Nat.succ_le_succ n6
      intro b2' d2 hb2 hd2 nb2
      refine mk_at (a := l1) (b := lz) (fo := fo) (th := th ++ [("zq" : Str)]) (.inl (SqL.of (z56 _ _ (x1517 _ _ hf15)))) (.inl (SqL.of (by rw [List.map_append]; exact upd_same))) okz fne (by rw [sizeLine_eq]; omega) hb2 hd2 nb2 fun H18 x18 hou18 => ?_
      have x1518 := x1517.trans (z56.trans x18)
      refine ⟨_, rfl, ?_⟩
      intro b3 d3 hb3 hd3 nb3
      refine mkF hou18 okz.1 (by rw [sizeLine_eq]; omega) (fun z hz => (okz.2 z hz).2.1) (.inl (SqL.of (x1518 _ _ ld15))) ((rw15.ext x1518).raws) (fun r' hr' => by
        obtain ⟨w', a', b', e', i'⟩ := tr4 r' hr'
        exact ⟨w', a', b', e', isF_more i'.1⟩) (by omega) hb3 hd3 nb3 fun H19 x19 fa19 => ?_
      have x1519 := x1518.trans x19
      have fa19b := fa15.ext x1519
      obtain ⟨dx3, fs3, ins3⟩ := fa19b.ins
      refine ⟨b, dx3, fs3, .ref CF, rfl, ins3, tyF F.T fa19, by simp [PySem.W.notFirst], b, fo, th, drs, _, rfl, fa19b, .inr ⟨b3, fo, th ++ [("zq" : Str)], _, rfl, fa19, fun H20 x20 => ⟨_, rfl, ?_⟩⟩⟩
      have thn : th ≠ th ++ [("zq" : Str)] := fun e => by
        have := congrArg List.length e
        rw [List.length_append] at this
        simp at this
      rw [decide_eq_false thn, Bool.false_and, Bool.and_false]
      refine ⟨_, rfl, ?_⟩
      refine iteF ?_
      have x1520 := x1519.trans x20
      have p20 := pool_ext p15 x1520
      obtain ⟨y20, hy20⟩ := p20.lst
      -- what cannot stand there
      refine ⟨_, rfl, _, rfl, _, rfl, p, l1, l2, fo, th, _, rfl, p20, by decide, x1520 _ _ hf15, x1520 _ _ ht15, n1p, n2p, nms, f1, n2, by omega, fun y H21 b21 p21 oy => ?_⟩
      have ld21 := b21 _ _ ndp (x1520 _ _ ld15)
      refine ⟨_, rfl, _, rfl, _, dxs.length, rfl, .inl ⟨_, SqL.of ld21, rfl⟩, _, _, rfl, rfl, p, _, _, rfl, by omega, by omega, p21, by decide, fun r4 o4 r40 r41 gp4 => ?_⟩
      obtain ⟨q1, rfl⟩ := Int.eq_ofNat_of_zero_le r40
      have hq1 : q1 ≤ dxs.length := by omega
      obtain ⟨H22, hH22⟩ : ∃ H22, H22 = L2.upd H21 p o4 := ⟨_, rfl⟩
      rw [← hH22] at gp4 ⊢
      have b2122 : But H21 H22 p := by
        rw [hH22]
        exact But.upd (ext_but Ext.rfl')
      have b2022 : But H20 H22 p := b21.trans b2122
      obtain ⟨y22, hy22⟩ := gp4.lst
      have m22 : Mu H20 H22 := b2022.mu hy20 hy22
      have oy22 := oy H22 b2122
      have ld22 := b2122 _ _ ndp ld21
      have rw22 := Rows.mu m22 (rw15.ext x1520)
      have fa22 := FacAt.mu (fa15.ext x1520) m22
      have hou22 := Hou.mu (hou15.ext x1520) m22
      have x022 : Ext H H22 := fun a u e => b2022 a u (ne_of_none e Hp0) (x1520 _ _ (x015 a u e))
      have cut1 : cutV dxs none (some ((q1 : Nat) : Int)) = dxs.take q1 := cutV_take hq1
      have cut2 : cutV dxs (some ((q1 : Nat) : Int)) none = dxs.drop q1 := cutV_drop hq1
      refine ⟨_, _, rfl, ?_⟩
      refine ⟨_, rfl, _, rfl, _, rfl, ld, _, rfl, SqL.of ld22, fun s1 hs1 => ?_⟩
      rw [cut1]
      have w1 := Ext.upd (o := .lst (dxs.take q1)) hs1
      refine ⟨_, rfl, Nat.le_of_ble_eq_true rfl, fun s2 hs2 => ?_⟩
      have w2 := Ext.upd (o := .lst [y]) hs2
      have tkl : (dxs.take q1).length ≤ 10 := by
        rw [List.length_take]
        omega
      have drl' : (dxs.drop q1).length ≤ 10 := by
        rw [List.length_drop]
        omega
      refine ⟨s1, s2, _, _, rfl, rfl, w2 _ _ upd_same, upd_same, by rw [sizeLine_eq]; show _ + 1 ≤ _; omega, fun s3 hs3 => ?_⟩
      have w3 := Ext.upd (o := .lst (dxs.take q1 ++ [y])) hs3
      refine ⟨_, rfl, _, rfl, _, rfl, ld, _, rfl, SqL.of (w3 _ _ (w2 _ _ (w1 _ _ ld22))), fun s4 hs4 => ?_⟩
      rw [cut2]
      have w4 := Ext.upd (o := .lst (dxs.drop q1)) hs4
      refine ⟨s3, s4, _, _, rfl, rfl, w4 _ _ upd_same, upd_same, by rw [List.length_append, sizeLine_eq]; show _ + 1 + _ ≤ _; omega, fun s5 hs5 => ?_⟩
      have w5 := Ext.upd (o := .lst ((dxs.take q1 ++ [y]) ++ dxs.drop q1)) hs5
      refine ⟨Nat.le_of_ble_eq_true rfl, fun s6 hs6 => ⟨s5, s6, _, _, rfl, rfl, Ext.upd hs6 _ _ upd_same, upd_same, by rw [List.length_append, List.length_append, sizeLine_eq]; show _ + 1 + _ + 1 ≤ _; omega, fun lb hlb => ?_⟩⟩
      have w6 := Ext.upd (o := .lst [V.non]) hs6
      have w7 := Ext.upd (o := .lst (((dxs.take q1 ++ [y]) ++ dxs.drop q1) ++ [V.non])) hlb
      obtain ⟨H23, hH23⟩ : ∃ H23, H23 = upd (upd (upd (upd (upd (upd (upd H22 s1 (.lst (dxs.take q1))) s2 (.lst [y])) s3 (.lst (dxs.take q1 ++ [y]))) s4 (.lst (dxs.drop q1))) s5 (.lst ((dxs.take q1 ++ [y]) ++ dxs.drop q1))) s6 (.lst [V.non])) lb (.lst (((dxs.take q1 ++ [y]) ++ dxs.drop q1) ++ [V.non])) := ⟨_, rfl⟩
      have x2223 : Ext H22 H23 := by
        rw [hH23]
        exact w1.trans (w2.trans (w3.trans (w4.trans (w5.trans (w6.trans w7)))))
      have elb : H23 lb = some (.lst (((dxs.take q1 ++ [y]) ++ dxs.drop q1) ++ [V.non])) := by rw [hH23, upd_same]
      rw [← hH23]
      clear hH23 w1 w2 w3 w4 w5 w6 w7
      have rw23 := rw22.ext x2223
      have sub1 : ∀ r', r' ∈ drs.take q1 → r' ∈ drs := fun r' hr' => List.mem_of_mem_take hr'
      have sub2 : ∀ r', r' ∈ drs.drop q1 → r' ∈ drs := fun r' hr' => List.mem_of_mem_drop hr'
      have f1' := raws_facts (rw23.take q1).raws (tr4.sub sub1).fact
      have f2' := raws_facts (rw23.drop q1).raws (tr4.sub sub2).fact
      have fnon : FactOf K H23 fo th .non false := no_kit (.base .non) (by decide +kernel) (by decide +kernel)
      have fall := ((f1'.app (.one (oy22.ext x2223))).app f2').app (.one fnon)
      have tkl' : (dxs.take q1).length = q1 := by
        rw [List.length_take]
        omega
      have first : firstF (((List.replicate (dxs.take q1).length true ++ [false]) ++ List.replicate (dxs.drop q1).length true) ++ [false]) = some q1 := by
        rw [tkl']
        refine first_some ?_ fun j hj => ?_
        · rw [List.append_assoc, List.append_assoc, List.getElem?_append_right (by rw [List.length_replicate]; exact Nat.le_refl _), List.length_replicate, Nat.sub_self]
          rfl
        · rw [List.append_assoc, List.append_assoc, List.getElem?_append_left (by rw [List.length_replicate]; exact hj), List.getElem?_replicate, if_pos hj]
      refine ⟨_, rfl, _, rfl, h, .ref lb, fo, th, q1, rfl, hou22.ext x2223, nd, zsz, zok, .inr ⟨lb, _, _, rfl, .inl (SqL.of elb), fall, first.symm⟩, fun H24 x24 => ?_⟩
      refine ⟨_, rfl, rfl, _, rfl, ?_⟩
      refine ite2 (fun e => absurd e (by simp)) (fun _ => ?_)
      have x2224 := x2223.trans x24
      have fa24 := fa22.ext x2224
      obtain ⟨dx4, fs4, ins4⟩ := fa24.ins
      refine ⟨_, rfl, _, rfl, b, dx4, fs4, rfl, ins4, b, fo, th, drs, _, rfl, fa24, nd, zsz, zok, .inl ⟨oy22.ext x2224, fun H25 x25 => ⟨_, rfl, _, rfl, ?_⟩⟩⟩
      refine iteF ?_
      -- what is no list
      have x2225 := x2224.trans x25
      refine fun d6 g6 => ⟨_, rfl, Nat.le_of_ble_eq_true rfl, fun ln hln => ?_⟩
      have z8 := Ext.upd (o := .dK []) g6
      have z9 := Ext.upd (o := .lst [.non, .int 5, .str "", .ref d6, .bl true, .ref b]) hln
      obtain ⟨H26, hH26⟩ : ∃ H26, H26 = upd (upd H25 d6 (.dK [])) ln (.lst [.non, .int 5, .str "", .ref d6, .bl true, .ref b]) := ⟨_, rfl⟩
      have x2526 : Ext H25 H26 := by
        rw [hH26]
        exact z8.trans z9
      have ln26 : H26 ln = some (.lst [.non, .int 5, .str "", .ref d6, .bl true, .ref b]) := by rw [hH26, upd_same]
      have d626 : H26 d6 = some (.dK []) := by
        rw [hH26]
        exact z9 _ _ upd_same
      rw [← hH26]
      clear hH26 z8 z9
      have x2226 := x2225.trans x2526
      refine ⟨_, rfl, ln, rfl, ⟨_, SqL.of ln26⟩, fun D7 hD7 => ?_⟩
      refine lc_list (K := K) (a := ln) (xs := [.non, .int 5, .str "", .ref d6, .bl true, .ref b]) (fun j H' => Ext H26 H' ∧ H' D7 = some (.lst (List.replicate j (V.int 0)))) ⟨Ext.upd hD7, upd_same⟩ (fun j H' _ z => SqL.of (z.1 _ _ ln26)) ?_ ?_
      · rintro j v H' hv ⟨x', l'⟩
        have jl : j < 6 := (List.getElem?_eq_some_iff.mp hv).1
        refine ⟨rfl, ?_⟩
        refine lcYes ?_
        have ps : Passed K H' fo th v (some 0) := by
          have mv := List.mem_of_getElem? hv
          simp only [List.mem_cons, List.not_mem_nil, or_false] at mv
          rcases mv with rfl | rfl | rfl | rfl | rfl | rfl
          · exact .inl ⟨rfl, _, .base .non, kit_no (by decide +kernel) (by decide +kernel)⟩
          · exact .inl ⟨rfl, _, .base (.int 5), kit_no (by decide +kernel) (by decide +kernel)⟩
          · exact .inl ⟨rfl, _, .base (.str _), kit_no (by decide +kernel) (by decide +kernel)⟩
          · exact .inl ⟨rfl, _, .base (.dK (x' _ _ d626)), kit_no (by decide +kernel) (by decide +kernel)⟩
          · exact .inl ⟨rfl, _, .base (.bl true), kit_no (by decide +kernel) (by decide +kernel)⟩
          · exact .inl ⟨rfl, _, tyF F.T (fa22.ext (x2226.trans x')), F.kSeq⟩
        refine ⟨_, rfl, _, rfl, h, v, fo, th, 0, rfl, hou22.ext (x2226.trans x'), nd, zsz, zok, ps, fun H9 x9 => ⟨_, x9 _ _ l', ?_, (x'.trans x9).over hD7, ?_⟩⟩
        · rw [List.length_replicate, sizeLine_eq]; omega
        · rw [upd_same, List.replicate_succ']
          rfl
      rintro H27 ⟨x27, l27⟩
      refine ⟨Nat.le_of_ble_eq_true rfl, fun z hz => ⟨z, _, _, rfl, rfl, upd_same, by decide, by decide, by decide, fun z2 hz2 => ?_⟩⟩
      have y1 := Ext.upd (o := .lst [.int 0]) hz
      have y2 := Ext.upd (o := .lst (List.replicate (6 : Int).toNat [V.int 0]).flatten) hz2
      have e13 : (List.replicate (6 : Int).toNat [V.int 0]).flatten = List.replicate 6 (V.int 0) := rfl
      refine ⟨.list (List.replicate 6 (.int 0)), .list (List.replicate 6 (.int 0)), .lst (SqL.of ((y1.trans y2) _ _ l27)) (zeros_dp 6), .lst (SqL.of upd_same) (by rw [e13]; exact zeros_dp 6), zeros_shaped 6, zeros_shaped 6, _, rfl, ?_⟩
      have ee : PyData.eqv (.list (List.replicate 6 (.int 0))) (.list (List.replicate 6 (.int 0))) = true := by decide +kernel
      rw [ee]
      refine iteF ?_
      have x2227 := x2226.trans (x27.trans (y1.trans y2))
      refine ⟨_, rfl, ?_⟩
      intro b5 d5 hb5 hd5 nb5
      refine mkF (xs := []) (rs := []) (hou22.ext x2227) nd zsz zok (.inr (F.tD _)) ⟨rfl, fun i x hx => by cases hx⟩ (fun r' hr' => by cases hr') (by decide) hb5 hd5 nb5 fun H28 x28 fa28 => ?_
      obtain ⟨dx5, fs5, ins5⟩ := fa28.ins
      refine ⟨b5, dx5, fs5, rfl, ins5, b5, fo, th, _, rfl, fa28, 0, rfl, by decide, by decide, ?_⟩
      refine ⟨rfl, _, rfl, ?_⟩
      refine ite2 (fun e => absurd e (by decide)) (fun _ => ?_)
      exact ⟨_, _, _, _, _, _, _, _, _, _, _, _, _, _, _, _, _, _, _, rfl, x022.trans (x2227.trans x28)⟩
end
end My

namespace My
open PySem PySem.Spec PyProof.Rows L2 He
/-! ### what is looked up in the written part, as truths -/
def oexB (K : PySem.W.Frag) (C : Addr) : Bool := (match K.lookup C with
    | some ⟨.type t, _, .cls cd, sl⟩ => decide (t = "type") && (match cd.mro, sl.toList with
      | .ref C' :: bm, [_, _, _, _, some (.builtin n), _] => decide (C' = C) && (decide (n = "ValueError.__new__") && (!cd.hasDel && (cd.hasDict && PySem.HandSPX.refsVE bm)))
      | _, _ => false)
    | _ => false) && (decide (PySem.W.findIn K (.ref C) "__setattr__" = some (some (.builtin "object.__setattr__"))) && (decide (PySem.W.subIn K (.ref C) (.type "BaseException") = some true) &&
    (decide (PySem.W.typeIn K (.ref C) = some (.type "type")) && PySem.W.keepIn K (.ref C))))
theorem oexB_ok {K : PySem.W.Frag} {C : Addr} (h : oexB K C = true) : OexC K C := by
  obtain ⟨h1, h⟩ := ba h
  obtain ⟨h2, h⟩ := ba h
  obtain ⟨h3, h⟩ := ba h
  obtain ⟨h4, h5⟩ := ba h
  refine ⟨?_, of_decide_eq_true h2, of_decide_eq_true h3, of_decide_eq_true h4, h5⟩
  split at h1
  · rename_i t dd cd sl ho
    obtain ⟨k1, k2⟩ := ba h1
    obtain rfl := of_decide_eq_true k1
    split at k2
    · rename_i C' bm k0 k1 k2' k3 n k5 hm hs
      obtain ⟨e1, k2⟩ := ba k2
      obtain ⟨e2, k2⟩ := ba k2
      obtain ⟨e3, k2⟩ := ba k2
      obtain ⟨e4, e5⟩ := ba k2
      obtain rfl := of_decide_eq_true e1
      obtain rfl := of_decide_eq_true e2
      obtain ⟨nm, bs, mro, ns, qn, hd, sn, sub, ab, col, del⟩ := cd
      dsimp only at hm e3 e4
      subst hm
      obtain rfl : hd = true := e4
      obtain rfl : del = false := by
        cases del
        · rfl
        · cases e3
      have hsl : sl = #[k0, k1, k2', k3, some (.builtin "ValueError.__new__"), k5] := by
        obtain ⟨l⟩ := sl
        simp only at hs
        rw [hs]
      subst hsl
      exact ⟨nm, qn, ns, bs, bm, sn, sub, ab, col, dd, k0, k1, k2', k3, k5, ho, e5⟩
    · cases k2
  · cases h1
def kitCB (K : PySem.W.Frag) (C : Addr) : Bool := (PySem.W.clsIn K C).isSome && (decide (PySem.W.findIn K (.ref C) "__class__" = some (some (.builtin "object.__class__"))) &&
  (decide (PySem.W.specialIn K (.builtin "object.__class__") "__get__" = some (some (.builtin "getset_descriptor.__get__"))) && (decide (PySem.W.takesIn K (.builtin "object.__class__") = some true) && decide (PySem.W.mroIn K C (.type "object") = some true))))
theorem kitCB_ok {K : PySem.W.Frag} {C : Addr} (h : kitCB K C = true) : KitC K C := by
  obtain ⟨h1, h⟩ := ba h
  obtain ⟨h2, h⟩ := ba h
  obtain ⟨h3, h⟩ := ba h
  obtain ⟨h4, h5⟩ := ba h
  exact ⟨h1, of_decide_eq_true h2, of_decide_eq_true h3, of_decide_eq_true h4, of_decide_eq_true h5⟩
/-- a class with one field -/
def errB (K : PySem.W.Frag) (x f : Str) : Bool := oexB K (ga K x) && (xfB K (ga K x) && (kitCB K (ga K x) && (decide (PySem.W.findIn K (.ref (ga K x)) "__init__" = some (some (.ref (ma K (ga K x) "__init__")))) &&
  (decide (PySem.W.typeIn K (.ref (ma K (ga K x) "__init__")) = some (.type "function")) && decide (PySem.W.findIn K (.ref (ga K x)) f = some none)))))
theorem errB_ok {K : PySem.W.Frag} {mg : Str → Option Value} {x f : Str} (g : mg x = some (.ref (ga K x))) (h : errB K x f = true) : ErrC K mg x f (ga K x) (ma K (ga K x) "__init__") := by
  obtain ⟨h1, h⟩ := ba h
  obtain ⟨h2, h⟩ := ba h
  obtain ⟨h3, h⟩ := ba h
  obtain ⟨h4, h⟩ := ba h
  obtain ⟨h5, h6⟩ := ba h
  exact ⟨g, oexB_ok h1, xfB_ok h2, kitCB_ok h3, of_decide_eq_true h4, of_decide_eq_true h5, of_decide_eq_true h6⟩
/-! ### the look at the head: facts, defs, and one more truth -/
abbrev AlM : Type := AlD × Bool
def seenM (fa : List Fa) (fn : List DefD) (ex : PySem.W.Frag → Bool) (K : PySem.W.Frag) : AlM := (obsD fa fn K, ex K)
def seenMG (n : Nat) (fa : List Fa) (fn : List DefD) (ex : PySem.W.Frag → Bool) (g : Addr → Option Obj) : AlM := seenM fa fn ex (frG g (asD g n))
def hookM (n : Nat) (fa : List Fa) (fn : List DefD) (ex : PySem.W.Frag → Bool) : PySem.W.Hook where
  α := AlM
  obs := fun s => seenMG n fa fn ex s.heap.get?
  val := fun _ => (valD fn, true)
  says := fun _ h => ∃ K : PySem.W.Frag, K.In h ∧ (SaysD fa fn K ∧ ex K = true)
  of := fun _ _ e => ⟨_, frG_in, congrArg (fun z : AlM => z.1) e, congrArg (fun z : AlM => z.2) e⟩
  keeps := fun _ _ _ ⟨K, hK, c⟩ k => ⟨K, PySem.W.Frag.In.keeps hK k, c⟩
theorem seenMG_eq {n : Nat} {fa : List Fa} {fn : List DefD} {ex : PySem.W.Frag → Bool} {g : Addr → Option Obj} {s : Shared} (h : ∀ a, g a = s.heap.get? a) : seenMG n fa fn ex g = (hookM n fa fn ex).obs s := by
  have e : g = s.heap.get? := funext h
  rw [e] <;> rfl


def aDef (K : PySem.W.Frag) : Addr := dflAt ("House", some "__init__") 0 K
def aDefF (K : PySem.W.Frag) : Addr := dflAt ("Facts", some "__init__") 0 K
def d_BadHouse_init : DefD := ⟨("BadHouse", some "__init__"), "__init__", "BadHouse.__init__", defArgs (inCls (top 3) 0), defBody (inCls (top 3) 0), defScope (inCls (top 3) 0), [], []⟩
def d_BadFact_init : DefD := ⟨("BadFact", some "__init__"), "__init__", "BadFact.__init__", defArgs (inCls (top 4) 0), defBody (inCls (top 4) 0), defScope (inCls (top 4) 0), [], []⟩
def d_is_list : DefD := ⟨("is_list", none), "is_list", "is_list", defArgs (top 8), defBody (top 8), defScope (top 8), [], []⟩
def d_is_name : DefD := ⟨("is_name", none), "is_name", "is_name", defArgs (top 9), defBody (top 9), defScope (top 9), [], []⟩
def d_is_fact : DefD := ⟨("is_fact", none), "is_fact", "is_fact", defArgs (top 12), defBody (top 12), defScope (top 12), [], []⟩
def d_wrong_fact : DefD := ⟨("wrong_fact", none), "wrong_fact", "wrong_fact", defArgs (top 13), defBody (top 13), defScope (top 13), [], []⟩
def d_as_told : DefD := ⟨("as_told", none), "as_told", "as_told", defArgs (top 14), defBody (top 14), defScope (top 14), [], []⟩
def d_each_once : DefD := ⟨("each_once", none), "each_once", "each_once", defArgs (top 15), defBody (top 15), defScope (top 15), [], []⟩
def d_Facts_init : DefD := ⟨("Facts", some "__init__"), "__init__", "Facts.__init__", defArgs (inCls (top 16) 0), defBody (inCls (top 16) 0), defScope (inCls (top 16) 0), [.adr aDefF], []⟩
def d_Facts_told : DefD := ⟨("Facts", some "told"), "told", "Facts.told", defArgs (inCls (top 16) 1), defBody (inCls (top 16) 1), defScope (inCls (top 16) 1), [], []⟩
def d_Facts_len : DefD := ⟨("Facts", some "__len__"), "__len__", "Facts.__len__", defArgs (inCls (top 16) 4), defBody (inCls (top 16) 4), defScope (inCls (top 16) 4), [], []⟩
def d_Facts_contains : DefD := ⟨("Facts", some "__contains__"), "__contains__", "Facts.__contains__", defArgs (inCls (top 16) 5), defBody (inCls (top 16) 5), defScope (inCls (top 16) 5), [], []⟩
def d_Facts_iter : DefD := ⟨("Facts", some "__iter__"), "__iter__", "Facts.__iter__", defArgs (inCls (top 16) 6), defBody (inCls (top 16) 6), defScope (inCls (top 16) 6), [], []⟩
def d_Facts_eq : DefD := ⟨("Facts", some "__eq__"), "__eq__", "Facts.__eq__", defArgs (inCls (top 16) 7), defBody (inCls (top 16) 7), defScope (inCls (top 16) 7), [], []⟩
def d_wrong_name : DefD := ⟨("wrong_name", none), "wrong_name", "wrong_name", defArgs (top 18), defBody (top 18), defScope (top 18), [], []⟩
def d_wrong_part : DefD := ⟨("wrong_part", none), "wrong_part", "wrong_part", defArgs (top 19), defBody (top 19), defScope (top 19), [], []⟩
def d_House_init : DefD := ⟨("House", some "__init__"), "__init__", "House.__init__", defArgs (inCls (top 20) 0), defBody (inCls (top 20) 0), defScope (inCls (top 20) 0), [.adr aDef], []⟩
def d_House_len : DefD := ⟨("House", some "__len__"), "__len__", "House.__len__", defArgs (inCls (top 20) 1), defBody (inCls (top 20) 1), defScope (inCls (top 20) 1), [], []⟩
def d_House_contains : DefD := ⟨("House", some "__contains__"), "__contains__", "House.__contains__", defArgs (inCls (top 20) 2), defBody (inCls (top 20) 2), defScope (inCls (top 20) 2), [], []⟩
def d_House_iter : DefD := ⟨("House", some "__iter__"), "__iter__", "House.__iter__", defArgs (inCls (top 20) 3), defBody (inCls (top 20) 3), defScope (inCls (top 20) 3), [], []⟩
def d_House_eq : DefD := ⟨("House", some "__eq__"), "__eq__", "House.__eq__", defArgs (inCls (top 20) 4), defBody (inCls (top 20) 4), defScope (inCls (top 20) 4), [], []⟩
def d__law_cell : DefD := ⟨("_law_cell", none), "_law_cell", "_law_cell", defArgs (top 22), defBody (top 22), defScope (top 22), [], []⟩
def d__law_pool : DefD := ⟨("_law_pool", none), "_law_pool", "_law_pool", defArgs (top 23), defBody (top 23), defScope (top 23), [], []⟩
def d__law_take : DefD := ⟨("_law_take", none), "_law_take", "_law_take", defArgs (top 24), defBody (top 24), defScope (top 24), [], []⟩
def d__law_names : DefD := ⟨("_law_names", none), "_law_names", "_law_names", defArgs (top 25), defBody (top 25), defScope (top 25), [], []⟩
def d__law_house : DefD := ⟨("_law_house", none), "_law_house", "_law_house", defArgs (top 26), defBody (top 26), defScope (top 26), [], []⟩
def d__law_fact : DefD := ⟨("_law_fact", none), "_law_fact", "_law_fact", defArgs (top 27), defBody (top 27), defScope (top 27), [], []⟩
def d__law_handed : DefD := ⟨("_law_handed", none), "_law_handed", "_law_handed", defArgs (top 28), defBody (top 28), defScope (top 28), [], []⟩
def d__law_refused : DefD := ⟨("_law_refused", none), "_law_refused", "_law_refused", defArgs (top 29), defBody (top 29), defScope (top 29), [], []⟩
def d__law_odd : DefD := ⟨("_law_odd", none), "_law_odd", "_law_odd", defArgs (top 30), defBody (top 30), defScope (top 30), [], []⟩
def d__law_is_in_right : DefD := ⟨("_law_is_in_right", none), "_law_is_in_right", "_law_is_in_right", defArgs (top 31), defBody (top 31), defScope (top 31), [], []⟩
def d__law_is_alone : DefD := ⟨("_law_is_alone", none), "_law_is_alone", "_law_is_alone", defArgs (top 32), defBody (top 32), defScope (top 32), [], []⟩
def d__law_walks_apart : DefD := ⟨("_law_walks_apart", none), "_law_walks_apart", "_law_walks_apart", defArgs (top 33), defBody (top 33), defScope (top 33), [], []⟩
def d_law : DefD := ⟨("law", none), "law", "law", defArgs (top 34), defBody (top 34), defScope (top 34), [], []⟩
def fn : List DefD := ([d_BadHouse_init, d_BadFact_init, d_is_list, d_is_name, d_is_fact, d_wrong_fact, d_as_told, d_each_once, d_Facts_init, d_Facts_told, d_Facts_len, d_Facts_contains, d_Facts_iter, d_Facts_eq] : List DefD) ++ ([d_wrong_name, d_wrong_part, d_House_init, d_House_len, d_House_contains, d_House_iter, d_House_eq, d__law_cell, d__law_pool, d__law_take, d__law_names, d__law_house, d__law_fact, d__law_handed] : List DefD) ++ ([d__law_refused, d__law_odd, d__law_is_in_right, d__law_is_alone, d__law_walks_apart, d_law] : List DefD)
def fa : List Fa := ([.glo "BadHouse", .glo "BadFact", .glo "is_list", .glo "is_name", .glo "is_fact", .glo "wrong_fact", .glo "as_told", .glo "each_once", .glo "Facts", .glo "wrong_name", .glo "wrong_part", .glo "House", .glo "_law_cell", .glo "_law_pool"] : List Fa) ++ ([.glo "_law_take", .glo "_law_names", .glo "_law_house", .glo "_law_fact", .glo "_law_handed", .glo "_law_refused", .glo "_law_odd", .glo "_law_is_in_right", .glo "_law_is_alone", .glo "_law_walks_apart", .glo "law", .glo "WORDS", .free "int", .free "len"] : List Fa) ++ ([.free "isinstance", .free "range", .free "all", .free "list", .free "tuple", .free "str", .free "enumerate", .free "iter", .free "max", .free "any", .int "LONGEST" 8, .str "LETTERS" letters, .cls "House", .noat "House" "folders"] : List Fa) ++ ([.noat "House" "things", .noat "House" "nodes", .meth "House" "__len__", .meth "House" "__contains__", .meth "House" "__iter__", .meth "House" "__eq__", .mkr "House", .cls "Facts", .noat "Facts" "house", .noat "Facts" "rows", .meth "Facts" "told", .meth "Facts" "__len__", .meth "Facts" "__contains__", .meth "Facts" "__iter__"] : List Fa) ++ ([.meth "Facts" "__eq__", .mkr "Facts", .exm "BadFact" "BadFact" true] : List Fa)
def tyL : List String := ["NoneType", "list", "tuple", "int", "str"]
def dflB (K : PySem.W.Frag) : Bool := match K.lookup (aDef K) with
  | some ⟨.type t, _, .seq its _, _⟩ => decide (t = "tuple") && decide (its.toList = [])
  | _ => false
def strsB : List PySem.Value → List PySem.Str → Bool
  | [], [] => true
  | .str a _ :: us, z :: zs => decide (a = z) && strsB us zs
  | _, _ => false
theorem strsB_ok : ∀ {us : List PySem.Value} {zs : List PySem.Str}, strsB us zs = true → Vals (zs.map V.str) us
  | [], [], _ => .nil
  | .str a t :: us, z :: zs, h => by
    obtain ⟨h1, h2⟩ := ba h
    obtain rfl := of_decide_eq_true h1
    exact .cons ⟨t, rfl⟩ (strsB_ok h2)
def worB (K : PySem.W.Frag) : Bool := match K.lookup (ga K "WORDS") with
  | some ⟨.type t, _, .seq its _, _⟩ => decide (t = "tuple") && strsB its.toList wordsS
  | _ => false
def dflBF (K : PySem.W.Frag) : Bool := match K.lookup (aDefF K) with
  | some ⟨.type t, _, .seq its _, _⟩ => decide (t = "tuple") && decide (its.toList = [])
  | _ => false
theorem dflBF_ok {K : PySem.W.Frag} (h : dflBF K = true) : ∀ H, SqT K H (aDefF K) [] := fun H => by
  unfold dflBF at h
  split at h
  · rename_i t dd its n sl ho
    obtain ⟨h1, h2⟩ := ba h
    obtain rfl := of_decide_eq_true h1
    have h3 : its.toList = [] := of_decide_eq_true h2
    refine .inr ⟨_, its, n, ho, rfl, rfl, ?_, by rw [h3]; exact .nil⟩
    rw [← Array.length_toList, h3]
    exact Nat.zero_le _
  · cases h
def facB (K : PySem.W.Frag) : Bool := kitCB K (ga K "Facts") && (decide (PySem.W.kitOne K (.ref (ga K "Facts")) (.ref (ga K "Facts")) = some true) && (decide (PySem.W.findIn K (.ref (ga K "Facts")) "__ne__" = some (some (.builtin "object.__ne__"))) &&
  ((tyL.all fun T => PySem.W.notFirst K (ga K "Facts") (.type T) && decide (PySem.W.kitOne K (.type T) (.ref (ga K "Facts")) = some false)) && (decide (PySem.W.kitAny K (.ref (ga K "Facts")) [.type "list", .type "tuple"] = some false) && dflBF K))))
def houB (K : PySem.W.Frag) : Bool := errB K "BadHouse" "index" && (kitCB K (ga K "House") && (decide (PySem.W.kitOne K (.ref (ga K "House")) (.ref (ga K "House")) = some true) && (decide (PySem.W.findIn K (.ref (ga K "House")) "__ne__" = some (some (.builtin "object.__ne__"))) &&
  (decide (PySem.W.subIn K (.ref (ga K "House")) (.type "str") = some false) && ((tyL.all fun T => PySem.W.notFirst K (ga K "House") (.type T) && decide (PySem.W.kitOne K (.type T) (.ref (ga K "House")) = some false)) && (dflB K && (errB K "BadFact" "index" && (worB K && facB K))))))))
theorem dflB_ok {K : PySem.W.Frag} (h : dflB K = true) : ∀ H, SqT K H (aDef K) [] := fun H => by
  unfold dflB at h
  split at h
  · rename_i t dd its n sl ho
    obtain ⟨h1, h2⟩ := ba h
    obtain rfl := of_decide_eq_true h1
    have h3 : its.toList = [] := of_decide_eq_true h2
    refine .inr ⟨_, its, n, ho, rfl, rfl, ?_, by rw [h3]; exact .nil⟩
    rw [← Array.length_toList, h3]
    exact Nat.zero_le _
  · cases h
theorem worB_ok {K : PySem.W.Frag} (h : worB K = true) : ∀ H, SqT K H (ga K "WORDS") (wordsS.map V.str) := fun H => by
  unfold worB at h
  split at h
  · rename_i t dd its n sl ho
    obtain ⟨h1, h2⟩ := ba h
    obtain rfl := of_decide_eq_true h1
    have h3 := strsB_ok h2
    refine .inr ⟨_, its, n, ho, rfl, rfl, ?_, h3⟩
    rw [← Array.length_toList, ← h3.length]
    exact Nat.le_of_ble_eq_true rfl
  · cases h

def loose : List PySem.Str := (["_wall", "HouseError", "BadHouse", "BadFact", "is_list", "is_name", "is_fact", "wrong_fact", "as_told", "each_once", "Facts", "wrong_name", "wrong_part", "House"] : List PySem.Str) ++ (["_law_cell", "_law_pool", "_law_take", "_law_names", "_law_house", "_law_fact", "_law_handed", "_law_refused", "_law_odd", "_law_is_in_right", "_law_is_alone", "_law_walks_apart", "law", "WORDS"] : List PySem.Str) ++ (["LETTERS", "LONGEST", "int", "len", "isinstance", "range", "all", "list", "tuple", "str", "enumerate", "iter", "max", "any"] : List PySem.Str)
abbrev Rw : PySem.W.OpenRow := PySem.W.OpenLaw.row PySem.Challenge.rw_whatopened_k06_facts_made
abbrev hk : PySem.W.Hook := hookM 5 fa fn houB
def ob (s : PySem.W.SharedT) : AlM := seenMG 5 fa fn houB (HandSHeadRun.getT s)
theorem ob_eq (s : PySem.W.SharedT) : ob s = hk.obs s.abs := seenMG_eq (HandSHeadRun.getT_eq s)
end My

namespace My
open PySem PySem.Spec PyProof.Rows L2 He
section
variable {P : Program} {w : World} {K : PySem.W.Frag} {h : Heap} {mg : Str → Option Value} {base : Heap}
theorem facts {f : Addr} (X : K.In h) (G : h.Ns mainGlobals mg) (hfa : mg ("law" : Str) = some (.ref f)) (c : SaysD fa fn K) (e : houB K = true) :
    ∃ fd : FuncData, (∀ (s : Shared) (v : Value), BindsTo s fd ⟨[v], []⟩ [("_law_script", v)]) ∧ ∀ base : Heap, K.In base → base.Ns mainGlobals mg → FnOk P w K mg base CX0 10 f fd ["_law_script"] (spLaw K) := by
  obtain ⟨fd_BadHouse_init, F_BadHouse_init⟩ := c.def_ 0 (d := d_BadHouse_init) rfl
  obtain ⟨fd_BadFact_init, F_BadFact_init⟩ := c.def_ 1 (d := d_BadFact_init) rfl
  obtain ⟨fd_is_list, F_is_list⟩ := c.def_ 2 (d := d_is_list) rfl
  obtain ⟨fd_is_name, F_is_name⟩ := c.def_ 3 (d := d_is_name) rfl
  obtain ⟨fd_is_fact, F_is_fact⟩ := c.def_ 4 (d := d_is_fact) rfl
  obtain ⟨fd_wrong_fact, F_wrong_fact⟩ := c.def_ 5 (d := d_wrong_fact) rfl
  obtain ⟨fd_as_told, F_as_told⟩ := c.def_ 6 (d := d_as_told) rfl
  obtain ⟨fd_each_once, F_each_once⟩ := c.def_ 7 (d := d_each_once) rfl
  obtain ⟨fd_Facts_init, F_Facts_init⟩ := c.def_ 8 (d := d_Facts_init) rfl
  obtain ⟨fd_Facts_told, F_Facts_told⟩ := c.def_ 9 (d := d_Facts_told) rfl
  obtain ⟨fd_Facts_len, F_Facts_len⟩ := c.def_ 10 (d := d_Facts_len) rfl
  obtain ⟨fd_Facts_contains, F_Facts_contains⟩ := c.def_ 11 (d := d_Facts_contains) rfl
  obtain ⟨fd_Facts_iter, F_Facts_iter⟩ := c.def_ 12 (d := d_Facts_iter) rfl
  obtain ⟨fd_Facts_eq, F_Facts_eq⟩ := c.def_ 13 (d := d_Facts_eq) rfl
  obtain ⟨fd_wrong_name, F_wrong_name⟩ := c.def_ 14 (d := d_wrong_name) rfl
  obtain ⟨fd_wrong_part, F_wrong_part⟩ := c.def_ 15 (d := d_wrong_part) rfl
  obtain ⟨fd_House_init, F_House_init⟩ := c.def_ 16 (d := d_House_init) rfl
  obtain ⟨fd_House_len, F_House_len⟩ := c.def_ 17 (d := d_House_len) rfl
  obtain ⟨fd_House_contains, F_House_contains⟩ := c.def_ 18 (d := d_House_contains) rfl
  obtain ⟨fd_House_iter, F_House_iter⟩ := c.def_ 19 (d := d_House_iter) rfl
  obtain ⟨fd_House_eq, F_House_eq⟩ := c.def_ 20 (d := d_House_eq) rfl
  obtain ⟨fd__law_cell, F__law_cell⟩ := c.def_ 21 (d := d__law_cell) rfl
  obtain ⟨fd__law_pool, F__law_pool⟩ := c.def_ 22 (d := d__law_pool) rfl
  obtain ⟨fd__law_take, F__law_take⟩ := c.def_ 23 (d := d__law_take) rfl
  obtain ⟨fd__law_names, F__law_names⟩ := c.def_ 24 (d := d__law_names) rfl
  obtain ⟨fd__law_house, F__law_house⟩ := c.def_ 25 (d := d__law_house) rfl
  obtain ⟨fd__law_fact, F__law_fact⟩ := c.def_ 26 (d := d__law_fact) rfl
  obtain ⟨fd__law_handed, F__law_handed⟩ := c.def_ 27 (d := d__law_handed) rfl
  obtain ⟨fd__law_refused, F__law_refused⟩ := c.def_ 28 (d := d__law_refused) rfl
  obtain ⟨fd__law_odd, F__law_odd⟩ := c.def_ 29 (d := d__law_odd) rfl
  obtain ⟨fd__law_is_in_right, F__law_is_in_right⟩ := c.def_ 30 (d := d__law_is_in_right) rfl
  obtain ⟨fd__law_is_alone, F__law_is_alone⟩ := c.def_ 31 (d := d__law_is_alone) rfl
  obtain ⟨fd__law_walks_apart, F__law_walks_apart⟩ := c.def_ 32 (d := d__law_walks_apart) rfl
  obtain ⟨fd_law, F_law⟩ := c.def_ 33 (d := d_law) rfl
  have b_is_list : Binds K fd_is_list ["thing"] [] := FunD.bindsN F_is_list fun _ _ _ _ _ _ us hl => match us, hl with | [_], _ => rfl
  have b_is_name : Binds K fd_is_name ["thing"] [] := FunD.bindsN F_is_name fun _ _ _ _ _ _ us hl => match us, hl with | [_], _ => rfl
  have b_is_fact : Binds K fd_is_fact ["house", "thing"] [] := FunD.bindsN F_is_fact fun _ _ _ _ _ _ us hl => match us, hl with | [_, _], _ => rfl
  have b_wrong_fact : Binds K fd_wrong_fact ["house", "facts"] [] := FunD.bindsN F_wrong_fact fun _ _ _ _ _ _ us hl => match us, hl with | [_, _], _ => rfl
  have b_as_told : Binds K fd_as_told ["house", "fact"] [] := FunD.bindsN F_as_told fun _ _ _ _ _ _ us hl => match us, hl with | [_, _], _ => rfl
  have b_each_once : Binds K fd_each_once ["house", "facts"] [] := FunD.bindsN F_each_once fun _ _ _ _ _ _ us hl => match us, hl with | [_, _], _ => rfl
  have b_Facts_told : Binds K fd_Facts_told ["self"] [] := FunD.bindsN F_Facts_told fun _ _ _ _ _ _ us hl => match us, hl with | [_], _ => rfl
  have b_Facts_len : Binds K fd_Facts_len ["self"] [] := FunD.bindsN F_Facts_len fun _ _ _ _ _ _ us hl => match us, hl with | [_], _ => rfl
  have b_Facts_contains : Binds K fd_Facts_contains ["self", "x"] [] := FunD.bindsN F_Facts_contains fun _ _ _ _ _ _ us hl => match us, hl with | [_, _], _ => rfl
  have b_Facts_iter : Binds K fd_Facts_iter ["self"] [] := FunD.bindsN F_Facts_iter fun _ _ _ _ _ _ us hl => match us, hl with | [_], _ => rfl
  have b_Facts_eq : Binds K fd_Facts_eq ["self", "other"] [] := FunD.bindsN F_Facts_eq fun _ _ _ _ _ _ us hl => match us, hl with | [_, _], _ => rfl
  have b_wrong_name : Binds K fd_wrong_name ["things"] [] := FunD.bindsN F_wrong_name fun _ _ _ _ _ _ us hl => match us, hl with | [_], _ => rfl
  have b_wrong_part : Binds K fd_wrong_part ["folders", "things"] [] := FunD.bindsN F_wrong_part fun _ _ _ _ _ _ us hl => match us, hl with | [_, _], _ => rfl
  have b_House_len : Binds K fd_House_len ["self"] [] := FunD.bindsN F_House_len fun _ _ _ _ _ _ us hl => match us, hl with | [_], _ => rfl
  have b_House_contains : Binds K fd_House_contains ["self", "x"] [] := FunD.bindsN F_House_contains fun _ _ _ _ _ _ us hl => match us, hl with | [_, _], _ => rfl
  have b_House_iter : Binds K fd_House_iter ["self"] [] := FunD.bindsN F_House_iter fun _ _ _ _ _ _ us hl => match us, hl with | [_], _ => rfl
  have b_House_eq : Binds K fd_House_eq ["self", "other"] [] := FunD.bindsN F_House_eq fun _ _ _ _ _ _ us hl => match us, hl with | [_, _], _ => rfl
  have b__law_cell : Binds K fd__law_cell ["_law_script", "_law_k"] [] := FunD.bindsN F__law_cell fun _ _ _ _ _ _ us hl => match us, hl with | [_, _], _ => rfl
  have b__law_pool : Binds K fd__law_pool ["_law_grain"] [] := FunD.bindsN F__law_pool fun _ _ _ _ _ _ us hl => match us, hl with | [_], _ => rfl
  have b__law_take : Binds K fd__law_take ["_law_pool_here", "_law_many"] [] := FunD.bindsN F__law_take fun _ _ _ _ _ _ us hl => match us, hl with | [_, _], _ => rfl
  have b__law_names : Binds K fd__law_names ["_law_pool_here", "_law_many"] [] := FunD.bindsN F__law_names fun _ _ _ _ _ _ us hl => match us, hl with | [_, _], _ => rfl
  have b__law_house : Binds K fd__law_house ["_law_pool_here", "_law_most", "_law_more"] [] := FunD.bindsN F__law_house fun _ _ _ _ _ _ us hl => match us, hl with | [_, _, _], _ => rfl
  have b__law_fact : Binds K fd__law_fact ["_law_pool_here", "_law_folders", "_law_things"] [] := FunD.bindsN F__law_fact fun _ _ _ _ _ _ us hl => match us, hl with | [_, _, _], _ => rfl
  have b__law_handed : Binds K fd__law_handed ["_law_pool_here", "_law_fact_here"] [] := FunD.bindsN F__law_handed fun _ _ _ _ _ _ us hl => match us, hl with | [_, _], _ => rfl
  have b__law_refused : Binds K fd__law_refused ["_law_house_here", "_law_rows"] [] := FunD.bindsN F__law_refused fun _ _ _ _ _ _ us hl => match us, hl with | [_, _], _ => rfl
  have b__law_odd : Binds K fd__law_odd ["_law_pool_here", "_law_folders", "_law_things"] [] := FunD.bindsN F__law_odd fun _ _ _ _ _ _ us hl => match us, hl with | [_, _, _], _ => rfl
  have b__law_is_in_right : Binds K fd__law_is_in_right ["_law_facts", "_law_due", "_law_some"] [] := FunD.bindsN F__law_is_in_right fun _ _ _ _ _ _ us hl => match us, hl with | [_, _, _], _ => rfl
  have b__law_is_alone : Binds K fd__law_is_alone ["_law_facts", "_law_house_here", "_law_due"] [] := FunD.bindsN F__law_is_alone fun _ _ _ _ _ _ us hl => match us, hl with | [_, _, _], _ => rfl
  have b__law_walks_apart : Binds K fd__law_walks_apart ["_law_facts", "_law_due"] [] := FunD.bindsN F__law_walks_apart fun _ _ _ _ _ _ us hl => match us, hl with | [_, _], _ => rfl
  have q := hfa.symm.trans (glo_ok X G (c.fact 24 (f := .glo "law") rfl))
  cases q
  have b := FunD.bindsA (ps := ["_law_script"]) F_law fun _ _ _ _ _ _ us hl => match us, hl with | [_], _ => rfl
  refine ⟨fd_law, fun s v => b s [v] rfl, fun base XB GB => ?_⟩
  obtain ⟨eB, e1⟩ := ba e
  obtain ⟨eK, e2⟩ := ba e1
  obtain ⟨eC, e3⟩ := ba e2
  obtain ⟨eN, e4⟩ := ba e3
  obtain ⟨eS, e5⟩ := ba e4
  obtain ⟨eT, e6⟩ := ba e5
  obtain ⟨eD, e7⟩ := ba e6
  obtain ⟨eF, e8⟩ := ba e7
  obtain ⟨eW, e9⟩ := ba e8
  obtain ⟨fK, f1⟩ := ba e9
  obtain ⟨fC, f2⟩ := ba f1
  obtain ⟨fN, f3⟩ := ba f2
  obtain ⟨fT, f4⟩ := ba f3
  obtain ⟨fS, fD⟩ := ba f4
  have KC := kitCB_ok eK
  have KF := kitCB_ok fK
  have nbF : ∀ T, T ∈ ["NoneType", "list", "tuple", "int", "str"] → PySem.W.notFirst K (ga K "Facts") (.type T) = true ∧ PySem.W.kitOne K (.type T) (.ref (ga K "Facts")) = some false := fun T hT => by
    obtain ⟨k1, k2⟩ := ba (List.all_eq_true.mp fT T hT)
    exact ⟨k1, of_decide_eq_true k2⟩
  have nb : ∀ T, T ∈ ["NoneType", "list", "tuple", "int", "str"] → PySem.W.notFirst K (ga K "House") (.type T) = true ∧ PySem.W.kitOne K (.type T) (.ref (ga K "House")) = some false := fun T hT => by
    obtain ⟨k1, k2⟩ := ba (List.all_eq_true.mp eT T hT)
    exact ⟨k1, of_decide_eq_true k2⟩
  have EB : ∀ base, Er P w K mg base "BadHouse" "index" (ga K "BadHouse") := fun base => by
    have T := errB_ok (glo_ok X G (c.fact 0 (f := .glo "BadHouse") rfl)) eB
    have S : FnScope ["self", "index"] ["self", "index"] (defScope s_BadHouse_init) := ⟨rfl, rfl, rfl, by decide +kernel, rfl, by decide +kernel, by decide +kernel⟩
    refine ⟨_, fd_BadHouse_init, T, ok_init (st := s_BadHouse_init) (qual := "BadHouse.__init__") T F_BadHouse_init S ⟨_, _, _, _, rfl⟩ (by decide) (by decide), FunD.bindsN F_BadHouse_init fun _ _ _ _ _ _ us hl => match us, hl with | [_, _], _ => rfl, fun s u v _ => ?_⟩
    obtain ⟨oc, od, dV, kV, doc, pm, an, cdv, ct, osl, rfl, lk, hcd, hD, hK⟩ := F_BadHouse_init.ex
    rcases hD with ⟨_, rfl⟩ | ⟨z, _⟩
    · exact .of_eq rfl
    · exact absurd rfl z
  have EF : ∀ base, Er P w K mg base "BadFact" "index" (ga K "BadFact") := fun base => by
    have T := errB_ok (glo_ok X G (c.fact 1 (f := .glo "BadFact") rfl)) eF
    have S : FnScope ["self", "index"] ["self", "index"] (defScope s_BadFact_init) := ⟨rfl, rfl, rfl, by decide +kernel, rfl, by decide +kernel, by decide +kernel⟩
    refine ⟨_, fd_BadFact_init, T, ok_init (st := s_BadFact_init) (qual := "BadFact.__init__") T F_BadFact_init S ⟨_, _, _, _, rfl⟩ (by decide) (by decide), FunD.bindsN F_BadFact_init fun _ _ _ _ _ _ us hl => match us, hl with | [_, _], _ => rfl, fun s u v _ => ?_⟩
    obtain ⟨oc, od, dV, kV, doc, pm, an, cdv, ct, osl, rfl, lk, hcd, hD, hK⟩ := F_BadFact_init.ex
    rcases hD with ⟨_, rfl⟩ | ⟨z, _⟩
    · exact .of_eq rfl
    · exact absurd rfl z
  have T : HouC K (ga K "House") := ⟨cls_ok (c.fact 40 (f := .cls "House") rfl), noat_ok (c.fact 41 (f := .noat "House" "folders") rfl), noat_ok (c.fact 42 (f := .noat "House" "things") rfl), noat_ok (c.fact 43 (f := .noat "House" "nodes") rfl), KC.at_, KC.sp, KC.tk, KC.ob⟩
  have mt : ∀ m, Meth K (ga K "House") m (ma K (ga K "House") m) → OwnM K (ga K "House") m (ma K (ga K "House") m) := fun m z => ⟨z.at_, z.fn⟩
  obtain ⟨tL, gLL⟩ := str_ok X G (c.fact 39 (f := .str "LETTERS" letters) rfl)
  obtain ⟨t8, g88⟩ := int_ok X G (c.fact 38 (f := .int "LONGEST" 8) rfl)
  have IL : ∀ base, FnOk P w K mg base CX0 1 _ fd_is_list ["thing"] (spIsList K) := fun base => ok_isList F_is_list (free_ok X G (c.fact 28 (f := .free "isinstance") rfl)) (free_ok X G (c.fact 31 (f := .free "list") rfl)) (free_ok X G (c.fact 32 (f := .free "tuple") rfl))
  have WN : ∀ base, FnOk P w K mg base CX0 2 _ fd_wrong_name ["things"] (spWrongName K) := fun base => ok_wrongName F_wrong_name (ok_isName F_is_name (free_ok X G (c.fact 28 (f := .free "isinstance") rfl)) (free_ok X G (c.fact 33 (f := .free "str") rfl)) (free_ok X G (c.fact 27 (f := .free "len") rfl)) (free_ok X G (c.fact 30 (f := .free "all") rfl)) g88 gLL) (glo_ok X G (c.fact 3 (f := .glo "is_name") rfl)) F_is_name.kp b_is_name (free_ok X G (c.fact 34 (f := .free "enumerate") rfl))
  have WP : ∀ base, FnOk P w K mg base CX0 3 _ fd_wrong_part ["folders", "things"] (spWrongPart K) := fun base => ok_wrongPart F_wrong_part (IL base) (glo_ok X G (c.fact 2 (f := .glo "is_list") rfl)) F_is_list.kp b_is_list ((WN base).imp wn_imp) (glo_ok X G (c.fact 9 (f := .glo "wrong_name") rfl)) F_wrong_name.kp b_wrong_name (free_ok X G (c.fact 27 (f := .free "len") rfl))
  have HI : ∀ base, FnOk P w K mg base (L2.CX P w) 4 _ fd_House_init ["self", "folders", "things"] (spHInit K (ga K "House") (ga K "BadHouse")) := fun base => ok_hInit F_House_init T (WP base) (glo_ok X G (c.fact 10 (f := .glo "wrong_part") rfl)) F_wrong_part.kp b_wrong_part (EB base) (free_ok X G (c.fact 32 (f := .free "tuple") rfl))
  obtain ⟨d3, vd3, bI⟩ := FunD.binds1 (ps := ["self", "folders", "things"]) F_House_init 3 1 (by simp [DefD.dvs, d_House_init]) rfl fun T kV doc pm an cdv ct us its hu hi => by
    match us, hu, its, hi with
    | [_, _, _], _, [_], _ => exact ⟨_, rfl, rfl⟩
  obtain ⟨d2, vd2, bD⟩ := FunD.binds1 (ps := ["self", "folders", "things"]) F_House_init 2 0 (by simp [DefD.dvs, d_House_init]) rfl fun T kV doc pm an cdv ct us its hu hi => by
    match us, hu, its, hi with
    | [_, _], _, [_], _ => exact ⟨_, rfl, rfl⟩
  have nD : ∀ H, SqT K H (aDef K) [] := dflB_ok eD
  have e3' : d3 = [] := by
    cases vd3
    rfl
  subst e3'
  obtain ⟨u2, e2', ru2⟩ := vd2.one
  subst e2'
  have eu : u2 = .ref (aDef K) := ru2
  have HE : ∀ base, FnOk P w K mg base CX0 1 _ fd_House_eq ["self", "other"] (spHEq K (ga K "House")) := fun base => ok_hEq F_House_eq T (free_ok X G (c.fact 28 (f := .free "isinstance") rfl)) (glo_ok X G (c.fact 11 (f := .glo "House") rfl)) (of_decide_eq_true eC)
  let Z : HouseTxt P w K mg (ga K "House") (ga K "BadHouse") := {
    T := T, gH := (glo_ok X G (c.fact 11 (f := .glo "House") rfl)), kCC := of_decide_eq_true eC, ne := of_decide_eq_true eN, noStr := of_decide_eq_true eS, nb := nb,
    fI := _, fdI := fd_House_init, M := mkr_ok (c.fact 48 (f := .mkr "House") rfl), I := HI, bI := bI, uD := u2, bD := bD, aD := aDef K, eD := eu, tD := nD,
    fL := _, fdL := fd_House_len, mL := (mt _ (meth_ok (c.fact 44 (f := .meth "House" "__len__") rfl))), L := fun base => ok_hLen F_House_len T (free_ok X G (c.fact 27 (f := .free "len") rfl)), bL := b_House_len,
    fS := _, fdS := fd_House_contains, mS := (mt _ (meth_ok (c.fact 45 (f := .meth "House" "__contains__") rfl))), S := fun base => ok_hHas F_House_contains T (of_decide_eq_true eS) (mt _ (meth_ok (c.fact 47 (f := .meth "House" "__eq__") rfl))) (HE base) b_House_eq (nb "str" (by decide)).2, bS := b_House_contains,
    fW := _, fdW := fd_House_iter, mW := (mt _ (meth_ok (c.fact 46 (f := .meth "House" "__iter__") rfl))), W := fun base => ok_hIter F_House_iter T (free_ok X G (c.fact 35 (f := .free "iter") rfl)), bW := b_House_iter,
    fE := _, fdE := fd_House_eq, mE := (mt _ (meth_ok (c.fact 47 (f := .meth "House" "__eq__") rfl))), E := HE, bE := b_House_eq }
  have HL : ∀ base, Has P w K mg base 1 "is_list" ["thing"] (spIsList K) := fun base => ⟨_, fd_is_list, IL base, (glo_ok X G (c.fact 2 (f := .glo "is_list") rfl)), F_is_list.kp, b_is_list⟩
  have HF : ∀ base, Has P w K mg base 5 "is_fact" ["house", "thing"] (spIsFact K (ga K "House")) := fun base => ⟨_, fd_is_fact, ok_isFact F_is_fact Z (HL base) (free_ok X G (c.fact 27 (f := .free "len") rfl)) (glo_ok X G (c.fact 25 (f := .glo "WORDS") rfl)) (worB_ok eW), (glo_ok X G (c.fact 4 (f := .glo "is_fact") rfl)), F_is_fact.kp, b_is_fact⟩
  have HT : ∀ base, Has P w K mg base 1 "as_told" ["house", "fact"] (spAsTold K (ga K "House")) := fun base => ⟨_, fd_as_told, ok_asTold F_as_told Z, (glo_ok X G (c.fact 6 (f := .glo "as_told") rfl)), F_as_told.kp, b_as_told⟩
  have HWF : ∀ base, Has P w K mg base 6 "wrong_fact" ["house", "facts"] (spWrongFact K (ga K "House")) := fun base => ⟨_, fd_wrong_fact, ok_wrongFact F_wrong_fact (HL base) (HF base) (free_ok X G (c.fact 34 (f := .free "enumerate") rfl)), (glo_ok X G (c.fact 5 (f := .glo "wrong_fact") rfl)), F_wrong_fact.kp, b_wrong_fact⟩
  have HEO : ∀ base, Has P w K mg base 2 "each_once" ["house", "facts"] (spEachOnce K (ga K "House")) := fun base => ⟨_, fd_each_once, ok_eachOnce F_each_once (HT base) (free_ok X G (c.fact 32 (f := .free "tuple") rfl)), (glo_ok X G (c.fact 7 (f := .glo "each_once") rfl)), F_each_once.kp, b_each_once⟩
  have TF : FacC K (ga K "Facts") := ⟨cls_ok (c.fact 49 (f := .cls "Facts") rfl), noat_ok (c.fact 50 (f := .noat "Facts" "house") rfl), noat_ok (c.fact 51 (f := .noat "Facts" "rows") rfl), KF.at_, KF.sp, KF.tk, KF.ob⟩
  have mtF : ∀ m, Meth K (ga K "Facts") m (ma K (ga K "Facts") m) → OwnM K (ga K "Facts") m (ma K (ga K "Facts") m) := fun m z => ⟨z.at_, z.fn⟩
  have FI : ∀ base, FnOk P w K mg base (L2.CX P w) 7 _ fd_Facts_init ["self", "house", "facts"] (spFInit K (ga K "Facts") (ga K "House") (ga K "BadFact")) := fun base => ok_fInit F_Facts_init TF (HWF base) (HEO base) (EF base)
  obtain ⟨d3f, vd3f, bIf⟩ := FunD.binds1 (ps := ["self", "house", "facts"]) F_Facts_init 3 1 (by simp [DefD.dvs, d_Facts_init]) rfl fun T kV doc pm an cdv ct us its hu hi => by
    match us, hu, its, hi with
    | [_, _, _], _, [_], _ => exact ⟨_, rfl, rfl⟩
  obtain ⟨d2f, vd2f, bDf⟩ := FunD.binds1 (ps := ["self", "house", "facts"]) F_Facts_init 2 0 (by simp [DefD.dvs, d_Facts_init]) rfl fun T kV doc pm an cdv ct us its hu hi => by
    match us, hu, its, hi with
    | [_, _], _, [_], _ => exact ⟨_, rfl, rfl⟩
  have nDF : ∀ H, SqT K H (aDefF K) [] := dflBF_ok fD
  have e3f' : d3f = [] := by
    cases vd3f
    rfl
  subst e3f'
  obtain ⟨u2f, e2f', ru2f⟩ := vd2f.one
  subst e2f'
  have euf : u2f = .ref (aDefF K) := ru2f
  have FE : ∀ base, FnOk P w K mg base CX0 2 _ fd_Facts_eq ["self", "other"] (spFEq K (ga K "Facts") (ga K "House")) := fun base => ok_fEq F_Facts_eq TF Z (free_ok X G (c.fact 28 (f := .free "isinstance") rfl)) (glo_ok X G (c.fact 8 (f := .glo "Facts") rfl)) (of_decide_eq_true fC)
  let FF : FacTxt P w K mg (ga K "Facts") (ga K "House") (ga K "BadFact") := {
    T := TF, gF := (glo_ok X G (c.fact 8 (f := .glo "Facts") rfl)), kFF := of_decide_eq_true fC, ne := of_decide_eq_true fN, nb := nbF, kSeq := of_decide_eq_true fS,
    fI := _, fdI := fd_Facts_init, M := mkr_ok (c.fact 57 (f := .mkr "Facts") rfl), I := FI, bI := bIf, uD := u2f, bD := bDf, aD := aDefF K, eD := euf, tD := nDF,
    fT := _, fdT := fd_Facts_told, mT := meth_ok (c.fact 52 (f := .meth "Facts" "told") rfl), To := fun base => ok_told F_Facts_told TF (free_ok X G (c.fact 31 (f := .free "list") rfl)), bT := b_Facts_told,
    fL := _, fdL := fd_Facts_len, mL := (mtF _ (meth_ok (c.fact 53 (f := .meth "Facts" "__len__") rfl))), L := fun base => ok_fLen F_Facts_len TF (free_ok X G (c.fact 27 (f := .free "len") rfl)), bL := b_Facts_len,
    fS := _, fdS := fd_Facts_contains, mS := (mtF _ (meth_ok (c.fact 54 (f := .meth "Facts" "__contains__") rfl))), S := fun base => ok_fHas F_Facts_contains TF (HF base) (HT base), bS := b_Facts_contains,
    fW := _, fdW := fd_Facts_iter, mW := (mtF _ (meth_ok (c.fact 55 (f := .meth "Facts" "__iter__") rfl))), W := fun base => ok_fIter F_Facts_iter TF (free_ok X G (c.fact 35 (f := .free "iter") rfl)), bW := b_Facts_iter,
    fE := _, fdE := fd_Facts_eq, mE := (mtF _ (meth_ok (c.fact 56 (f := .meth "Facts" "__eq__") rfl))), E := FE, bE := b_Facts_eq }
  have TK : FnOk P w K mg base CX0 1 _ fd__law_take ["_law_pool_here", "_law_many"] spTake := ok_take F__law_take (free_ok X G (c.fact 26 (f := .free "int") rfl))
  have hT : Has P w K mg base 1 "_law_take" ["_law_pool_here", "_law_many"] spTake := ⟨_, fd__law_take, TK, (glo_ok X G (c.fact 14 (f := .glo "_law_take") rfl)), F__law_take.kp, b__law_take⟩
  have NM : FnOk P w K mg base CX0 2 _ fd__law_names ["_law_pool_here", "_law_many"] (spNames K) := ok_names F__law_names TK (glo_ok X G (c.fact 14 (f := .glo "_law_take") rfl)) F__law_take.kp b__law_take (free_ok X G (c.fact 29 (f := .free "range") rfl))
  have E := errB_ok (glo_ok X G (c.fact 1 (f := .glo "BadFact") rfl)) eF
  exact ok_law F_law Z FF
    ⟨_, fd__law_cell, ok_cell F__law_cell (free_ok X G (c.fact 27 (f := .free "len") rfl)), (glo_ok X G (c.fact 12 (f := .glo "_law_cell") rfl)), F__law_cell.kp, b__law_cell⟩
    ⟨_, fd__law_pool, ok_pool F__law_pool (free_ok X G (c.fact 26 (f := .free "int") rfl)), (glo_ok X G (c.fact 13 (f := .glo "_law_pool") rfl)), F__law_pool.kp, b__law_pool⟩ hT
    ⟨_, fd__law_house, ok_house F__law_house TK (glo_ok X G (c.fact 14 (f := .glo "_law_take") rfl)) F__law_take.kp b__law_take NM (glo_ok X G (c.fact 15 (f := .glo "_law_names") rfl)) F__law_names.kp b__law_names (free_ok X G (c.fact 36 (f := .free "max") rfl)), (glo_ok X G (c.fact 16 (f := .glo "_law_house") rfl)), F__law_house.kp, b__law_house⟩
    ⟨_, fd__law_fact, ok_fact F__law_fact hT (free_ok X G (c.fact 27 (f := .free "len") rfl)), (glo_ok X G (c.fact 17 (f := .glo "_law_fact") rfl)), F__law_fact.kp, b__law_fact⟩
    ⟨_, fd__law_handed, ok_handed F__law_handed hT (free_ok X G (c.fact 31 (f := .free "list") rfl)), (glo_ok X G (c.fact 18 (f := .glo "_law_handed") rfl)), F__law_handed.kp, b__law_handed⟩
    ⟨_, fd__law_refused, ok_refused F__law_refused FF E.gl E.xf E.no (exm_ok (c.fact 58 (f := .exm "BadFact" "BadFact" true) rfl)), (glo_ok X G (c.fact 19 (f := .glo "_law_refused") rfl)), F__law_refused.kp, b__law_refused⟩
    ⟨_, fd__law_odd, ok_odd F__law_odd hT (free_ok X G (c.fact 27 (f := .free "len") rfl)), (glo_ok X G (c.fact 20 (f := .glo "_law_odd") rfl)), F__law_odd.kp, b__law_odd⟩
    ⟨_, fd__law_is_in_right, ok_inRight F__law_is_in_right FF (free_ok X G (c.fact 31 (f := .free "list") rfl)) (free_ok X G (c.fact 30 (f := .free "all") rfl)) (free_ok X G (c.fact 37 (f := .free "any") rfl)), (glo_ok X G (c.fact 21 (f := .glo "_law_is_in_right") rfl)), F__law_is_in_right.kp, b__law_is_in_right⟩
    ⟨_, fd__law_is_alone, ok_alone F__law_is_alone FF (free_ok X G (c.fact 27 (f := .free "len") rfl)) (free_ok X G (c.fact 32 (f := .free "tuple") rfl)) (free_ok X G (c.fact 26 (f := .free "int") rfl)) (free_ok X G (c.fact 37 (f := .free "any") rfl)), (glo_ok X G (c.fact 22 (f := .glo "_law_is_alone") rfl)), F__law_is_alone.kp, b__law_is_alone⟩
    ⟨_, fd__law_walks_apart, ok_walks F__law_walks_apart FF (free_ok X G (c.fact 27 (f := .free "len") rfl)), (glo_ok X G (c.fact 23 (f := .glo "_law_walks_apart") rfl)), F__law_walks_apart.kp, b__law_walks_apart⟩
    (free_ok X G (c.fact 29 (f := .free "range") rfl)) (free_ok X G (c.fact 27 (f := .free "len") rfl)) (free_ok X G (c.fact 31 (f := .free "list") rfl)) (free_ok X G (c.fact 32 (f := .free "tuple") rfl)) (free_ok X G (c.fact 28 (f := .free "isinstance") rfl))
end
end My

namespace My
open PySem PySem.Spec PyProof.Rows L2 He
theorem run (w : World) : HandSHeadRun.RunEq Rw (PySem.W.view Rw.prog [34]) hk ob 8000 loose w := by
  intro os
  kernel_rfl
end My

open PySem PySem.W PySem.Calls PyProof.Rows
theorem PySem.Challenge.cw_whatopened_k06_facts_made_holds : PySem.Challenge.rw_whatopened_k06_facts_made.Holds := by
  w_on; o_law
  refine HandSHeadRun.head_any (r := OpenLaw.row PySem.Challenge.rw_whatopened_k06_facts_made) (q := view (OpenLaw.row PySem.Challenge.rw_whatopened_k06_facts_made).prog [34]) (H := My.hk) (ob := My.ob) (M := 8000) (loose := My.loose) (d := HandSHeadRun.topDef (OpenLaw.row PySem.Challenge.rw_whatopened_k06_facts_made).prog 34) (kwd := []) My.ob_eq
    (by kernel_rfl) (fun s => by kernel_rfl) My.run (by kernel_rfl) (by kernel_rfl) (by kernel_rfl) (by rfl) (by first | assumption | decide +kernel) (by decide +kernel) ⟨rfl, rfl, rfl, rfl, rfl, by decide +kernel⟩ ?hw ?hc
  case hw => w_witness2
  case hc =>
    refine L2.walk_ofE (l := PySem.Challenge.rw_whatopened_k06_facts_made) (n := 63) (k := 10) (x := "_law_script") (CX := L2.CX0) rfl (by decide) (by kernel_rfl) ⟨rfl, by decide, by decide⟩ ?F (fun _ _ _ _ z => z)
    intro w mg fa h Y G hmg0
    obtain ⟨K, KX, c, e⟩ := Y
    have hmg : mg ("law" : PySem.Str) = some (.ref fa) := by
      have e : (HandSHeadRun.topDef (OpenLaw.row PySem.Challenge.rw_whatopened_k06_facts_made).prog 34).name = ("law" : PySem.Str) := by kernel_rfl
      rw [← e]
      exact hmg0
    obtain ⟨fd, hb, hF⟩ := My.facts (P := (PySem.Challenge.rw_whatopened_k06_facts_made).prog) (w := w) KX G hmg c e
    exact ⟨K, fd, My.spLaw K, KX, hb, fun H a ns hl _ hS => ⟨a, ns, rfl, hS, fun _ => rfl⟩, hF⟩
#print axioms PySem.Challenge.cw_whatopened_k06_facts_made_holds

