import PyProof.Rows.All
import Wide.All
import OpenK.AllK
import Wide.FinOn
import HandS.ForMost
import HandS.ForExc
import HandS.Defaults
import HandS.IsInst
import HandS.ExcInit
import HandS.OwnEq
import PySem.Challenge.RW_whatopened_k49_whole_facts_compared
import HandS.ExcValue
import HandS.ExcField
import HandS.MakeKw
import KE.KExcIs
import HandS.LawCells
import HandS.OwnIter
import PyProof.InstEq
import HandS.IterVal
import HandS.Walk
import KE.GoesMore
import KE.GoesEnum
import PyProof.Draws
import HandS.Star
import HandS.TupAny
import HandS.WordsExc
import HandS.CallSlots
import HandS.Style
import HandS.Codes
import HandS.NoneIn
import HandS.Deep
import HandS.HeadHook3
import HandS.HeadHook4
import HandS.HeadWalk
import HandS.Lambda
import HandS.TryMany
import KE.KOpsOwn
import KE.KStateDown
import Lean
import HandS.Head0
import HandS.Head1
import HandS.Head2
import HandS.HeadEnd
import HandS.HeadHook1
import HandS.HeadHook2
import KE.KUnpackStar
import HandS.DictComp
import HandS.WordsDict
import HandS.Flow
import HandS.Comp
import HandS.More
import HandS.Small
import HandS.ExcOwn
import HandS.ListEq
import KE.DataEq
set_option Elab.async false
set_option linter.all false
set_option maxRecDepth 100000
set_option maxHeartbeats 0
namespace My
open PySem PySem.Spec PyProof.Rows L2
def top (i : Nat) : Stmt := PySem.Challenge.pw_whatopened_k49_whole_facts_compared.main.body.getD i (.Pass ⟨0, 0, 0, 0⟩)
abbrev FnP (K : PySem.W.Frag) (x : Str) (st : Stmt) (f : Addr) (fd : FuncData) : Prop := FunD K x x (defArgs st) (defBody st) (defScope st) [] [] f fd
def inCls (s : Stmt) (i : Nat) : Stmt := match s with
  | .ClassDef (body := b) .. => b.getD i (.Pass ⟨0, 0, 0, 0⟩)
  | _ => .Pass ⟨0, 0, 0, 0⟩
abbrev s__wall : Stmt := top 0
abbrev s_BadHouse_init : Stmt := inCls (top 3) 0
abbrev s_NoNode_init : Stmt := inCls (top 4) 0
abbrev s_NoFolder_init : Stmt := inCls (top 5) 0
abbrev s_Ringed_init : Stmt := inCls (top 6) 0
abbrev s_BadFact_init : Stmt := inCls (top 7) 0
abbrev s_is_list : Stmt := top 12
abbrev sIsList : Stmt := top 12
abbrev s_is_name : Stmt := top 13
abbrev sIsName : Stmt := top 13
abbrev s_is_fact : Stmt := top 16
abbrev s_wrong_fact : Stmt := top 17
abbrev s_as_told : Stmt := top 18
abbrev s_each_once : Stmt := top 19
abbrev s_against : Stmt := top 20
abbrev s_Facts_init : Stmt := inCls (top 21) 0
abbrev s_Facts_told : Stmt := inCls (top 21) 1
abbrev s_Facts_without : Stmt := inCls (top 21) 2
abbrev s_Facts_add : Stmt := inCls (top 21) 3
abbrev s_Facts_len : Stmt := inCls (top 21) 4
abbrev s_Facts_contains : Stmt := inCls (top 21) 5
abbrev s_Facts_iter : Stmt := inCls (top 21) 6
abbrev s_Facts_eq : Stmt := inCls (top 21) 7
abbrev s_wrong_name : Stmt := top 23
abbrev sWrongName : Stmt := top 23
abbrev s_wrong_part : Stmt := top 24
abbrev sWrongPart : Stmt := top 24
abbrev s_House_init : Stmt := inCls (top 25) 0
abbrev sHInit : Stmt := inCls (top 25) 0
abbrev s_House_len : Stmt := inCls (top 25) 1
abbrev sHLen : Stmt := inCls (top 25) 1
abbrev s_House_contains : Stmt := inCls (top 25) 2
abbrev sHHas : Stmt := inCls (top 25) 2
abbrev s_House_iter : Stmt := inCls (top 25) 3
abbrev sHIter : Stmt := inCls (top 25) 3
abbrev s_House_eq : Stmt := inCls (top 25) 4
abbrev sHEq : Stmt := inCls (top 25) 4
abbrev s_must_be_node : Stmt := top 26
abbrev s_must_be_folder : Stmt := top 27
abbrev s_ring : Stmt := top 29
abbrev s_Tree_init : Stmt := inCls (top 30) 0
abbrev s_Tree_over : Stmt := inCls (top 30) 1
abbrev s_Tree_above : Stmt := inCls (top 30) 2
abbrev s_Tree_below : Stmt := inCls (top 30) 3
abbrev s_Tree_lies : Stmt := inCls (top 30) 4
abbrev s_Tree_moved : Stmt := inCls (top 30) 5
abbrev s_Tree_holds : Stmt := inCls (top 30) 6
abbrev s_Tree_keeps : Stmt := inCls (top 30) 7
abbrev s_Tree_eq : Stmt := inCls (top 30) 8
abbrev s_steps_of : Stmt := top 32
abbrev s_bars_of : Stmt := top 33
abbrev s_reached : Stmt := top 34
abbrev s_parts_of : Stmt := top 35
abbrev s_tops_of : Stmt := top 36
abbrev s_tree_or_group : Stmt := top 37
abbrev s_tree_for : Stmt := top 38
abbrev s_parted : Stmt := top 40
abbrev s_follows : Stmt := top 41
abbrev s_alike : Stmt := top 42
abbrev s__law_cell : Stmt := top 44
abbrev sCell : Stmt := top 44
abbrev s__law_pool : Stmt := top 45
abbrev sPool : Stmt := top 45
abbrev s__law_take : Stmt := top 46
abbrev sTake : Stmt := top 46
abbrev s__law_picked : Stmt := top 47
abbrev s__law_names : Stmt := top 48
abbrev sNames : Stmt := top 48
abbrev s__law_plan : Stmt := top 49
abbrev s__law_house : Stmt := top 50
abbrev sHouse : Stmt := top 50
abbrev s__law_drawn_tree : Stmt := top 51
abbrev s__law_lies : Stmt := top 52
abbrev s__law_holds : Stmt := top 53
abbrev s__law_keeps : Stmt := top 54
abbrev s__law_drawn_fact : Stmt := top 55
abbrev s__law_drawn_facts : Stmt := top 56
abbrev s__law_told : Stmt := top 57
abbrev s__law_over : Stmt := top 58
abbrev s__law_is_fit : Stmt := top 59
abbrev s__law_loose : Stmt := top 60
abbrev s__law_all_trees : Stmt := top 61
abbrev s__law_fitting : Stmt := top 62
abbrev s__law_facts : Stmt := top 63
abbrev s__law_small : Stmt := top 64
abbrev s__law_strange_house : Stmt := top 65
abbrev s__law_others : Stmt := top 66
abbrev s__law_first : Stmt := top 67
abbrev s__law_parted_right : Stmt := top 68
abbrev s__law_unlike : Stmt := top 69
abbrev s_law : Stmt := top 70
end My

namespace My
open PySem PySem.Spec PyProof.Rows L2
/-! ### the pool -/
/-- a pool stands at p, at most n draws of its second kind were made -/
def Pool (H : Hp) (p : Addr) (n : Int) : Prop := ∃ g m c : Int, H p = some (.lst [.int g, .int m, .int c]) ∧ 0 ≤ g ∧ 0 ≤ m ∧ m < 1000000007 ∧ 0 ≤ c ∧ c ≤ n
def spCell1 (K : PySem.W.Frag) : Sp := fun vs H Q _ => ∃ (l : Addr) (ns : List Int) (j : Nat), vs = [.ref l, .int (j : Int)] ∧ SqL K H l (ns.map V.int) ∧ ∀ i : Int, Q (.int i) H
def spPool : Sp := fun vs H Q _ => ∃ g : Int, vs = [.int g] ∧ ∀ p H', H p = none → (∃ a b : Int, 0 ≤ a ∧ 0 ≤ b ∧ b < 1000000007 ∧ H' = upd H p (.lst [.int a, .int b, .int 0])) → Q (.ref p) H'
def spTake : Sp := fun vs H Q _ => ∃ (p : Addr) (many n : Int), vs = [.ref p, .int many] ∧ 0 < many ∧ many < 1073741824 ∧ Pool H p n ∧ n < 1099511627776 ∧
  ∀ (r : Int) (o : HO), 0 ≤ r → r < many → Pool (upd H p o) p (n + 1) → Q (.int r) (upd H p o)
theorem scCell : FnScope ["_law_script", "_law_k"] ["_law_script", "_law_k"] (defScope sCell) := ⟨rfl, rfl, rfl, by decide +kernel, rfl, by decide +kernel, by decide +kernel⟩
theorem scPool : FnScope ["_law_cell_here", "_law_folded"] ["_law_cell_here"] (defScope sPool) := ⟨rfl, rfl, rfl, by decide +kernel, rfl, by decide +kernel, by decide +kernel⟩
theorem scTake : FnScope ["_law_pool_here", "_law_many", "_law_draw", "_law_mixed"] ["_law_pool_here", "_law_many"] (defScope sTake) := ⟨rfl, rfl, rfl, by decide +kernel, rfl, by decide +kernel, by decide +kernel⟩
section
variable {P : Program} {w : World} {K : PySem.W.Frag} {mg : Str → Option Value} {base : Heap} {f : Addr} {fd : FuncData}
theorem ok_cell (F : FnP K "_law_cell" sCell f fd) (gL : mg "len" = none) : FnOk P w K mg base CX0 1 f fd ["_law_script", "_law_k"] (spCell1 K) := by
  refine F.ok scCell (fun vs H Q E h => ?_) (fun cdv A outer s H vs Q E hr h => ⟨_, PSs.nox (pss_cons (ps_if (pt_cmpR op_lt (pv 1) (pe_callB call_len (by rfl) gL boot_len (pa_cons (pv 0) pa_nil)) (nomark _)) (pss_one (ps_ret (pe_ix ix_list (pv 0) (pv 1) (fun _ _ => rfl)))) pss_nil) (pss_one (ps_ret pe_int))), ?_⟩)
  · obtain ⟨l, ns, j, rfl, _⟩ := h
    rfl
  · obtain ⟨l, ns, j, rfl, hS, q⟩ := h
    refine ⟨_, rfl, _, rfl, _, _, rfl, .inl ⟨_, hS, rfl⟩, _, _, rfl, rfl, _, rfl, ?_⟩
    refine ite2 (fun hj => ?_) (fun _ => ?_)
    · have hj' : j < ns.length := by
        have z := of_decide_eq_true hj
        rw [List.length_map] at z
        omega
      refine ⟨_, rfl, _, rfl, l, _, _, _, rfl, rfl, hS, atI_nat (by rw [List.getElem?_map, List.getElem?_eq_getElem hj'] <;> rfl), q _⟩
    · exact q 0
theorem ok_pool (F : FnP K "_law_pool" sPool f fd) (gI : mg "int" = none) : FnOk P w K mg base CX0 1 f fd ["_law_cell_here"] spPool := by
  refine F.ok scPool (fun vs H Q E h => ?_) (fun cdv A outer s H vs Q E hr h => ⟨_, PSs.nox (
    pss_cons (ps_set (i := 1) scPool.nd rfl (.inl rfl) (pe_op op_mul pe_int (pv 0)))
    (pss_cons (ps_if (pt_cmpR op_lt (pv 0) pe_int (nomark _)) (pss_one (ps_set (i := 1) scPool.nd rfl (.inl rfl) (pe_op op_sub (pe_op op_sub pe_int (pe_op op_mul pe_int (pv 0))) pe_int))) pss_nil)
    (pss_cons (ps_if (pt_cmpR op_ge (pv 1) (pe_op op_pow pe_int pe_int) (nomark _)) (pss_one (ps_ret (pe_lst (pa_cons (pv 1) (pa_cons (pe_op op_mod (pe_callTy call_int1 (by rfl) gI (by decide +kernel) (pa_cons (pv 1) pa_nil)) pe_int) (pa_cons pe_int pa_nil)))))) pss_nil)
    (pss_one (ps_ret (pe_lst (pa_cons pe_int (pa_cons (pe_op op_mod (pe_callTy call_int1 (by rfl) gI (by decide +kernel) (pa_cons (pv 1) pa_nil)) pe_int) (pa_cons pe_int pa_nil))))))))), ?_⟩)
  · obtain ⟨g, rfl, _⟩ := h
    rfl
  · obtain ⟨g, rfl, q⟩ := h
    refine ⟨_, rfl, _, _, rfl, rfl, .inl ⟨by decide, by decide⟩, _, rfl, _, _, rfl, rfl, _, rfl, ?_⟩
    have m1 : ∀ z : Int, 0 ≤ z % 1000000007 := fun z => Int.emod_nonneg z (by decide)
    have m2 : ∀ z : Int, z % 1000000007 < 1000000007 := fun z => Int.emod_lt_of_pos z (by decide)
    have lst3 : ∀ a b c : V, ([a, b, c] : List V).length ≤ sizeLine := fun a b c => by show 3 ≤ sizeLine; decide
    refine ite2 (fun hn => ?_) (fun hn => ?_)
    · have hn' := of_decide_eq_true hn
      refine ⟨_, rfl, _, _, rfl, rfl, .inl ⟨by decide, by decide⟩, _, _, rfl, rfl, _, _, rfl, rfl, ?_⟩
      refine ⟨_, rfl, _, _, rfl, rfl, ⟨by decide, by decide, by decide⟩, _, _, rfl, rfl, _, rfl, ?_⟩
      refine ite2 (fun _ => ?_) (fun _ => ?_)
      · refine ⟨_, rfl, _, rfl, .inl ⟨_, rfl, _, _, rfl, rfl, (show (0 : Int) < 1000000007 by decide), lst3 _ _ _, fun p hp => q p _ hp ⟨_, _, ?_, m1 _, m2 _, rfl⟩⟩⟩
        omega
      · refine ⟨_, rfl, .inl ⟨_, rfl, _, _, rfl, rfl, (show (0 : Int) < 1000000007 by decide), lst3 _ _ _, fun p hp => q p _ hp ⟨_, _, by decide, m1 _, m2 _, rfl⟩⟩⟩
    · have hn' : ¬ g < 0 := fun z => hn (decide_eq_true z)
      refine ⟨_, rfl, _, _, rfl, rfl, ⟨by decide, by decide, by decide⟩, _, _, rfl, rfl, _, rfl, ?_⟩
      refine ite2 (fun _ => ?_) (fun _ => ?_)
      · refine ⟨_, rfl, _, rfl, .inl ⟨_, rfl, _, _, rfl, rfl, (show (0 : Int) < 1000000007 by decide), lst3 _ _ _, fun p hp => q p _ hp ⟨_, _, ?_, m1 _, m2 _, rfl⟩⟩⟩
        omega
      · refine ⟨_, rfl, .inl ⟨_, rfl, _, _, rfl, rfl, (show (0 : Int) < 1000000007 by decide), lst3 _ _ _, fun p hp => q p _ hp ⟨_, _, by decide, m1 _, m2 _, rfl⟩⟩⟩
theorem ok_take (F : FnP K "_law_take" sTake f fd) (gI : mg "int" = none) : FnOk P w K mg base CX0 1 f fd ["_law_pool_here", "_law_many"] spTake := by
  refine F.ok scTake (fun vs H Q E h => ?_) (fun cdv A outer s H vs Q E hr h => ⟨_, PSs.nox (
    pss_cons (ps_if (pt_cmpR op_gt (pe_ix ix_list (pv 0) pe_int (fun _ _ => rfl)) pe_int (nomark _))
      (pss_cons (ps_set (i := 2) scTake.nd rfl (.inl rfl) (pe_op op_mod (pe_callTy call_int1 (by rfl) gI (by decide +kernel) (pa_cons (pe_ix ix_list (pv 0) pe_int (fun _ _ => rfl)) pa_nil)) (pv 1)))
      (pss_cons (ps_asg (pe_op op_fdiv (pe_ix ix_list (pv 0) pe_int (fun _ _ => rfl)) (pv 1)) (pg_sub (pv 0) pe_int set_list))
      (pss_one (ps_ret (pv 2))))) pss_nil)
    (pss_cons (ps_asg (pe_op op_add (pe_ix ix_list (pv 0) pe_int (fun _ _ => rfl)) pe_int) (pg_sub (pv 0) pe_int set_list))
    (pss_cons (ps_set (i := 3) scTake.nd rfl (.inl rfl) (pe_op op_mod (pe_callTy call_int1 (by rfl) gI (by decide +kernel) (pa_cons (pe_op op_pow (pe_op op_add (pe_op op_add (pe_ix ix_list (pv 0) pe_int (fun _ _ => rfl)) (pe_op op_mul pe_int (pe_ix ix_list (pv 0) pe_int (fun _ _ => rfl)))) pe_int) pe_int) pa_nil)) pe_int))
    (pss_one (ps_ret (pe_op op_mod (pe_op op_mod (pe_callTy call_int1 (by rfl) gI (by decide +kernel) (pa_cons (pe_op op_mul (pe_op op_add (pv 3) (pe_ix ix_list (pv 0) pe_int (fun _ _ => rfl))) pe_int) pa_nil)) pe_int) (pv 1))))))), ?_⟩)
  · obtain ⟨p, many, n, rfl, _⟩ := h
    rfl
  · obtain ⟨p, many, n, rfl, hm0, hm1, ⟨g, m, c, hp, hg, hm, hm', hc, hcn⟩, hn, q⟩ := h
    have SL : ∀ {H : Hp} {xs : List V}, H p = some (.lst xs) → SqL K H p xs := fun h => SqL.of h
    refine ⟨_, rfl, p, _, 0, .int g, rfl, rfl, SL hp, rfl, _, _, rfl, rfl, _, rfl, ?_⟩
    refine ite2 (fun hg0 => ?_) (fun _ => ?_)
    · refine ⟨_, rfl, p, _, 0, .int g, rfl, rfl, SL hp, rfl, .inl ⟨_, rfl, _, rfl, _, _, rfl, rfl, hm0, ?_⟩⟩
      refine ⟨_, rfl, p, _, 0, .int g, rfl, rfl, SL hp, rfl, _, rfl, _, _, rfl, rfl, ⟨hm0, hm1⟩, _, rfl, p, _, 0, 0, rfl, rfl, hp, rfl, ?_⟩
      refine ⟨_, rfl, q _ _ (Int.emod_nonneg _ (by omega)) (Int.emod_lt_of_pos _ hm0) ⟨g / many, m, c, upd_same, Int.ediv_nonneg hg (by omega), hm, hm', hc, by omega⟩⟩
    · refine ⟨_, rfl, p, _, 2, .int c, rfl, rfl, SL hp, rfl, _, _, rfl, rfl, _, rfl, p, _, 2, 2, rfl, rfl, hp, rfl, ?_⟩
      have h2 : upd H p (.lst (List.set [V.int g, V.int m, V.int c] 2 (V.int (c + 1)))) p = some (.lst [.int g, .int m, .int (c + 1)]) := upd_same
      refine ⟨_, rfl, p, _, 1, .int m, rfl, rfl, SL h2, rfl, _, rfl, p, _, 2, .int (c + 1), rfl, rfl, SL h2, rfl, _, _, rfl, rfl, .inl ⟨by decide, by decide⟩, _, _, rfl, rfl, _, _, rfl, rfl, _, _, rfl, rfl, ⟨by decide, by decide, ?_⟩, .inl ⟨_, rfl, _, _, rfl, rfl, (show (0 : Int) < 2147483647 by decide), ?_⟩⟩
      · omega
      refine ⟨_, rfl, _, rfl, p, _, 2, .int (c + 1), rfl, rfl, SL h2, rfl, _, _, rfl, rfl, _, _, rfl, rfl, .inr ⟨by decide, by decide⟩, .inl ⟨_, rfl, _, _, rfl, rfl, (show (0 : Int) < 2147483629 by decide), _, rfl, _, _, rfl, rfl, hm0, ?_⟩⟩
      exact q _ _ (Int.emod_nonneg _ (by omega)) (Int.emod_lt_of_pos _ hm0) ⟨g, m, c + 1, upd_same, hg, hm, hm', by omega, by omega⟩
end
end My

namespace PySem
namespace MyX
open PySem.HandSPX Builtin Builtin.ObjectAttr
section
variable {M : Model} {A : Around} {E : Value → Shared → Prop} {h : Heap} {g : Array GenState} {d : Drawn} {t : Nat} {os : OsState}
variable {nm q : Str} {C N : Addr} {bs bm mb : List Value} {hdct : Bool} {sn : List Str} {sub : List Value} {ab : Bool} {col : Option Bool} {dd : Option Addr} {k0 k1 k2 k3 k5 : Option Value} {B idN idI : String}
theorem chk_new (F : ExcBaseFacts B idN idI mb) (hT : ∀ X : String, bm.contains (.type X) = mb.contains (.type X)) {rs : List Value} {kw : List (Str × Value)} {Q : Unit → Shared → Prop}
    (hC : h.get? C = some (excClassObj nm q C N bs bm hdct sn sub ab col dd k0 k1 k2 k3 k5 idN)) (hq : Q () ⟨h, g, d, t, os⟩) :
    wpAny M A (checkBuiltinCall idN ⟨.ref C :: rs, kw⟩) Q E ⟨h, g, d, t, os⟩ := by
  have c1 : (Value.ref C :: bm).contains (.type B) = true := by
    rw [List.contains_cons, hT, F.hasB, Bool.or_true]
  have c2 := F.noStar
  simp only [checkBuiltinCall, F.newKind, F.newSplit, F.newRow]
  repeat (first | refine wpAny_loadPart_at hC ?_ | (refine wpAny_isSubtype_exc hC ?_; rw [c1]) | refine wpAny_staticBase_exc hC ?_ | refine wpAny_madeBy_exc hC ?_ | simp only [bne_self_eq_false, Bool.false_eq_true, if_false] | wp_step)
  exact hq
end
section
variable {prog : Program} {w : World} {A : Around} {E : Value → Shared → Prop} {R : Result → Shared → Prop} {h : Heap} {g : Array GenState} {d : Drawn} {t : Nat} {os : OsState}
variable {nm q : Str} {C N : Addr} {bs bm mb : List Value} {hdct : Bool} {sn : List Str} {sub : List Value} {ab : Bool} {col : Option Bool} {dd : Option Addr} {k0 k1 k2 k3 k5 : Option Value} {B idN idI : String}
theorem new_kw (F : ExcBaseFacts B idN idI mb) (hT : ∀ X : String, bm.contains (.type X) = mb.contains (.type X)) {rs : List Value} {kw : List (Str × Value)}
    (hC : h.get? C = some (excClassObj nm q C N bs bm hdct sn sub ab col dd k0 k1 k2 k3 k5 idN))
    (hq : R (.ok (.ret (.ref (h.objs.size + 1)))) ⟨(h.push (W.kdv_tup rs)).push (excO C h.objs.size), g, d, t, os⟩) (hrs : rs.length ≤ sizeLine) :
    codeAny (model prog w) A (.builtin idN ⟨.ref C :: rs, kw⟩) R ⟨h, g, d, t, os⟩ := by
  have c0 := F.ends
  have c1 : (Value.ref C :: bm).contains (.type B) = true := by
    rw [List.contains_cons, hT, F.hasB, Bool.or_true]
  have c2 : (Value.ref C :: bm).contains (.type "AttributeError") = false := by
    rw [List.contains_cons, hT, F.noAttr]; rfl
  have c3 : (Value.ref C :: bm).contains (.type "NameError") = false := by
    rw [List.contains_cons, hT, F.noName]; rfl
  refine codeAny_builtinAt F.entry ?_
  unfold Builtin.«BaseException.__new__»
  refine wpAt_bind ?_
  show wpAt _ _ _ (stack >>= _) _ _ _
  refine wpAt_bind (wpAt_stack fun p below => wpAt_of_wpAny ?_)
  wp_walk
  refine wpAt_of_wpAny ?_
  rw [F.owner]
  repeat (first | with_reducible refine wpAny_madeHere_exc F.canon hC ?_ | with_reducible refine wpAny_loadPart_at hC ?_ | (with_reducible refine wpAny_isSubtype_exc hC ?_; first | rw [c1] | rw [c2] | rw [c3]) | wp_step)
  show R _ _
  rw [Heap.size_push]
  exact hq
theorem tcall_kw (F : ExcBaseFacts B idN idI mb) (hT : ∀ X : String, bm.contains (.type X) = mb.contains (.type X)) {rs : List Value} {kw : List (Str × Value)} {fI : Addr} {Q : Fin → Shared → Prop}
    (hC : h.get? C = some (excClassObj nm q C N bs bm hdct sn sub ab col dd k0 k1 k2 k3 k5 idN))
    (hi : W.Looks (model prog w) h (typeLookup (.ref C) "__init__") (some (.ref fI))) (hb : ∀ self, W.Looks (model prog w) h (bindSpecial (.ref fI) self) (.ref fI, [self])) (hrs : rs.length ≤ sizeLine)
    (hq : codeAny (model prog w) A (.call (.ref fI) ⟨.ref (h.objs.size + 1) :: rs, kw⟩)
      (fun r s' => match r with | .ok (.ret v) => v = .none ∧ Q (.done (.ret (.ref (h.objs.size + 1)))) s' | .ok _ => False | .error e => E e s')
      ⟨(h.push (W.kdv_tup rs)).push (excO C h.objs.size), g, d, t, os⟩) :
    wpAny (model prog w) A (Builtin.«type.__call__» ⟨.ref C :: rs, kw⟩) Q E ⟨h, g, d, t, os⟩ := by
  repeat (first | with_reducible refine wpAny_loadPart_at hC ?_ | with_reducible refine wpAny_madeBy_exc hC ?_ | wp_step)
  refine codeAny_call_builtin_code (Code.quiet_builtin _ F.quiet) (chk_new F hT hC ?_)
  refine new_kw F hT hC ?_ hrs
  show wpAny _ _ _ _ _ _
  have k : ∀ b o, h.get? b = some o → ((h.push (W.kdv_tup rs)).push (excO C h.objs.size)).get? b = some o := fun b o e => Heap.get?_push_of_some _ (Heap.get?_push_of_some _ e)
  have hC1 := k _ _ hC
  have hget : ((h.push (W.kdv_tup rs)).push (excO C h.objs.size)).get? (h.objs.size + 1) = some (excO C h.objs.size) := by heap_get
  have hcC : (Value.ref C :: bm).contains (.ref C) = true := by simp
  have i1 := hi.keeps k
  have b1 := (hb (.ref (h.objs.size + 1))).keeps k
  unfold isInstance
  repeat (first | with_reducible refine wpAny_loadPart_at hget ?_ | (with_reducible refine wpAny_isSubtype_exc hC1 ?_; rw [hcC]) | wp_step)
  show wpAny _ _ (typeLookup (.ref C) _) _ _ _
  refine i1.at ?_
  refine wpAny_holding (wpAny_bind (b1.at ?_))
  refine wpAny_bind (wpAny_call (codeAny_mono hq fun r s' z => ?_))
  rcases r with e | (v | _ | _ | _) <;> first | exact z | exact z.elim | skip
  obtain ⟨rfl, z⟩ := z
  first
    | exact wpAny_pure (wpAny_pure z)
    | (wp_walk; exact z)
theorem call_kw (F : ExcBaseFacts B idN idI mb) (hT : ∀ X : String, bm.contains (.type X) = mb.contains (.type X)) {rs : List Value} {kw : List (Str × Value)} {fI : Addr}
    (hC : h.get? C = some (excClassObj nm q C N bs bm hdct sn sub ab col dd k0 k1 k2 k3 k5 idN))
    (hi : W.Looks (model prog w) h (typeLookup (.ref C) "__init__") (some (.ref fI))) (hb : ∀ self, W.Looks (model prog w) h (bindSpecial (.ref fI) self) (.ref fI, [self])) (hrs : rs.length ≤ sizeLine)
    (hq : codeAny (model prog w) (A.under (.builtin "type.__call__" ⟨.ref C :: rs, kw⟩)) (.call (.ref fI) ⟨.ref (h.objs.size + 1) :: rs, kw⟩) (W.InitBack (h.objs.size + 1) R)
      ⟨(h.push (W.kdv_tup rs)).push (excO C h.objs.size), g, d, t, os⟩) :
    codeAny (model prog w) A (.call (.ref C) ⟨rs, kw⟩) R ⟨h, g, d, t, os⟩ := by
  have f1 := tc_lookup
  have f2 := tc_bind (.ref C)
  have hTy : (⟨h, g, d, t, os⟩ : Shared).TypeIs (.ref C) "type" := ⟨_, hC, rfl⟩
  refine codeAny_of_tree ?_
  show wpAny _ _ (callAny (.ref C) _) _ _ _
  repeat (any_goals (first | assumption | with_reducible refine wpAny_loadPart_at hC ?_ | wp_step))
  refine ⟨rfl, ?_⟩
  refine codeAny_call_builtin_at (Code.quiet_builtin _ (by decide +kernel)) entry_typeCall (wpAny_check_type_call_sub hC (tcall_kw F hT hC hi hb hrs ?_))
  refine codeAny_mono hq fun r s' z => ?_
  rcases r with e | (v | _ | _ | _) <;> exact z
end
end MyX
end PySem

namespace My
open PySem PySem.Spec PyProof.Rows L2
/-! ### own exceptions as values -/
/-- what isinstance asks of the class of an exception -/
structure KitC (K : PySem.W.Frag) (C : Addr) : Prop where
  cl : (PySem.W.clsIn K C).isSome = true
  at_ : PySem.W.findIn K (.ref C) "__class__" = some (some (.builtin "object.__class__"))
  sp : PySem.W.specialIn K (.builtin "object.__class__") "__get__" = some (some (.builtin "getset_descriptor.__get__"))
  tk : PySem.W.takesIn K (.builtin "object.__class__") = some true
  ob : PySem.W.mroIn K C (.type "object") = some true
/-- an exception of the class at C stands at a: its one field f holds v -/
def ErrAt (H : Hp) (a C : Addr) (f : Str) (v : V) : Prop := ∃ d, H a = some (exo a C (some d)) ∧ H d = some (exd d [(f, v)])
theorem ErrAt.ext {H H' : Hp} {a C : Addr} {f : Str} {v : V} (e : ErrAt H a C f v) (x : Ext H H') : ErrAt H' a C f v := by
  obtain ⟨d, h1, h2⟩ := e
  exact ⟨d, x _ _ h1, x _ _ h2⟩
section
variable {X : Cx} {CX : CXT} {k : Nat} {C fI : Addr} {fd : FuncData} {ps : List Str} {sp : Sp}
theorem run_err {pins : List (Addr × Obj)} {σ : L2.St} {H : Hp} {s : Shared} {Q : VK} {us uz : List Value} {kw : List (Str × Value)} {vs : List V} (T : OexC X.K C) (iC : PySem.W.findIn X.K (.ref C) "__init__" = some (some (.ref fI)))
    (tI : PySem.W.typeIn X.K (.ref fI) = some (.type "function")) (Fn : FnOk X.prog X.w X.K X.mg X.base CX k fI fd ps sp) (hr : Room (k + 1) X.A) (hx : Passes CX X E0)
    (hb : ∀ (s : Shared) (a : Addr), X.K.In s.heap → BindsTo s fd ⟨.ref a :: us, kw⟩ (ps.zip (.ref a :: uz))) (hl : us.length ≤ 1000) (I : Inv X pins σ H s) (r : Vals vs uz)
    (h : ∀ a, H a = none → sp (.ref a :: vs) (upd H a (exo a C none)) (fun v H2 => v = .non ∧ Q (.ref a) H2) E0) :
    wpAny (model X.prog X.w) X.A (call (.ref C) us kw) (EP X pins σ Q) X.xe s := by
  obtain ⟨nm, q, N, bs, bm, sn, sub, ab, col, dd, k0, k1, k2, k3, k5, hC, hbm⟩ := T.cls
  obtain ⟨hp, g, dr, tk, os⟩ := s
  have hz : hp.objs.size ≤ hp.objs.size + 1 := Nat.le_succ _
  have hn : H (hp.objs.size + 1) = none := I.hok.fresh hz
  have hq := h (hp.objs.size + 1) hn
  have kk : ∀ b o, hp.get? b = some o → ((hp.push (PySem.W.kdv_tup us)).push (PySem.HandSPX.excO C hp.objs.size)).get? b = some o := fun b o e =>
    Heap.get?_push_of_some _ (Heap.get?_push_of_some _ e)
  have hg : ((hp.push (PySem.W.kdv_tup us)).push (PySem.HandSPX.excO C hp.objs.size)).get? (hp.objs.size + 1) = some (PySem.HandSPX.excO C hp.objs.size) := by
    heap_get
  have I2 : Inv X pins σ (upd H (hp.objs.size + 1) (exo (hp.objs.size + 1) C none)) ⟨(hp.push (PySem.W.kdv_tup us)).push (PySem.HandSPX.excO C hp.objs.size), g, dr, tk, os⟩ :=
    I.laid (t' := tk) (a := hp.objs.size + 1) (o := exo (hp.objs.size + 1) C none) (h' := (hp.push (PySem.W.kdv_tup us)).push (PySem.HandSPX.excO C hp.objs.size)) kk hz (exo_ok hg)
  have r2 : Vals (V.ref (hp.objs.size + 1) :: vs) (Value.ref (hp.objs.size + 1) :: uz) := .cons rfl r
  have hus : us.length ≤ sizeLine := by
    rw [sizeLine_eq]
    omega
  refine wpAny_call (PySem.MyX.call_kw PySem.F.excBase_ValueError (fun Y => PySem.HandSPX.refsVE_contains Y bm hbm) (I.kIn _ _ hC) (PySem.W.looks_findIn I.kIn iC) (fun self => PySem.W.bind_fn I.kIn self tI) hus
    (codeAny_mono (Fn.run _ X.stack _ _ ⟨Value.ref (hp.objs.size + 1) :: us, kw⟩ (Value.ref (hp.objs.size + 1) :: uz) _ _ E0 (hr.make C us kw) (I2.env0.make C us kw) (hb _ _ I2.kIn) r2 hq) fun r s' hq' => ?_))
  cases r with
  | error er => exact hx pins σ _ _ er s' I2 hq'
  | ok fl =>
    cases fl with
    | ret u =>
      obtain ⟨v, H', I3, rv, ev, q3⟩ := I2.after hq'
      subst ev
      exact ⟨rv, ⟨V.ref (hp.objs.size + 1), H', I3, rfl, q3⟩⟩
    | next => exact False.elim hq'
    | brk => exact False.elim hq'
    | cont => exact False.elim hq'
/-- C(e, ..) as a value -/
def tErr (C : Addr) (sp : Sp) (ta : TA) : TE := fun σ H Q => ta σ H fun vs H1 => vs.length ≤ 1000 ∧ ∀ a, H1 a = none → sp (.ref a :: vs) (upd H1 a (exo a C none)) (fun v H2 => v = .non ∧ Q (.ref a) H2) E0
theorem pe_err {x : Str} {e : Expr} {es : List Expr} {ta : TA} {p pos : Pos} (T : OexC X.K C) (iC : PySem.W.findIn X.K (.ref C) "__init__" = some (some (.ref fI)))
    (tI : PySem.W.typeIn X.K (.ref fI) = some (.type "function")) (Fn : FnOk X.prog X.w X.K X.mg X.base CX k fI fd ps sp) (hr : Room (k + 1) X.A) (hx : Passes CX X E0) (hb : Binds X.K fd ps [])
    (hg : Gl X x) (hm : X.mg x = some (.ref C)) (ha : PA X (e :: es) ta)
    (hdb : (x == ("__debug__" : Str)) = false := by decide) (he : starEach (e :: es) X.env = (false, eval e X.env) :: starEach es X.env := by rfl) (hpl : (backTo pos (starEach es X.env)).any (·.1) = false := by rfl) :
    PE X (.Call (.Name x p) (e :: es) [] pos) (tErr C sp ta) := by
  refine ⟨fun pins s σ H Q I h => ?_⟩
  refine wpAny_Call_Name_kw (ld_glob I hg hm ?_ hdb)
  refine PySem.W.callWith_K (h₀ := X.base) I.ok.mod.kin T.kC (thn (ha.run pos pins s σ H _ I h) fun us s1 ⟨vs, H1, I1, r1, hz, q1⟩ => ⟨I1.kIn, ?_⟩) he hpl
  have l0 : us.length ≤ 1000 := by
    rw [← Paired.length r1]
    exact hz
  have l1 : vs.length + 1 = ps.length := Fn.len _ _ _ _ (q1 (s1.heap.objs.size + 1) (I1.hok.fresh (Nat.le_succ _)))
  refine run_err T iC tI Fn hr hx (fun s a KX => ?_) l0 I1 r1 q1
  have z := hb s (Value.ref a :: us) KX (by rw [List.append_nil, List.length_cons, ← Paired.length r1]; exact l1)
  rw [List.append_nil] at z
  exact z
/-- C(f = e) as a value -/
theorem pe_errK {x kn : Str} {kws : List Keyword} {tk : TA} {p pos : Pos} (T : OexC X.K C) (iC : PySem.W.findIn X.K (.ref C) "__init__" = some (some (.ref fI)))
    (tI : PySem.W.typeIn X.K (.ref fI) = some (.type "function")) (Fn : FnOk X.prog X.w X.K X.mg X.base CX k fI fd ps sp) (hr : Room (k + 1) X.A) (hx : Passes CX X E0)
    (hb : ∀ (s : Shared) (u v : Value), X.K.In s.heap → BindsTo s fd ⟨[u], [(kn, v)]⟩ (ps.zip [u, v])) (hg : Gl X x) (hm : X.mg x = some (.ref C)) (hkw : PK X kws tk)
    (hall : (backToKw pos (keywordEach kws X.env)).all (·.1.isSome) = true := by rfl) (hks : (backToKw pos (keywordEach kws X.env)).filterMap (·.1) = [kn] := by rfl) (hdb : (x == ("__debug__" : Str)) = false := by decide)
    (hpl : ((backTo pos (starEach [] X.env)).any (·.1) || (backToKw pos (keywordEach kws X.env)).any (·.1.isNone)) = false := by rfl) :
    PE X (.Call (.Name x p) [] kws pos) (fun σ H Q => tk σ H fun vs H1 => ∃ v, vs = [v] ∧ tErr C sp (fun _ H Q => Q [v] H) σ H1 Q) := by
  refine ⟨fun pins s σ H Q I h => ?_⟩
  refine wpAny_Call_Name_kw (ld_glob I hg hm ?_ hdb)
  refine PySem.W.callWith_KW0 (h₀ := X.base) I.ok.mod.kin T.kC hall ?_ hpl
  refine thn (hkw.run pos pins s σ H _ I h) fun ws s2 ⟨zs, H2, I2, rz, v, ez, l2, q2⟩ => ⟨I2.kIn, ?_⟩
  rw [hks]
  subst ez
  cases rz with
  | cons rv rn =>
    cases rn
    exact run_err (us := []) T iC tI Fn hr hx (fun s a KX => hb s (.ref a) _ KX) (by decide) I2 (.cons rv .nil) q2
/-- e.f of such a value -/
def tErF (K : PySem.W.Frag) (f : Str) (te : TE) : TE := fun σ H Q => te σ H fun x H1 => ∃ a C v, x = .ref a ∧ ErrAt H1 a C f v ∧ XfC K C ∧ PySem.W.findIn K (.ref C) f = some none ∧ Q v H1
theorem pe_erF {e : Expr} {te : TE} {n : Str} {pos : Pos} (he : PE X e te) (hb : attributeBase e n X.env (eval e X.env) = eval e X.env := by rfl) : PE X (.Attribute e n pos) (tErF X.K n te) := by
  refine ⟨fun pins s σ H Q I h => ?_⟩
  refine attr_of hb (thn (he.run pins s σ H _ I h) fun u s1 hh => ?_)
  obtain ⟨x, H1, I1, rx, a, C, v, ex, ⟨d, ha, hd⟩, T, hno, q⟩ := hh
  subst ex
  obtain rfl : u = Value.ref a := rx
  obtain ⟨t1, ho⟩ := exo_at I1.hok ha
  obtain ⟨mA, hns, hr⟩ := exd_at I1.hok hd
  obtain ⟨od, hod, hl⟩ := lookIn_ns hns
  have l : List.lookup n [(n, v)] = some v := by
    simp [List.lookup]
  obtain ⟨u, hu, ru⟩ := RelO.some_of (v := v) (o := mA n) (by rw [← l]; exact hr n)
  have J : PySem.W.InstAt s1.heap a { cls := .ref C, dict := some d, data := .fields #[.ref t1, .none, .none, .none, .bool false, .none] } C (some od) := ⟨ho, rfl, rfl, hod⟩
  exact HandSPX.exc_get I1.kIn J T.ga T.gg T.exC (PySem.W.findObj_own T.hdC hno rfl (by rw [hl, hu])) (handed_of ru) ⟨v, H1, I1.tok _, ru, q⟩
/-- isinstance(e, D) of such a value, or of one without fields -/
def rIsX (K : PySem.W.Frag) : List V → Hp → VK → Prop := fun xs H Q => ∃ (a C : Addr) (c : V) (u : Value) (b : Bool), xs = [.ref a, c] ∧ ClsV c u ∧ ((∃ f v, ErrAt H a C f v) ∨ H a = some (ExO (.ref C) a)) ∧ XfC K C ∧ KitC K C ∧
  PySem.W.kitOne K (.ref C) u = some b ∧ Q (.bl b) H
theorem call_isX : CallR X (.builtin "isinstance") (rIsX X.K) := by
  intro pins s σ H xs us Q I r h
  obtain ⟨a, C, c, u, b, rfl, kc, ha, T, Z, e, q⟩ := h
  obtain ⟨u1, u2, rfl, r1, r2⟩ := vals2 r
  obtain rfl : u1 = Value.ref a := r1
  have e2 := kc.eq r2
  subst e2
  rcases ha with ⟨f, v, d, ha, hd⟩ | ha
  · obtain ⟨t1, ho⟩ := exo_at I.hok ha
    obtain ⟨mA, hns, hr⟩ := exd_at I.hok hd
    obtain ⟨od, hod, hl⟩ := lookIn_ns hns
    have J : PySem.W.InstAt s.heap a { cls := .ref C, dict := some d, data := .fields #[.ref t1, .none, .none, .none, .bool false, .none] } C (some od) := ⟨ho, rfl, rfl, hod⟩
    exact PySem.W.kia_one (PySem.W.kitx_exc Z.cl T.ga T.gg T.exC Z.at_ Z.sp Z.tk Z.ob) I.kIn J e (fun z => nomatch z) fun tk => ⟨.bl b, H, I.tok tk, rfl, q⟩
  · obtain ⟨⟨oe, vs, ho, hz, hdt, _⟩, _, _⟩ := I.hok a _ ha
    have J : PySem.W.InstAt s.heap a oe C none := ⟨ho, hz.1, by unfold PySem.W.notCls; rw [hdt] <;> rfl, by rw [hz.2]; exact True.intro⟩
    exact PySem.W.kia_one (PySem.W.kitx_exc Z.cl T.ga T.gg T.exC Z.at_ Z.sp Z.tk Z.ob) I.kIn J e (fun z => nomatch z) fun tk => ⟨.bl b, H, I.tok tk, rfl, q⟩
/-- C(), a class without fields -/
theorem pe_exc0 {bmB : List Value} {B newId initId : String} {x : Str} {p pos : Pos} (F : ExcBaseFacts B newId initId bmB) (q : PySem.W.excIn X.K C bmB newId = true) (gC : X.mg x = some (.ref C)) (kC : PySem.W.keepIn X.K (.ref C) = true) (hg : Gl X x)
    (hdb : (x == ("__debug__" : Str)) = false := by decide) :
    PE X (.Call (.Name x p) [] [] pos) (fun _ H Q => ∀ a, H a = none → Q (.ref a) (upd H a (ExO (.ref C) a))) := by
  refine ⟨fun pins s σ H Q I h => ?_⟩
  refine wpAny_Call_Name_kw (ld_glob I hg gC ?_ hdb)
  refine PySem.W.callWith_K0 I.kIn kC ?_
  obtain ⟨bm, N, nm, qn, bs, hdct, sn, sub, ab, col, dd, k0, k1, k2, k3, k5, mN, hC, hN, hni, T⟩ := exc_obj I.kIn q
  refine wpAny_call_exc_subT F T hC hN hni (fun h' a hm => ?_) (Nat.zero_le _)
  have hn : H a = none := I.hok.gone hm.new
  obtain ⟨t, ht, _, _⟩ := hm.there
  exact ⟨.ref a, upd H a (ExO (.ref C) a), I.laidN hm.keeps hm.new hn (exO_ok ht ⟨rfl, rfl⟩ rfl rfl rfl (show 4 < 6 by decide)), rfl, h a hn⟩
end
end My

namespace My
open PySem PySem.Spec PyProof.Rows L2
/-! ### a class of errors with one field -/
/-- what the written part says of the class at C, called x, with the field f; its __init__ stands at fI -/
structure ErrC (K : PySem.W.Frag) (mg : Str → Option Value) (x f : Str) (C fI : Addr) : Prop where
  gl : mg x = some (.ref C)
  oex : OexC K C
  xf : XfC K C
  kit : KitC K C
  iC : PySem.W.findIn K (.ref C) "__init__" = some (some (.ref fI))
  tI : PySem.W.typeIn K (.ref fI) = some (.type "function")
  no : PySem.W.findIn K (.ref C) f = some none
/-- __init__ of an error: the field is stored -/
def spInit (C : Addr) (f : Str) : Sp := fun vs H Q _ => ∃ (a : Addr) (v : V), vs = [.ref a, v] ∧ H a = some (exo a C none) ∧
  ∀ dx, H dx = none → dx ≠ a → Q .non (upd (upd H dx (exd dx [(f, v)])) a (exo a C (some dx)))
section
variable {P : Program} {w : World} {K : PySem.W.Frag} {mg : Str → Option Value} {base : Heap} {C fI : Addr} {fd : FuncData} {x f : Str}
theorem ok_init {st : Stmt} {qual : Str} (T : ErrC K mg x f C fI) (F : FunD K "__init__" qual (defArgs st) (defBody st) (defScope st) [] [] fI fd) (S : FnScope ["self", f] ["self", f] (defScope st))
    (hb : ∃ q1 q2 q3 q4, defBody st = [.Assign [.Attribute (.Name "self" q1) f q2] (.Name f q3) q4]) (d1 : (f == ("__debug__" : Str)) = false) (d2 : (f == ("__classdict__" : Str)) = false) :
    FnOk P w K mg base CX0 1 fI fd ["self", f] (spInit C f) := by
  obtain ⟨q1, q2, q3, q4, hb⟩ := hb
  refine F.ok S (fun vs H Q E h => ?_) (fun cdv A outer s H vs Q E hr h => ⟨_, PSs.nox (by
    rw [hb]
    exact pss_one (ps_ost (pe_var (i := 0) rfl (vis_par S List.mem_cons_self)) (pe_var (i := 1) rfl (vis_par S (List.mem_cons_of_mem _ List.mem_cons_self)) d1 d2))), ?_⟩)
  · obtain ⟨a, v, rfl, _⟩ := h
    rfl
  · obtain ⟨a, v, rfl, ha, q⟩ := h
    exact ⟨_, rfl, _, rfl, a, C, rfl, T.oex, T.no, .inl ⟨ha, fun dx n ne => q dx n ne⟩⟩
/-- all that a caller wants of such a class -/
def Er (P : Program) (w : World) (K : PySem.W.Frag) (mg : Str → Option Value) (base : Heap) (x f : Str) (C : Addr) : Prop := ∃ (fI : Addr) (fd : FuncData), ErrC K mg x f C fI ∧ FnOk P w K mg base CX0 1 fI fd ["self", f] (spInit C f) ∧
  Binds K fd ["self", f] [] ∧ ∀ (s : Shared) (u v : Value), K.In s.heap → BindsTo s fd ⟨[u], [(f, v)]⟩ ((["self", f] : List Str).zip [u, v])
/-- C(e), C(f = e) as values -/
def tEr (C : Addr) (f : Str) (te : TE) : TE := fun σ H Q => te σ H fun v H1 => ∀ a H', H1 a = none → Ext H1 H' → ErrAt H' a C f v → Q (.ref a) H'
theorem tEr_of {C : Addr} {f : Str} {v : V} {H : Hp} {Q : VK} (h : ∀ a H', H a = none → Ext H H' → ErrAt H' a C f v → Q (.ref a) H') {a : Addr} (ha : H a = none) :
    spInit C f [.ref a, v] (upd H a (exo a C none)) (fun z H2 => z = .non ∧ Q (.ref a) H2) E0 := by
  refine ⟨a, v, rfl, upd_same, fun dx n ne => ⟨rfl, ?_⟩⟩
  have hn : H dx = none := by
    rw [upd_ne ne] at n
    exact n
  refine h a _ ha (fun b o e => ?_) ⟨dx, upd_same, ?_⟩
  · rw [upd_ne (ne_of_none e ha), upd_ne (ne_of_none e hn), upd_ne (ne_of_none e ha)]
    exact e
  · rw [upd_ne ne, upd_same]
end
section
variable {X : Cx} {x f : Str} {C : Addr} {e : Expr} {te : TE} {p pos kpos : Pos}
theorem pe_er (E : Er X.prog X.w X.K X.mg X.base x f C) (hr : Room 2 X.A) (he : PE X e te) (hg : Gl X x := by rfl) (hdb : (x == ("__debug__" : Str)) = false := by decide)
    (h1 : starEach [e] X.env = (false, eval e X.env) :: starEach [] X.env := by rfl) (h2 : (backTo pos (starEach [] X.env)).any (·.1) = false := by rfl) :
    PE X (.Call (.Name x p) [e] [] pos) (tEr C f te) := by
  obtain ⟨fI, fd, T, F, b, _⟩ := E
  refine ⟨fun pins s σ H Q I h => ?_⟩
  refine wpAny_Call_Name_kw (ld_glob I hg T.gl ?_ hdb)
  refine PySem.W.callWith_K (h₀ := X.base) I.ok.mod.kin T.oex.kC ?_ h1 h2
  have ha : PA X [e] (tCons te tNil) := pa_cons he pa_nil h1
  refine thn (ha.run pos pins s σ H (fun vs H1 => match vs with | [v] => ∀ a H', H1 a = none → Ext H1 H' → ErrAt H' a C f v → Q (.ref a) H' | _ => False) I h) fun us s1 ⟨vs, H1, I1, r1, q1⟩ => ⟨I1.kIn, ?_⟩
  cases r1 with
  | nil => exact False.elim q1
  | cons rv rn =>
    cases rn with
    | cons _ _ => exact False.elim q1
    | nil =>
      refine run_err T.oex T.iC T.tI F hr pass0 (fun s a KX => b s [Value.ref a, _] KX rfl) (show 1 ≤ 1000 by decide) I1 (.cons rv .nil) fun a ha => tEr_of q1 ha
theorem pe_erK (E : Er X.prog X.w X.K X.mg X.base x f C) (hr : Room 2 X.A) (he : PE X e te) (hg : Gl X x := by rfl) (hdb : (x == ("__debug__" : Str)) = false := by decide)
    (hall : (backToKw pos (keywordEach [⟨some f, e, kpos⟩] X.env)).all (·.1.isSome) = true := by rfl) (hks : (backToKw pos (keywordEach [⟨some f, e, kpos⟩] X.env)).filterMap (·.1) = [f] := by rfl)
    (hpl : ((backTo pos (starEach [] X.env)).any (·.1) || (backToKw pos (keywordEach [⟨some f, e, kpos⟩] X.env)).any (·.1.isNone)) = false := by rfl) :
    PE X (.Call (.Name x p) [] [⟨some f, e, kpos⟩] pos) (tEr C f te) := by
  obtain ⟨fI, fd, T, F, _, b⟩ := E
  refine ⟨fun pins s σ H Q I h => ?_⟩
  refine wpAny_Call_Name_kw (ld_glob I hg T.gl ?_ hdb)
  refine PySem.W.callWith_KW0 (h₀ := X.base) I.ok.mod.kin T.oex.kC hall ?_ hpl
  have ha : PK X [⟨some f, e, kpos⟩] (tCons te tNil) := pk_cons he pk_nil
  refine thn (ha.run pos pins s σ H (fun vs H1 => match vs with | [v] => ∀ a H', H1 a = none → Ext H1 H' → ErrAt H' a C f v → Q (.ref a) H' | _ => False) I h) fun us s1 ⟨vs, H1, I1, r1, q1⟩ => ⟨I1.kIn, ?_⟩
  rw [hks]
  cases r1 with
  | nil => exact False.elim q1
  | cons rv rn =>
    cases rn with
    | cons _ _ => exact False.elim q1
    | nil => exact run_err (us := []) T.oex T.iC T.tI F hr pass0 (fun s a KX => b s _ _ KX) (by decide) I1 (.cons rv .nil) fun a ha => tEr_of q1 ha
end
/-! ### many errors at once -/
def AllErr (H : Hp) (v : V) : List Addr → List (Addr × Str) → Prop
  | [], [] => True
  | a :: as, c :: cs => ErrAt H a c.1 c.2 v ∧ AllErr H v as cs
  | _, _ => False
theorem AllErr.ext {H H' : Hp} {v : V} (x : Ext H H') : ∀ {as : List Addr} {cs : List (Addr × Str)}, AllErr H v as cs → AllErr H' v as cs
  | [], [], _ => True.intro
  | a :: as, c :: cs, h => ⟨h.1.ext x, AllErr.ext x h.2⟩
  | [], _ :: _, h => h.elim
  | _ :: _, [], h => h.elim
theorem AllErr.len {H : Hp} {v : V} : ∀ {as : List Addr} {cs : List (Addr × Str)}, AllErr H v as cs → as.length = cs.length
  | [], [], _ => rfl
  | a :: as, c :: cs, h => by rw [List.length_cons, List.length_cons, AllErr.len h.2]
  | [], _ :: _, h => h.elim
  | _ :: _, [], h => h.elim
theorem AllErr.app {H : Hp} {v : V} : ∀ {as bs : List Addr} {cs ds : List (Addr × Str)}, AllErr H v as cs → AllErr H v bs ds → AllErr H v (as ++ bs) (cs ++ ds)
  | [], _, [], _, _, k => k
  | a :: as, _, c :: cs, _, h, k => ⟨h.1, AllErr.app h.2 k⟩
  | [], _, _ :: _, _, h, _ => h.elim
  | _ :: _, _, [], _, h, _ => h.elim
theorem AllErr.at_ {H : Hp} {v : V} : ∀ {as : List Addr} {cs : List (Addr × Str)} {i : Nat} {c : Addr × Str}, AllErr H v as cs → cs[i]? = some c → ∃ a, as[i]? = some a ∧ ErrAt H a c.1 c.2 v
  | [], [], _, _, _, e => by simp at e
  | a :: as, c :: cs, 0, _, h, e => ⟨a, rfl, by cases e; exact h.1⟩
  | a :: as, c :: cs, i + 1, _, h, e => AllErr.at_ (i := i) h.2 e
  | [], _ :: _, _, _, h, _ => h.elim
  | _ :: _, [], _, _, h, _ => h.elim
def tErL : List (Addr × Str) → TE → TA
  | [], _ => tNil
  | c :: cs, te => tCons (tEr c.1 c.2 te) (tErL cs te)
theorem erL_run {i : Nat} {σ : L2.St} {v : V} (hi : σ[i]? = some (some v)) : ∀ (cs : List (Addr × Str)) (H : Hp) (Q : List V → Hp → Prop), (∀ as H', Ext H H' → AllErr H' v as cs → Q (as.map V.ref) H') → tErL cs (tVar i) σ H Q
  | [], H, Q, h => h [] H Ext.rfl' True.intro
  | c :: cs, H, Q, h => ⟨v, hi, fun a H1 _ x1 e1 => erL_run hi cs H1 _ fun as H2 x2 e2 => h (a :: as) H2 (x1.trans x2) ⟨e1.ext x2, e2⟩⟩
end My

namespace PySem
namespace MyD
open PySem.W Builtin
section
variable {prog : Program} {w : World} {A : Around} {E : Value → Shared → Prop} {s : Shared} {K : Frag} {x C f : Addr} {ox : Obj} {od : Option Obj}
/-- y in x, x an instance with an own __contains__ -/
theorem contains_own {M : Model} {y : Value} {Q : Bool → Shared → Prop} (X : K.In s.heap) (I : InstAt s.heap x ox C od) (hs : findIn K (.ref C) "__contains__" = some (some (.ref f))) (hf : isFn K (.ref f) = true)
    (h : wpAny M A (call (.ref f) [.ref x, y]) (fun r s' => ∃ b, r = .bool b ∧ Q b s') E s) : wpAny M A (contains (.ref x) y) Q E s := by
  have body : wpAny M A (callSpecialUnlessNone? (.ref x) "__contains__" [y] (do rule "in.none"; raiseError "TypeError" s!"'{← typeNameOf (.ref x)}' object is not a container")) (fun r s' => ∃ b, r = some (.bool b) ∧ Q b s') E s := by
    unfold callSpecialUnlessNone?
    refine wpAny_bind (wpAny_bind (I.type.here ((looks_findIn X hs).here ?_)))
    refine wpAny_holding (wpAny_bind ((bind_fn X _ (beq_iff_eq.mp hf)).here ?_))
    refine wpAny_bind (wpAny_mono h (fun r s' hr => ?_) fun _ _ e => e)
    obtain ⟨b, rfl, q⟩ := hr
    exact wpAny_pure ⟨b, rfl, q⟩
  unfold contains
  refine wpAny_holding ?_
  refine wpAny_bind (wpAny_bind (I.type.here ((looks_findIn X hs).here ?_)))
  rw [if_neg (show ¬ (some (Value.ref f) == some Value.none) = true from Bool.false_ne_true)]
  refine wpAny_bind (wpAny_mono body (fun r s' hr => ?_) fun _ _ e => e)
  obtain ⟨b, rfl, q⟩ := hr
  exact wpAny_truthy_bool q
/-- x != b, the class of x with an own __eq__ and object's __ne__ -/
theorem ne_own {b tb : Value} {Q : Value → Shared → Prop} (hu : A.units + 1 < cLine) (X : K.In s.heap) (I : InstAt s.heap x ox C od) (hb : Looks (model prog w) s.heap (typeOf b) tb) (hn : notFirst K C tb = true)
    (hne : findIn K (.ref C) "__ne__" = some (some (.builtin "object.__ne__"))) (hob : mroIn K C (.type "object") = some true) (hs : findIn K (.ref C) "__eq__" = some (some (.ref f))) (hf : isFn K (.ref f) = true)
    (h : wpAny (model prog w) A.in1 (call (.ref f) [.ref x, b]) (fun r s' => ∃ k, r = .bool k ∧ Q (.bool (!k)) s') E s) : wpAny (model prog w) A (richCompare .NotEq (.ref x) b) Q E s := by
  have sub : Looks (model prog w) s.heap (isInstance (.ref x) (.type "object")) true := I.type.andThen (looks_mroIn X hob)
  have go : wpAny (model prog w) A (call (.builtin "object.__ne__") ([.ref x] ++ [b])) (fun v s' => ∃ k, v = .bool (!k) ∧ Q (.bool (!k)) s') E s := by
    show wpAny _ _ (call (.builtin "object.__ne__") [.ref x, b]) _ _ _
    refine wpAny_call (codeAny_call_builtin F.cmp_object.ne.plain F.cmpEntry_ne ?_)
    refine check_slot F.cmpKind_ne F.cmpSplit_ne sub (F.cmpArgs_ne _ _) ?_
    unfold Builtin.«object.__ne__»
    refine wpAny_bind (wpAny_of_eq (a := ((Value.ref x : Value), [b])) (by first | rfl | (simp only [slotArgs]; rfl)) ?_)
    refine wpAny_bind (wpAny_cRoomFor hu ?_)
    refine wpAny_bind (ifBound_K X I hs hf (wpAny_mono h (fun v s' hv => ?_) fun _ _ e => e))
    obtain ⟨k, rfl, q⟩ := hv
    refine wpAny_bind (wpAny_truthy_bool ?_)
    exact wpAny_pure ⟨k, rfl, q⟩
  have bnd : wpAny (model prog w) A (callSpecialIfBound? (.ref x) "__ne__" [b]) (fun r s' => ∃ k, r = some (.bool (!k)) ∧ Q (.bool (!k)) s') E s := by
    simp only [callSpecialIfBound?, bindSpecialIfBound?]
    refine wpAny_holding (wpAny_bind (wpAny_bind (wpAny_bind (I.type.here ((looks_findIn X hne).here ?_)))))
    refine wpAny_bind (wpAny_askSetting (wpAny_ite ?_))
    have fin : wpAny (model prog w) A (call (.builtin "object.__ne__") ([.ref x] ++ [b]) >>= fun v => pure (some v)) (fun r s' => ∃ k, r = some (.bool (!k)) ∧ Q (.bool (!k)) s') E s := by
      refine wpAny_bind (wpAny_mono go (fun v s' hv => ?_) fun _ _ e => e)
      obtain ⟨k, rfl, q⟩ := hv
      exact wpAny_pure ⟨k, rfl, q⟩
    split
    · exact wpAny_bind (wpAny_of_eq (F.cmp_object.ne.bind _) (wpAny_pure (by exact fin)))
    · exact wpAny_tryCatch (wpAny_bind (wpAny_of_eq (F.cmp_object.ne.bind _) (wpAny_pure (by exact fin))))
  have one : wpAny (model prog w) A (tryCompare (.ref x) "__ne__" b) (fun r s' => ∃ v, r = some v ∧ Q v s') E s := by
    unfold tryCompare
    refine wpAny_bind (wpAny_mono bnd (fun r s' hv => ?_) fun _ _ e => e)
    obtain ⟨k, rfl, q⟩ := hv
    exact wpAny_pure ⟨_, rfl, q⟩
  unfold richCompare
  simp only [oneThing_ref]
  refine wpAny_holding (wpAny_bind (wpAny_cRoomFor (by omega) ?_))
  refine wpAny_bind (I.type.here (wpAny_bind (hb.here ?_)))
  split
  · rename_i q
    have e : subIn K tb (.ref C) = some false := by
      rcases Bool.or_eq_true_iff.mp hn with e | e
      · rw [beq_iff_eq.mp e] at q
        simp at q
      · exact beq_iff_eq.mp e
    refine wpAny_bind ((looks_subIn X e).here ?_)
    simp only [Bool.false_eq_true, if_false]
    refine wpAny_bind (wpAny_mono one (fun r s' z => ?_) fun _ _ e => e)
    obtain ⟨v, rfl, hq⟩ := z
    exact wpAny_pure hq
  · refine wpAny_bind (wpAny_pure ?_)
    simp only [Bool.false_eq_true, if_false]
    refine wpAny_bind (wpAny_mono one (fun r s' z => ?_) fun _ _ e => e)
    obtain ⟨v, rfl, hq⟩ := z
    exact wpAny_pure hq
end
end MyD
end PySem

namespace L2
open PySem PySem.Spec PyProof.Rows
/-! ### own operators, run -/
section
variable {X : Cx} {pins : List (Addr × Obj)} {σ : St} {H : Hp} {s : Shared} {CI : CXT} {f : Addr} {fd : FuncData} {ps : List Str} {sp : Sp} {EI : XK} {n : Nat} {A1 : Around}
theorem envSub (I : Inv X pins σ H s) (sb : Sub X n A1) : Env0 X.prog X.w X.K X.mg X.base A1 X.stack s H := by
  have e := I.env0
  exact ⟨by rw [sb.fr]; exact e.frames, e.mod, e.bs, e.bsz, e.funs, e.frf, e.hok, e.bare⟩
theorem rv2 (a : Addr) {y : V} {u : Value} (r : RelV y u) : Vals [V.ref a, y] [Value.ref a, u] := .cons rfl (.cons r .nil)
/-- a known def runs somewhere below the body -/
theorem run_sub {xs : List V} {us : List Value} {Q : VK} {base : Heap} (sb : Sub X n A1) (F : FnOk X.prog X.w X.K X.mg base CI n f fd ps sp) (e0 : Env0 X.prog X.w X.K X.mg base A1 X.stack s H) (hb : Binds X.K fd ps []) (hx : Passes CI X EI)
    (I : Inv X pins σ H s) (rv : Vals xs us) (hsp : sp xs H Q EI) : wpAny (model X.prog X.w) A1 (call (.ref f) us) (EP X pins σ Q) X.xe s := by
  have hl := F.len _ _ _ _ hsp
  have hl' : us.length = ps.length := by rw [← rv.length]; exact hl
  refine wpAny_call (codeAny_mono (F.run A1 X.stack s H ⟨us, []⟩ us xs Q EI sb.room e0 (by
    have := hb s us I.kIn (by simpa using hl')
    simpa using this) rv hsp) fun r s' hq => ?_)
  cases r with
  | error e => exact hx pins σ H s e s' I hq
  | ok fl =>
    cases fl with
    | ret u => exact I.after hq
    | next => exact False.elim hq
    | brk => exact False.elim hq
    | cont => exact False.elim hq
/-- a method under its name -/
structure OwnM (K : PySem.W.Frag) (C : Addr) (m : Str) (f : Addr) : Prop where
  at_ : PySem.W.findIn K (.ref C) m = some (some (.ref f))
  fn : PySem.W.isFn K (.ref f) = true
/-- x in o -/
def rInO (C : Addr) (sp : Sp) (E : XK) : R2 := fun x y H Q => ∃ a dx fs, y = .ref a ∧ H a = some (.ins C dx fs) ∧ sp [.ref a, x] H (fun v H' => ∃ b, v = .bl b ∧ Q (.bl b) H') E
theorem op_inO {C : Addr} (hr : Room n X.A) (M : OwnM X.K C "__contains__" f) (F : FnOk X.prog X.w X.K X.mg X.base CI n f fd ps sp) (hb : Binds X.K fd ps []) (hx : Passes CI X EI) : OpR X (compareOp .In) (rInO C sp EI) := by
  intro pins s σ H x y v u Q I rx ry h
  obtain ⟨a, dx, fs, rfl, ha, hsp⟩ := h
  cases ry
  obtain ⟨mA, J, _⟩ := ins_get I.hok ha
  obtain ⟨od, J, _⟩ := J.look
  show wpAny _ _ (contains (.ref a) v >>= fun z => pure (Value.bool z)) _ _ s
  refine wpAny_bind (wpAny_mono (MyD.contains_own (Q := fun b s' => EP X pins σ Q (.bool b) s') I.kIn J M.at_ M.fn ?_) (fun b s' hb => wpAny_pure hb) fun _ _ z => z)
  refine wpAny_mono (run_sub ⟨hr, rfl⟩ F (envSub I ⟨hr, rfl⟩) hb hx I (rv2 a rx) hsp) (fun w s' hq => ?_) fun _ _ z => z
  obtain ⟨z, H', I', rz, b, rfl, q⟩ := hq
  cases rz
  exact ⟨b, rfl, .bl b, H', I', rfl, q⟩
/-- o == y, o an instance with its own __eq__, y anything whose type is not one below o's class -/
def rEqO (K : PySem.W.Frag) (C : Addr) (sp : Sp) (E : XK) : R2 := fun x y H Q => ∃ a dx fs t, x = .ref a ∧ H a = some (.ins C dx fs) ∧ TyX K H y t ∧ PySem.W.notFirst K C t = true ∧ sp [.ref a, y] H (fun v H' => ∃ b, v = .bl b ∧ Q (.bl b) H') E
theorem op_eqO {C : Addr} (hr : Room n X.A) (M : OwnM X.K C "__eq__" f) (F : FnOk X.prog X.w X.K X.mg X.base CI n f fd ps sp) (hb : Binds X.K fd ps []) (hx : Passes CI X EI) : OpR X (compareOp .Eq) (rEqO X.K C sp EI) := by
  intro pins s σ H x y v u Q I rx ry h
  obtain ⟨a, dx, fs, t, rfl, ha, ty, nf, hsp⟩ := h
  cases rx
  obtain ⟨mA, J, _⟩ := ins_get I.hok ha
  obtain ⟨od, J, _⟩ := J.look
  obtain ⟨m, hF⟩ := I.fr
  obtain ⟨P, Z, p, hx'⟩ := kit_of I ry ty
  show wpAny _ _ (richCompare .Eq (.ref a) u) _ _ _
  refine PySem.W.cmp_K (op := .Eq) (tb := t) hr.units0 hF I.ok.mod.kin J (Z.ty _ _ I.kIn p) nf M.at_ M.fn ?_
  refine wpAny_mono (run_sub ⟨hr, rfl⟩ F (envSub I ⟨hr, rfl⟩) hb hx I (rv2 a ry) hsp) (fun w s' hq => ?_) fun _ _ z => z
  obtain ⟨z, H', I', rz, b, rfl, q⟩ := hq
  cases rz
  exact ⟨.bl b, H', I', rfl, q⟩
/-- o != y -/
def rNeO (K : PySem.W.Frag) (C : Addr) (sp : Sp) (E : XK) : R2 := fun x y H Q => ∃ a dx fs t, x = .ref a ∧ H a = some (.ins C dx fs) ∧ TyX K H y t ∧ PySem.W.notFirst K C t = true ∧ sp [.ref a, y] H (fun v H' => ∃ b, v = .bl b ∧ Q (.bl (!b)) H') E
theorem op_neO {C : Addr} (hr : Room (n + 1) X.A) (M : OwnM X.K C "__eq__" f) (hne : PySem.W.findIn X.K (.ref C) "__ne__" = some (some (.builtin "object.__ne__"))) (hob : PySem.W.mroIn X.K C (.type "object") = some true)
    (F : FnOk X.prog X.w X.K X.mg X.base CI n f fd ps sp) (hb : Binds X.K fd ps []) (hx : Passes CI X EI) : OpR X (compareOp .NotEq) (rNeO X.K C sp EI) := by
  intro pins s σ H x y v u Q I rx ry h
  obtain ⟨a, dx, fs, t, rfl, ha, ty, nf, hsp⟩ := h
  cases rx
  obtain ⟨mA, J, _⟩ := ins_get I.hok ha
  obtain ⟨od, J, _⟩ := J.look
  obtain ⟨P, Z, p, hx'⟩ := kit_of I ry ty
  have sb : Sub X n X.A.in1 := Sub.in1 (⟨hr, rfl⟩ : Sub X (n + 1) X.A)
  show wpAny _ _ (richCompare .NotEq (.ref a) u) _ _ _
  refine MyD.ne_own (by have := hr.un; omega) I.kIn J (Z.ty _ _ I.kIn p) nf hne hob M.at_ M.fn ?_
  refine wpAny_mono (run_sub sb F (envSub I sb) hb hx I (rv2 a ry) hsp) (fun w s' hq => ?_) fun _ _ z => z
  obtain ⟨z, H', I', rz, b, rfl, q⟩ := hq
  cases rz
  exact ⟨b, rfl, .bl (!b), H', I', rfl, q⟩
/-- len(o) -/
def rLenO (C : Addr) (sp : Sp) (E : XK) : List V → Hp → VK → Prop := fun xs H Q => ∃ a dx fs, xs = [.ref a] ∧ H a = some (.ins C dx fs) ∧ sp [.ref a] H (fun v H' => ∃ k : Int, v = .int k ∧ 0 ≤ k ∧ k < 2 ^ 63 ∧ Q (.int k) H') E
theorem call_lenO {C : Addr} (hr : Room (n + 1) X.A) (M : OwnM X.K C "__len__" f) (F : FnOk X.prog X.w X.K X.mg X.base CI n f fd ps sp) (hb : Binds X.K fd ps []) (hx : Passes CI X EI) : CallR X (.builtin "len") (rLenO C sp EI) := by
  intro pins s σ H xs us Q I rv h
  obtain ⟨a, dx, fs, rfl, ha, hsp⟩ := h
  obtain ⟨u, rfl, ru⟩ := rv.one
  cases ru
  obtain ⟨mA, J, _⟩ := ins_get I.hok ha
  obtain ⟨od, J, _⟩ := J.look
  obtain ⟨m, hF⟩ := I.fr
  have sb : Sub X n X.A.in1 := Sub.in1 (⟨hr, rfl⟩ : Sub X (n + 1) X.A)
  refine PySem.W.len_K hF I.ok.mod.kin J M.at_ M.fn ?_
  refine wpAny_mono (run_sub sb F (envSub I sb) hb hx I rv hsp) (fun w s' hq => ?_) fun _ _ z => z
  obtain ⟨z, H', I', rz, k, rfl, k0, k1, q⟩ := hq
  obtain ⟨t, rfl⟩ := rz
  exact ⟨⟨k0, k1⟩, .int k, H', I'.tok _, ⟨_, rfl⟩, q⟩
end
end L2

namespace L2
open PySem PySem.Spec PyProof.Rows
/-! ### a base with room behind it: what is not in it is young -/
def deadO : Obj := ⟨.none, none, .freed, #[]⟩
def padB (h : Heap) (n : Nat) : Heap := ⟨h.objs ++ Array.replicate n deadO, h.life⟩
theorem padB_get (h : Heap) (n : Nat) (b : Addr) : (padB h n).get? b = h.get? b := by
  by_cases k : b < h.objs.size
  · have e : (padB h n).objs[b]? = h.objs[b]? := by show (h.objs ++ Array.replicate n deadO)[b]? = _; rw [Array.getElem?_append_left k]
    unfold Heap.get?
    rw [e]
  · have e : h.get? b = none := by
      unfold Heap.get?
      rw [Array.getElem?_eq_none (Nat.le_of_not_lt k)]
    rw [e]
    unfold Heap.get?
    have e2 : (padB h n).objs[b]? = (Array.replicate n deadO)[b - h.objs.size]? := by
      show (h.objs ++ Array.replicate n deadO)[b]? = _
      rw [Array.getElem?_append_right (Nat.le_of_not_lt k)]
    rw [e2, Array.getElem?_replicate]
    split
    · rename_i q
      split at q
      · cases q; rfl
      · cases q
    · rename_i q
      split at q
      · exact absurd rfl (q _ _ _)
      · rw [if_neg (by assumption)]
theorem padB_size (h : Heap) (n : Nat) : (padB h n).objs.size = h.objs.size + n := by
  show (h.objs ++ Array.replicate n deadO).size = _
  rw [Array.size_append, Array.size_replicate]
theorem padB_keeps (h : Heap) (n : Nat) : ∀ b o, h.get? b = some o → (padB h n).get? b = some o := fun b o e => by rw [padB_get]; exact e
theorem Mod.pad {K : PySem.W.Frag} {mg : Str → Option Value} {base : Heap} (m : Mod K mg base) (n : Nat) : Mod K mg (padB base n) :=
  ⟨fun a o e => padB_keeps _ _ _ _ (m.kin a o e), m.glob.keeps (padB_keeps _ _), m.blt.elim fun mb h => ⟨mb, h.1.keeps (padB_keeps _ _), h.2⟩, m.nolimit.keeps (padB_keeps _ _)⟩
theorem funFrames_pad {h base : Heap} (n : Nat) : ∀ {l : List Env}, h.FunFrames base l → h.FunFrames (padB base n) l
  | [], _ => True.intro
  | _ :: _, ⟨a, ⟨L, o, e1, e2, e3⟩, r⟩ => ⟨a, ⟨L, o, e1, by rw [padB_get]; exact e2, e3⟩, funFrames_pad n r⟩
theorem Env0.pad {P : Program} {w : World} {K : PySem.W.Frag} {mg : Str → Option Value} {base : Heap} {A : Around} {outer : List Env} {s : Shared} {H : Hp} (e : Env0 P w K mg base A outer s H) {n : Nat} (hn : base.objs.size + n ≤ s.heap.objs.size) :
    Env0 P w K mg (padB base n) A outer s H := ⟨e.frames, e.mod.pad n, fun b o q => e.bs b o (by rw [padB_get] at q; exact q), by rw [padB_size]; exact hn, funFrames_pad n e.funs, e.frf, e.hok, e.bare⟩
/-! ### iter(tuple) as a value -/
def itT (l : Addr) (i : Nat) : Obj := { cls := .type "tuple_iterator", data := .fields #[.ref l, .int i 0] }
def ItoT (l it : Addr) : HO := .ext fun h => h.get? it = some (itT l 0)
theorem itoT_ok {P : Program} {w : World} {H : Hp} {h : Heap} {l it : Addr} (e : h.get? it = some (itT l 0)) : ObjOk P w H h it (ItoT l it) := ⟨e, ⟨_, e⟩, fun h1 h2 q k => k _ q⟩
def rIterT (K : PySem.W.Frag) (n : Nat) : List V → Hp → VK → Prop := fun xs H Q => ∃ (l : Addr) (zs : List V), xs = [.ref l] ∧ SqT K H l zs ∧ ∀ it, H it = Option.none → n ≤ it → Q (.ref it) (upd H it (ItoT l it))
section
variable {X : Cx} {pins : List (Addr × Obj)} {σ : St} {H : Hp} {s : Shared}
theorem call_iter_tup {prog : Program} {w : World} {A : Around} {E : Value → Shared → Prop} {l : Addr} {items : Array Value} {Q : Value → Shared → Prop} (hl : s.heap.IsTuple l items) (h : Q (.ref s.heap.objs.size) { s with heap := s.heap.push (itT l 0) }) : wpAny (model prog w) A (call (.builtin "iter") [.ref l]) Q E s := by
  refine Calls.call_function_entry (by decide +kernel) (by decide +kernel) PySem.W.kdk_entry_iter (PySem.W.kdk_args_iter _) ?_
  unfold Builtin.«iter»
  refine wpAny_bind (m := someArgs "iter" 1 2 _) (wpAny_of_eq (a := [Value.ref l]) (by first | rfl | kernel_rfl!) ?_)
  show wpAny _ _ (pyIter (.ref l) >>= _) _ _ _
  refine wpAny_bind (wpAny_pyIter_tuple hl ?_)
  exact wpAny_pure ⟨_, rfl, h⟩
theorem call_iterT : CallR X (.builtin "iter") (rIterT X.K X.base.objs.size) := by
  intro pins s σ H xs us Q I r h
  obtain ⟨l, zs, rfl, hq, q⟩ := h
  obtain ⟨u, rfl, ru⟩ := vals1 r
  cases ru
  obtain ⟨its, rv, pl, hz⟩ := I.tuple hq
  refine call_iter_tup (show s.heap.IsTuple l its.toArray from pl) ?_
  exact ⟨.ref s.heap.objs.size, _, I.laid (t' := s.toks) (fun b u e => Heap.get?_push_of_some _ e) (Nat.le_refl _) (itoT_ok (Heap.get?_push_size _ rfl)), rfl, q _ (I.hok.fresh (Nat.le_refl _)) (Nat.le_trans I.ok.bsz I.sz)⟩
theorem rv1 (a : Addr) : Vals [V.ref a] [Value.ref a] := .cons rfl .nil
/-! ### walked: an instance whose __iter__ gives iter(tuple) -/
/-- what __iter__ promises: N of the instance is a tuple at l -/
def spIter (K : PySem.W.Frag) (C : Addr) (N : Str) (n : Nat) : Sp := fun vs H Q _ => ∃ a dx fs l zs, vs = [.ref a] ∧ H a = some (.ins C dx fs) ∧ fs.lookup N = some (.ref l) ∧ SqT K H l zs ∧ ∀ it, H it = none → n ≤ it → Q (.ref it) (upd H it (ItoT l it))
def iOwn (K : PySem.W.Frag) (C : Addr) (N : Str) (te : TE) : TI := fun σ H R => te σ H fun x H1 => ∃ a dx fs l zs, x = .ref a ∧ H1 a = some (.ins C dx fs) ∧ fs.lookup N = some (.ref l) ∧ SqT K H1 l zs ∧ R (Itt K l) H1
variable {tg e : Expr} {te : TE} {C f : Addr} {fd : FuncData} {N : Str} {ps : List Str} {n : Nat}
theorem pi_own (hr : Room n X.A) (M : OwnM X.K C "__iter__" f) (Fi : ∀ base, FnOk X.prog X.w X.K X.mg base CX0 n f fd ps (spIter X.K C N base.objs.size)) (hb : Binds X.K fd ps []) (he : PE X e te) : PI X tg e (iOwn X.K C N te) := by
  refine ⟨fun pins s σ H R I h => ?_⟩
  refine thn (he.run pins s σ H _ I h) fun v s1 ⟨x, H1, I1, r1, q1⟩ => ?_
  obtain ⟨a, dx, fs, l, zs, rfl, ha, hf, hl, q⟩ := q1
  cases r1
  obtain ⟨mA, J, _⟩ := ins_get I1.hok ha
  obtain ⟨od, J, _⟩ := J.look
  obtain ⟨m, hF⟩ := I1.fr
  have sb : Sub X n X.A := ⟨hr, rfl⟩
  refine PySem.W.owit_iter hF I1.ok.mod.kin J M.at_ M.fn ?_
  have hsz : X.base.objs.size + (X.s_0.heap.objs.size - X.base.objs.size) = X.s_0.heap.objs.size := by have := I1.ok.bsz; omega
  have e0 := (envSub I1 sb).pad (n := X.s_0.heap.objs.size - X.base.objs.size) (by rw [hsz]; exact I1.sz)
  refine wpAny_mono (run_sub (Q := fun v H' => ∃ it, v = .ref it ∧ H1 it = none ∧ X.s_0.heap.objs.size ≤ it ∧ H' = upd H1 it (ItoT l it)) sb (Fi _) e0 hb (EI := fun _ _ _ => False) pass0 I1 (rv1 a) ⟨a, dx, fs, l, zs, rfl, ha, hf, hl, fun it h1 h2 => ⟨it, rfl, h1, by rw [padB_size, hsz] at h2; exact h2, rfl⟩⟩) (fun w s' hq => ?_) fun _ _ z => z
  obtain ⟨z, H', I', rz, it, rfl, hn, hy, rfl⟩ := hq
  cases rz
  have hit : upd H1 it (ItoT l it) it = some (ItoT l it) := upd_same
  have eo : s'.heap.get? it = some (itT l 0) := (I'.hok it _ hit).1
  have st : s'.heap.IsTupleIter it l 0 := ⟨_, eo, rfl, rfl⟩
  unfold PySem.W.OwitIt
  refine wpAny_specialOf st.typeIs PySem.F.slot_tuple_iterator_next.lookup ?_
  have hd : ItX.dropH (upd H1 it (ItoT l it)) it = H1 := ItX.dropH_upd hn
  have I2 := ItX.inv_drop I' (a := it) (φ := fun h => h.get? it = some (itT l 0)) hit
  have fp := ItX.inv_fp I' hit hy
  rw [hd] at I2 fp
  refine ⟨it, [it], _, _, H1, rfl, I2, turn_tuple l it, st, fun b hb => ?_, q⟩
  have e : b = it := by simpa using hb
  rw [e]
  exact fp
end
end L2

namespace PySem
namespace MyE
open PySem.W
/-- enumerate(v), one argument -/
theorem new1 {v : Value} {o : Obj} {H : Heap → Prop} (B : Begins v o H) :
    Meets (Builtin.«enumerate.__new__» ⟨[.type "enumerate", v], []⟩) (fun _ R s => H s.heap ∧
      R (.ok (.ret (.ref (s.heap.push o).objs.size))) { s with heap := (s.heap.push o).push { cls := .type "enumerate", data := .fields #[.none, .bool false, .ref s.heap.objs.size, rawInt 0, .none, .none] } }) :=
  .of_wp fun P1 w1 A1 R1 s1 z => by
    obtain ⟨hp, gs, dr, tk, oz⟩ := s1
    obtain ⟨z1, z2⟩ := z
    have subE := sub_enumerate
    have its : ∀ {A' : Around} {E : Value → Shared → Prop} {Q : Value → Shared → Prop}, Q (.ref hp.objs.size) ⟨hp.push o, gs, dr, tk, oz⟩ → wpAny (model P1 w1) A' (pyIter v) Q E ⟨hp, gs, dr, tk, oz⟩ :=
      fun q => B.iter P1 w1 _ _ ⟨hp, gs, dr, tk, oz⟩ _ z1 q
    wp_walk using its
    refine wpAny_stack_any fun _ => wpAny_pure ?_
    split
    · rename_i c _ _ _ _ _
      cases (c == Value.type "enumerate") <;> (wp_walk using its; exact ⟨_, rfl, z2⟩)
    · wp_walk using its
      exact ⟨_, rfl, z2⟩
theorem call1 {prog : Program} {w : World} {A : Around} {E : Value → Shared → Prop} {s : Shared} {v : Value} {o : Obj} {H : Heap → Prop} {Q : Value → Shared → Prop} (B : Begins v o H) (h1 : H s.heap)
    (h : ∀ h', IsEnum h' (s.heap.objs.size + 1) s.heap.objs.size 0 .none → h'.get? s.heap.objs.size = some o → (∀ b u, s.heap.get? b = some u → h'.get? b = some u) → Q (.ref (s.heap.objs.size + 1)) { s with heap := h' }) :
    wpAny (model prog w) A (call (.type "enumerate") [v]) Q E s := by
  refine callType_new F.called_enumerate (by decide) (F.typeCall_enumerate_1 _) (F.newCall_enumerate_1 _) (fun obj => F.args_object_init_2 obj _) F.entry_enumerate_new (new1 B) ⟨h1, ?_⟩
  have hz : (s.heap.push o).objs.size = s.heap.objs.size + 1 := Heap.size_push ..
  have he := Heap.get?_push_size (s.heap.push o) (o := { cls := .type "enumerate", data := .fields #[.none, .bool false, .ref s.heap.objs.size, rawInt 0, .none, .none] }) rfl
  show _ ∧ _
  rw [hz] at he ⊢
  exact ⟨⟨_, he, rfl⟩, h _ he (Heap.get?_push_of_some _ (Heap.get?_push_size _ B.free)) fun b u x => Heap.get?_push_of_some _ (Heap.get?_push_of_some _ x)⟩
end MyE
end PySem
namespace L2
open PySem PySem.Spec PyProof.Rows
/-! ### enumerate(tuple) -/
def IteT (K : PySem.W.Frag) (a : Addr) : It :=
  ⟨fun i H => ∃ (xs : List V) (x : V), SqT K H a xs ∧ xs[i]? = some x, fun i H v H' => ∃ T x, v = .ref T ∧ H T = none ∧ H' = upd H T (.tup [.int (i : Nat), x]) ∧ ∀ xs, SqT K H a xs → xs[i]? = some x, fun i H => ∃ xs : List V, SqT K H a xs ∧ xs.length = i⟩
theorem enum_ne {h : Heap} {e it l : Addr} {i : Int} {old : Value} {items : Array Value} (he : IsEnum h e it i old) (hl : h.IsTuple l items) : l ≠ e := fun z => by
  obtain ⟨o, ho, _, n, hd⟩ := hl
  rw [z, he] at ho
  cases ho
  cases hd
theorem iterT_ne {h : Heap} {it l : Addr} {i : Nat} {items : Array Value} (hi : h.IsTupleIter it l i) (hl : h.IsTuple l items) : l ≠ it := fun z => by
  obtain ⟨o, ho, _, n, hd⟩ := hl
  obtain ⟨o2, ho2, _, hd2⟩ := hi
  rw [z, ho2] at ho
  cases ho
  rw [hd2] at hd
  cases hd
theorem turn_enumT {P : Program} {w : World} {K : PySem.W.Frag} {elts : List Expr} {kk : Nat} {tpos : Pos} (a e it : Addr) :
    Turn P w K (.Tuple elts kk tpos) (IteT K a) [e, it] e (fun i h => (∃ old, IsEnum h e it ((i : Nat) : Int) old) ∧ h.IsTupleIter it a i ∧ e ≠ it) where
  mem := List.mem_cons_self
  obj := fun i h st b hb => by
    obtain ⟨⟨old, he⟩, ⟨o, ho, hc, hd⟩, _⟩ := st
    rcases List.mem_cons.mp hb with rfl | hb
    · exact ⟨_, he, fun v q => nomatch q⟩
    · rw [List.mem_singleton.mp hb]
      exact ⟨o, ho, fun v q => by rw [hd] at q; cases q⟩
  keep := fun i h h' st k => ⟨st.1.elim fun old z => ⟨old, k e List.mem_cons_self _ z⟩, st.2.1.at fun o q => k it (List.mem_cons_of_mem _ List.mem_cons_self) o q, st.2.2⟩
  item := by
    intro X hP hw hK hc i pins s σ H E I hf st hg
    subst hP hw hK
    obtain ⟨⟨old, he⟩, hit, hne⟩ := st
    obtain ⟨xs, x, hq, hx⟩ := hg
    obtain ⟨its, rv, p, hz⟩ := I.tuple hq
    obtain ⟨u, hu, ru⟩ := rv.get hx
    have pt : s.heap.IsTuple a its.toArray := p
    have hel : e < s.heap.objs.size := Heap.lt_size he
    have hlen : i < its.toArray.size := by
      rw [List.size_toArray]
      exact (List.getElem?_eq_some_iff.mp hu).1
    refine wpAny_pyNext_enum_itemD (Draws.tuple (A := X.A.in1) (I.ok.hd hc) it a (iterT_ne hit pt) its.toArray) he ⟨hit, pt⟩ hlen hne (by
      intro z
      rcases List.mem_cons.mp z with z | z
      · exact hne z
      · exact enum_ne he pt (List.mem_singleton.mp z).symm) fun y h' tk hy ho hit' hT hsz hk => ?_
    have ey : y = u := by
      rw [List.getElem?_toArray, hu] at hy
      exact (Option.some.inj hy).symm
    subst ey
    refine ⟨_, rfl, wpAny_letOwnedTupleGo_enum (s := { s with heap := h', toks := tk + 1 }) ho fun h'' he' sb => ?_⟩
    have hT2 : h''.get? s.heap.objs.size = some { cls := .type "tuple", data := .seq #[.int i tk, y] } := (sb.2 _ (Nat.ne_of_gt hel)).trans hT
    have new : ObjOk X.prog X.w (upd H s.heap.objs.size (.tup [.int (i : Nat), x])) h'' s.heap.objs.size (.tup [.int (i : Nat), x]) :=
      ⟨Nat.le_of_ble_eq_true rfl, [.int i tk, y], .cons ⟨_, rfl⟩ (.cons ru .nil), ⟨_, hT2, rfl, _, rfl⟩⟩
    have I1 : Inv X pins σ (upd H s.heap.objs.size (.tup [.int (i : Nat), x])) { s with heap := h'', toks := tk + 1 } :=
      I.turnedNew (ch := [e, it]) (fun b ob hb q => (sb.2 b (fun z => hb (by simp [z]))).trans (hk b ob (fun z => hb (by simp [z])) (fun z => hb (by simp [z])) q)) hf (Nat.le_refl _) new
    have hfr : H s.heap.objs.size = none := I.hok.fresh (Nat.le_refl _)
    refine ⟨.ref s.heap.objs.size, _, I1, rfl, ⟨_, x, rfl, hfr, rfl, fun ys hy => by rw [I.tuple_inj hy hq]; exact hx⟩, ⟨⟨y, ?_⟩, hit'.1.at fun o q => (sb.2 it (Ne.symm hne)).trans q, hne⟩, fun b hb => ?_⟩
    · have e1 : ((i + 1 : Nat) : Int) = (i : Int) + 1 := by omega
      rw [e1]
      exact he'
    · have bl : b < s.heap.objs.size := by
        rcases List.mem_cons.mp hb with rfl | hb
        · exact hel
        · rw [List.mem_singleton.mp hb]
          obtain ⟨_, z, _⟩ := hit
          exact Heap.lt_size z
      rw [upd_ne (Nat.ne_of_lt bl)]
      exact (hf b hb).1
  done := by
    intro X hP hw hK hc i pins s σ H E I hf st hg
    subst hP hw hK
    obtain ⟨⟨old, he⟩, hit, hne⟩ := st
    obtain ⟨xs, hq, hx⟩ := hg
    obtain ⟨its, rv, p, hz⟩ := I.tuple hq
    obtain ⟨f0, f1, f2, f3, f4, f5⟩ := hf it (List.mem_cons_of_mem _ List.mem_cons_self)
    have pt : s.heap.IsTuple a its.toArray := p
    have hn : its.toArray.size = i := by
      rw [List.size_toArray, ← rv.length]
      exact hx
    exact wpAny_pyNext_enum_endD (Draws.tuple (A := X.A.in1) (I.ok.hd hc) it a (iterT_ne hit pt) its.toArray) he (by rw [hn]; exact ⟨hit, pt⟩) fun h' eb => ⟨rfl, I.turned (t' := s.toks) (fun b o hb q => eb b o hb q) f0 f1 f3 f4 f5⟩
  self := fun A i s Q E st h => st.1.elim fun _ he => wpAny_pyIter_enum he h
def iEnumT (K : PySem.W.Frag) (ta : TA) : TI := fun σ H R => ta σ H fun vs H1 => ∃ a xs, vs = [.ref a] ∧ SqT K H1 a xs ∧ R (IteT K a) H1
/-- enumerate of a list or of a tuple -/
def iEnumS (K : PySem.W.Frag) (ta : TA) : TI := fun σ H R => ta σ H fun vs H1 => ∃ a xs, vs = [.ref a] ∧ ((SqL K H1 a xs ∧ R (Ite K a) H1) ∨ (SqT K H1 a xs ∧ R (IteT K a) H1))
theorem pi_enumS {X : Cx} {e : Expr} {ta : TA} {p pos tpos : Pos} {elts : List Expr} {kk : Nat} (hg : Gl X "enumerate") (hm : X.mg "enumerate" = none) (ha : PA X [e] ta) (hs : starEach [e] X.env = [(false, eval e X.env)] := by rfl) :
    PI X (.Tuple elts kk tpos) (.Call (.Name "enumerate" p) [e] [] pos) (iEnumS X.K ta) := by
  refine ⟨fun pins s σ H R I h => ?_⟩
  refine Call_ (ld_blt I hg hm boot_enumerate (PyProof.Rows.callWith_type1 (thn (ha.run pos pins s σ H _ I h) fun us s1 ⟨vs, H1, I1, r1, q1⟩ => ?_) hs rfl))
  obtain ⟨a, xs, rfl, q⟩ := q1
  obtain ⟨u, rfl, ru⟩ := r1.one
  cases ru
  have young : ∀ b, b ∈ [s1.heap.objs.size + 1, s1.heap.objs.size] → s1.heap.objs.size ≤ b := fun b hb => by
    rcases List.mem_cons.mp hb with z | z
    · rw [z]; exact Nat.le_add_right _ _
    · rw [List.mem_singleton.mp z]; exact Nat.le_refl _
  rcases q with ⟨hq, q⟩ | ⟨hq, q⟩
  · obtain ⟨its, rv, p', hz⟩ := I1.list hq
    refine MyE.call1 (begins_list a its.toArray) p'.isList fun h' he hit hk => wpAny_pyIter_enum he ?_
    exact ⟨s1.heap.objs.size + 1, [s1.heap.objs.size + 1, s1.heap.objs.size], _, _, H1, rfl, I1.kept (t' := s1.toks) hk, turn_enum a (s1.heap.objs.size + 1) s1.heap.objs.size, ⟨⟨.none, he⟩, ⟨_, hit, rfl, rfl⟩, Nat.succ_ne_self _⟩, fun b hb => I1.fpOk (young b hb) (I1.hok.fresh (young b hb)), q⟩
  · obtain ⟨its, rv, p', hz⟩ := I1.tuple hq
    refine MyE.call1 (begins_tuple a its.toArray) (show s1.heap.IsTuple a its.toArray from p') fun h' he hit hk => wpAny_pyIter_enum he ?_
    exact ⟨s1.heap.objs.size + 1, [s1.heap.objs.size + 1, s1.heap.objs.size], _, _, H1, rfl, I1.kept (t' := s1.toks) hk, turn_enumT a (s1.heap.objs.size + 1) s1.heap.objs.size, ⟨⟨.none, he⟩, ⟨_, hit, rfl, rfl⟩, Nat.succ_ne_self _⟩, fun b hb => I1.fpOk (young b hb) (I1.hok.fresh (young b hb)), q⟩
theorem walk_enumT {K : PySem.W.Frag} {a : Addr} {xs : List V} : Walk (IteT K a) xs.length (fun H => SqT K H a xs) (YPair (fun i => some (.int (i : Nat))) (fun i => xs[i]?)) := by
  refine ⟨fun i _ hi q => ⟨xs, xs[i], q, by simp [hi]⟩, fun _ q => ⟨xs, q, rfl⟩, fun i H v H' _ q y => ?_⟩
  obtain ⟨T, x, h1, h2, h3, h4⟩ := y
  exact ⟨T, .int (i : Nat), x, h1, h2, h3, rfl, h4 xs q⟩
end L2

namespace L2
open PySem
theorem SqT.extX {K : PySem.W.Frag} {H H' : Hp} {a : Addr} {xs : List V} (h : SqT K H a xs) (e : Ext H H') : SqT K H' a xs := SqT.ext h e
theorem TyX.ext {K : PySem.W.Frag} {H H' : Hp} {x : V} {t : Value} (h : TyX K H x t) (e : Ext H H') : TyX K H' x t := by
  cases h with
  | base h =>
    refine .base ?_
    cases h with
    | non => exact .non
    | bl x => exact .bl x
    | int i => exact .int i
    | str x => exact .str x
    | flt x => exact .flt x
    | lst z => exact .lst (e _ _ z)
    | frz z => exact .frz (e _ _ z)
    | tup z => exact .tup (e _ _ z)
    | dK z => exact .dK (e _ _ z)
    | dT z => exact .dT (e _ _ z)
    | ins z a b c d f => exact .ins (e _ _ z) a b c d f
  | byt b => exact .byt b
  | set z => exact .set (e _ _ z)
  | kList z c => exact .kList z c
  | kTuple z c => exact .kTuple z c
  | kDict z c => exact .kDict z c
  | fTuple z => exact .fTuple (e _ _ z)
  | fDict z => exact .fDict (e _ _ z)
/-- a place that was free may be written -/
theorem Ext.over {H H' : Hp} {D : Addr} {o : HO} (x : Ext H H') (h : H D = none) : Ext H (L2.upd H' D o) := fun a u e => by
  rw [upd_ne (ne_of_none e h)]
  exact x a u e
theorem tyx_lst {K : PySem.W.Frag} {H : Hp} {a : Addr} {xs : List V} (h : H a = some (.lst xs)) : TyX K H (.ref a) (.type "list") := .base (.lst h)
theorem tyx_tup {K : PySem.W.Frag} {H : Hp} {a : Addr} {xs : List V} (h : H a = some (.tup xs)) : TyX K H (.ref a) (.type "tuple") := .base (.tup h)
end L2
namespace My
open PySem PySem.Spec PyProof.Rows L2
theorem scIsList : FnScope ["thing"] ["thing"] (defScope sIsList) := ⟨rfl, rfl, rfl, by decide +kernel, rfl, by decide +kernel, by decide +kernel⟩
theorem scIsName : FnScope ["thing", "letter"] ["thing"] (defScope sIsName) := ⟨rfl, rfl, rfl, by decide +kernel, rfl, by decide +kernel, by decide +kernel⟩
theorem lcYes {σ : L2.St} {H : Hp} {A B : Hp → Prop} (h : A H) : tYes σ H (fun b H3 => if b = true then A H3 else B H3) := by
  show (if true = true then A H else B H)
  rw [if_pos rfl]
  exact h
def letters : Str := "abcdefghijklmnopqrstuvwxyz"
def signB (z : Str) : List Bool := z.cps.toList.map fun c => decide (c ∈ letters.cps.toList)
theorem sign_snoc {z : Str} {i c : Nat} (h : z.cps[i]? = some c) : (signB z).take i ++ [decide (c ∈ letters.cps.toList)] = (signB z).take (i + 1) := by
  have e : (signB z)[i]? = some (decide (c ∈ letters.cps.toList)) := by
    unfold signB
    rw [List.getElem?_map, Array.getElem?_toList, h]
    rfl
  rw [List.take_add_one, e]
  rfl
def nameB (z : Str) : Bool := decide ((1 : Int) ≤ z.length) && (decide ((z.length : Int) ≤ 8) && (signB z).all id)
/-- isinstance(x, (list, tuple)) -/
def spIsList (K : PySem.W.Frag) : Sp := fun vs H Q _ => ∃ x t b, vs = [x] ∧ TyX K H x t ∧ PySem.W.kitAny K t [.type "list", .type "tuple"] = some b ∧ ∀ H', Ext H H' → Q (.bl b) H'
/-- whether x is a name -/
def spIsName (K : PySem.W.Frag) : Sp := fun vs H Q _ => ∃ x, vs = [x] ∧ ((∃ z, x = .str z ∧ z.length ≤ sizeLine ∧ ∀ H', Ext H H' → Q (.bl (nameB z)) H') ∨ (∃ t, TyX K H x t ∧ PySem.W.kitOne K t (.type "str") = some false ∧ ∀ H', Ext H H' → Q (.bl false) H'))
section
variable {P : Program} {w : World} {K : PySem.W.Frag} {mg : Str → Option Value} {base : Heap} {f : Addr} {fd : FuncData}
theorem ok_isList (Fn : FnP K "is_list" sIsList f fd) (gI : mg "isinstance" = none) (gL : mg "list" = none) (gT : mg "tuple" = none) : FnOk P w K mg base CX0 1 f fd ["thing"] (spIsList K) := by
  refine Fn.ok scIsList (fun vs H Q E h => ?_) (fun cdv A outer s H vs Q E hr h => ⟨_, PSs.nox
    (pss_one (ps_ret (pe_callB call_isiT (by rfl) gI boot_isinstance (pa_cons (pv 0) (pa_cons (pe_tup (pa_cons (pe_bltn (v := .ty "list") (by rfl) gL boot_list rfl) (pa_cons (pe_bltn (v := .ty "tuple") (by rfl) gT boot_tuple rfl) pa_nil))) pa_nil))))), ?_⟩)
  · obtain ⟨x, t, b, rfl, _⟩ := h
    rfl
  · obtain ⟨x, t, b, rfl, ty, kt, q⟩ := h
    exact ⟨_, rfl, Nat.le_of_ble_eq_true rfl, fun p hp => ⟨x, p, [.ty "list", .ty "tuple"], t, _, b, rfl, upd_same, .cons (.ty _) (.cons (.ty _) .nil), ty.ext (Ext.upd hp), kt, q _ (Ext.upd hp)⟩⟩
theorem ok_isName (Fn : FnP K "is_name" sIsName f fd) (gI : mg "isinstance" = none) (gS : mg "str" = none) (gN : mg "len" = none) (gA : mg "all" = none) {t8 tL : Tok} (g8 : mg "LONGEST" = some (.int 8 t8)) (gL : mg "LETTERS" = some (.str letters tL)) :
    FnOk P w K mg base CX0 1 f fd ["thing"] (spIsName K) := by
  refine Fn.ok scIsName (fun vs H Q E h => ?_) (fun cdv A outer s H vs Q E hr h => ⟨_, PSs.nox
    (pss_cons (ps_if (PW.pt (pw_or (pt_not (pt_val (pe_callB call_isi (by rfl) gI boot_isinstance (pa_cons (pv 0) (pa_cons (pe_bltn (v := .ty "str") (by rfl) gS boot_str rfl) pa_nil)))))
        (pw_or1 (pt_not (pt_chain op_le op_le pe_int (pe_callB call_len (by rfl) gN boot_len (pa_cons (pv 0) pa_nil)) (pe_glob (v := .int 8) (by rfl) g8 ⟨_, rfl⟩)))))) (pss_one (ps_ret pe_bl)) pss_nil)
    (pss_one (ps_ret (pe_callB (cr_all rfl) (by rfl) gA boot_all (pa_cons (pe_lc (own := [("letter", 1)]) (g := gName 1) (tt := tYes) rfl scIsName.nd (pi_str (pv 0)) (blkOk_by (N := ["thing", "letter"]) (sc := defScope sIsName) (by decide +kernel))
      (fun _ _ _ _ _ => pg_name (i := 1) scIsName.nd rfl (Or.inl rfl)) (fun _ _ _ _ _ => pts_nil) (fun _ _ _ _ _ => pe_cmpR op_in_sign (pv 1) (pe_glob (v := .str letters) (by rfl) gL ⟨_, rfl⟩) (by rfl))) pa_nil))))), ?_⟩)
  · obtain ⟨x, rfl, _⟩ := h
    rfl
  · obtain ⟨x, rfl, h⟩ := h
    rcases h with ⟨z, rfl, hz, q⟩ | ⟨t, ty, kt, q⟩
    · refine ⟨_, rfl, .str z, .ty "str", .type "str", .type "str", true, rfl, .ty _, .base (.str _), kit_ty (by decide +kernel), true, rfl, ?_⟩
      refine iteF ?_
      refine ⟨_, rfl, .str z, z.length, rfl, ⟨hz, rfl⟩, _, _, rfl, rfl, _, rfl, ?_⟩
      refine ite2 (fun h1 => ?_) (fun h1 => ?_)
      · refine ⟨_, _, rfl, rfl, _, rfl, ?_⟩
        refine ite2 (fun h2 => ?_) (fun h2 => ?_)
        · have h2' : (!decide ((z.length : Int) ≤ 8)) = true := h2
          have q1 := q H Ext.rfl'
          have e : nameB z = false := by
            unfold nameB
            rw [show decide ((z.length : Int) ≤ 8) = false by simpa using h2', Bool.false_and, Bool.and_false]
          rw [e] at q1
          exact q1
        · have e2 : decide ((z.length : Int) ≤ 8) = true := by simpa using h2
          have e1 : decide ((1 : Int) ≤ z.length) = true := h1
          refine ⟨_, rfl, _, rfl, fun D hD => lc_it (walk_str (z := z)) (fun i H' => Ext H H' ∧ H' D = some (.lst (((signB z).take i).map V.bl))) ⟨Ext.upd hD, upd_same⟩ (fun _ _ _ _ => True.intro) ?_ ?_⟩
          · intro i x H1 H2 hi ⟨x1, l1⟩ hy
            obtain ⟨rfl, c, hc, rfl⟩ := hy
            refine ⟨rfl, ?_⟩
            refine lcYes ?_
            refine ⟨_, rfl, c, letters, rfl, rfl, _, l1, ?_, ?_, ?_⟩
            · rw [List.length_map, List.length_take]
              exact Nat.lt_of_le_of_lt (Nat.min_le_left _ _) (Nat.lt_of_lt_of_le hi hz)
            · exact x1.over hD
            · rw [upd_same, ← sign_snoc hc, List.map_append]
              rfl
          · intro H1 ⟨x1, l1⟩
            refine ⟨D, signB z, rfl, ?_, ?_⟩
            · have e : (signB z).take z.cps.size = signB z := by
                rw [List.take_of_length_le]
                unfold signB
                rw [List.length_map, Array.length_toList]
                exact Nat.le_refl _
              rw [e] at l1
              exact SqL.of l1
            · have e : nameB z = (signB z).all id := by
                unfold nameB
                rw [e1, e2, Bool.true_and, Bool.true_and]
              rw [← e]
              exact q H1 x1
      · have e1 : decide ((1 : Int) ≤ z.length) = false := by simpa using h1
        have e : nameB z = false := by
          unfold nameB
          rw [e1, Bool.false_and]
        have q1 := q H Ext.rfl'
        rw [e] at q1
        exact ⟨_, rfl, q1⟩
    · refine ⟨_, rfl, x, .ty "str", t, .type "str", false, rfl, .ty _, ty, kt, false, rfl, ?_⟩
      exact q _ Ext.rfl'
end
end My

namespace My
open PySem PySem.Spec PyProof.Rows L2
theorem scWrongName : FnScope ["things", "at", "thing"] ["things"] (defScope sWrongName) := ⟨rfl, rfl, rfl, by decide +kernel, rfl, by decide +kernel, by decide +kernel⟩
/-- what may be told to is_name -/
def Thing (K : PySem.W.Frag) (H : Hp) (x : V) : Prop := (∃ z, x = .str z ∧ z.length ≤ sizeLine) ∨ ((∀ z, x ≠ .str z) ∧ ∃ t, TyX K H x t ∧ PySem.W.kitOne K t (.type "str") = some false)
theorem Thing.ext {K : PySem.W.Frag} {H H' : Hp} {x : V} (h : Thing K H x) (e : Ext H H') : Thing K H' x := by
  rcases h with h | ⟨n, t, ty, k⟩
  · exact .inl h
  · exact .inr ⟨n, t, ty.ext e, k⟩
def nameV : V → Bool
  | .str z => nameB z
  | _ => false
theorem nameV_flat {x : V} (h : nameV x = true) : flatV x = true := by
  cases x <;> first | rfl | exact absurd (show false = true from h) Bool.false_ne_true
/-- the i-th is no name or stood before -/
def badAt (xs : List V) (i : Nat) : Bool := match xs[i]? with
  | some y => !nameV y || inV y (xs.take i)
  | none => false
def SeqAt2 (K : PySem.W.Frag) (H : Hp) (a : Addr) (xs : List V) : Prop := SqL K H a xs ∨ SqT K H a xs
theorem SeqAt2.ext {K : PySem.W.Frag} {H H' : Hp} {a : Addr} {xs : List V} (h : SeqAt2 K H a xs) (e : Ext H H') : SeqAt2 K H' a xs := h.elim (fun z => .inl (z.ext e)) fun z => .inr (z.ext e)
/-- the first wrong one's place | None -/
def spWrongName (K : PySem.W.Frag) : Sp := fun vs H Q _ => ∃ a xs, vs = [.ref a] ∧ SeqAt2 K H a xs ∧ (∀ y ∈ xs, Thing K H y) ∧ (∀ H', Ext H H' → (∀ i, i < xs.length → badAt xs i = false) → Q .non H') ∧
  ∀ i H', Ext H H' → i < xs.length → badAt xs i = true → (∀ j, j < i → badAt xs j = false) → Q (.int (i : Nat)) H'
theorem cut_take {xs : List V} {i : Nat} (h : i < xs.length) : cutV xs none (some ((i : Nat) : Int)) = xs.take i := by
  unfold cutV
  rw [HT.sIx_none, HT.sIx_nat, Nat.min_eq_left (Nat.le_of_lt h), Nat.sub_zero, List.drop_zero]
theorem flat_take {xs : List V} {i : Nat} (hb : ∀ j, j < i → badAt xs j = false) : (xs.take i).all flatV = true := by
  rw [List.all_eq_true]
  intro y hy
  obtain ⟨j, hj, e⟩ := List.getElem_of_mem hy
  rw [List.length_take] at hj
  have h2 : xs[j]? = some y := by
    rw [List.getElem_take] at e
    rw [← e]
    exact List.getElem?_eq_getElem _
  have h3 := hb j (Nat.lt_of_lt_of_le hj (Nat.min_le_left _ _))
  unfold badAt at h3
  rw [h2] at h3
  have h4 : nameV y = true := by
    cases h5 : nameV y with
    | true => rfl
    | false =>
      rw [show (match some y with | some y => !nameV y || inV y (xs.take j) | none => false) = (!nameV y || inV y (xs.take j)) from rfl, h5] at h3
      exact absurd h3 (by simp)
  exact nameV_flat h4
section
variable {P : Program} {w : World} {K : PySem.W.Frag} {mg : Str → Option Value} {base : Heap} {f fN : Addr} {fd fdN : FuncData}
theorem ok_wrongName (Fn : FnP K "wrong_name" sWrongName f fd) (FN : FnOk P w K mg base CX0 1 fN fdN ["thing"] (spIsName K)) (gN : mg "is_name" = some (.ref fN)) (kN : PySem.W.keepIn K (.ref fN) = true) (bN : Binds K fdN ["thing"] []) (gE : mg "enumerate" = none) :
    FnOk P w K mg base CX0 2 f fd ["things"] (spWrongName K) := by
  refine Fn.ok scWrongName (fun vs H Q E h => ?_) (fun cdv A outer s H vs Q E hr h => ⟨_, PSs.nox
    (pss_cons (ps_for PassesOwn.never rfl (pi_enumS (by rfl) gE (pa_cons (pv 0) pa_nil)) (pg_tup rfl (pgs_cons (pg_name (i := 1) scWrongName.nd rfl (Or.inl rfl)) (pgs_cons (pg_name (i := 2) scWrongName.nd rfl (Or.inl rfl)) pgs_nil)))
      (pss_one (ps_if (PW.pt (pw_or (pt_not (pt_val (pe_call FN hr (by rfl) gN kN bN .nil pass0 (pa_cons (pv 2) pa_nil))))
        (pw_or1 (pt_cmpR op_in_seq (pv 2) (pe_slice (sl_list.or sl_tupA) (pv 0) po_none (po_some (pv 1))) (by rfl))))) (pss_one (ps_ret (pv 1))) pss_nil)))
    (pss_one (ps_ret pe_non))), ?_⟩)
  · obtain ⟨a, xs, rfl, _⟩ := h
    rfl
  · obtain ⟨a, xs, rfl, sq, th, q0, q1⟩ := h
    refine ⟨_, rfl, a, xs, rfl, ?_⟩
    rcases sq with sq | sq
    · refine .inl ⟨sq, ?_⟩
      refine for_it (walk_enum (xs := xs)) (fun i σ H' => Ext H H' ∧ (∃ u v, σ = [some (.ref a), u, v]) ∧ ∀ j, j < i → badAt xs j = false) ⟨Ext.rfl', ⟨none, none, rfl⟩, fun j hj => absurd hj (Nat.not_lt_zero _)⟩ (fun i σ H' _ p => sq.ext p.1) ?_ ?_
      · intro i x σ H1 H2 hi p y
        obtain ⟨x1, ⟨u, v, rfl⟩, hb⟩ := p
        obtain ⟨T, y1, y2, rfl, hT, rfl, e1, e2⟩ := y
        cases e1
        have e2 : xs[i]? = some y2 := e2
        have x2 : Ext H (upd H1 T (.tup [.int i, y2])) := x1.upd' hT
        refine ⟨T, _, rfl, SqT.of upd_same, rfl, _, _, rfl, _, _, rfl, rfl, ?_⟩
        have hmem : y2 ∈ xs := List.mem_of_getElem? e2
        have notbad : badAt xs i = false → ∀ j, j < i + 1 → badAt xs j = false := fun h j hj => by
          rcases Nat.lt_or_eq_of_le (Nat.le_of_lt_succ hj) with z | z
          · exact hb j z
          · rw [z]; exact h
        have eb : badAt xs i = (!nameV y2 || inV y2 (xs.take i)) := by
          unfold badAt
          rw [e2]
        have bad : badAt xs i = true → ∀ H', Ext H H' → Q (.int (i : Nat)) H' := fun h H' z => q1 i H' z hi h hb
        rcases th y2 hmem with ⟨z, rfl, hz⟩ | ⟨hns, t, ty, kt⟩
        · refine ⟨_, rfl, _, rfl, .inl ⟨z, rfl, hz, fun H3 x3 => ?_⟩⟩
          refine ⟨nameB z, rfl, ?_⟩
          have x13 : Ext H H3 := x2.trans x3
          cases hn : nameB z with
          | false =>
            exact ⟨_, rfl, bad (by rw [eb]; show (!nameB z || _) = true; rw [hn]; rfl) H3 x13⟩
          | true =>
            have fl := flat_take hb
            have cont : ∀ H4, Ext H H4 → (if inV (.str z) (xs.take i) = true then (∃ v, ([some (.ref a), some (.int (i : Nat)), some (.str z)] : L2.St)[1]? = some (some v) ∧ Q v H4) else Ext H H4 ∧ (∃ u v, ([some (.ref a), some (.int (i : Nat)), some (.str z)] : L2.St) = [some (.ref a), u, v]) ∧ ∀ j, j < i + 1 → badAt xs j = false) := fun H4 x4 => by
              cases hi2 : inV (.str z) (xs.take i) with
              | true => exact ⟨_, rfl, bad (by rw [eb, hi2, Bool.or_true]) H4 x4⟩
              | false => exact ⟨x4, ⟨_, _, rfl⟩, notbad (by rw [eb, hi2]; show (!nameB z || false) = false; rw [hn]; rfl)⟩
            refine ⟨_, rfl, _, rfl, _, rfl, _, rfl, .inl ⟨a, xs, rfl, sq.ext x13, fun p hp => ?_⟩⟩
            rw [cut_take hi]
            refine ⟨p, _, rfl, .inl (SqL.of upd_same), rfl, fl, _, rfl, ?_⟩
            exact cont _ (x13.upd' hp)
        · refine ⟨_, rfl, _, rfl, .inr ⟨t, ty.ext x2, kt, fun H3 x3 => ?_⟩⟩
          refine ⟨false, rfl, ?_⟩
          exact ⟨_, rfl, bad (by
            rw [eb]
            have e : nameV y2 = false := by
              cases y2 <;> first | rfl | exact absurd rfl (hns _)
            rw [e]; rfl) H3 (x2.trans x3)⟩
      · intro σ H1 p
        exact q0 H1 p.1 p.2.2
    · refine .inr ⟨sq, ?_⟩
      refine for_it (walk_enumT (xs := xs)) (fun i σ H' => Ext H H' ∧ (∃ u v, σ = [some (.ref a), u, v]) ∧ ∀ j, j < i → badAt xs j = false) ⟨Ext.rfl', ⟨none, none, rfl⟩, fun j hj => absurd hj (Nat.not_lt_zero _)⟩ (fun i σ H' _ p => sq.ext p.1) ?_ ?_
      · intro i x σ H1 H2 hi p y
        obtain ⟨x1, ⟨u, v, rfl⟩, hb⟩ := p
        obtain ⟨T, y1, y2, rfl, hT, rfl, e1, e2⟩ := y
        cases e1
        have e2 : xs[i]? = some y2 := e2
        have x2 : Ext H (upd H1 T (.tup [.int i, y2])) := x1.upd' hT
        refine ⟨T, _, rfl, SqT.of upd_same, rfl, _, _, rfl, _, _, rfl, rfl, ?_⟩
        have hmem : y2 ∈ xs := List.mem_of_getElem? e2
        have notbad : badAt xs i = false → ∀ j, j < i + 1 → badAt xs j = false := fun h j hj => by
          rcases Nat.lt_or_eq_of_le (Nat.le_of_lt_succ hj) with z | z
          · exact hb j z
          · rw [z]; exact h
        have eb : badAt xs i = (!nameV y2 || inV y2 (xs.take i)) := by
          unfold badAt
          rw [e2]
        have bad : badAt xs i = true → ∀ H', Ext H H' → Q (.int (i : Nat)) H' := fun h H' z => q1 i H' z hi h hb
        rcases th y2 hmem with ⟨z, rfl, hz⟩ | ⟨hns, t, ty, kt⟩
        · refine ⟨_, rfl, _, rfl, .inl ⟨z, rfl, hz, fun H3 x3 => ?_⟩⟩
          refine ⟨nameB z, rfl, ?_⟩
          have x13 : Ext H H3 := x2.trans x3
          cases hn : nameB z with
          | false =>
            exact ⟨_, rfl, bad (by rw [eb]; show (!nameB z || _) = true; rw [hn]; rfl) H3 x13⟩
          | true =>
            have fl := flat_take hb
            have cont : ∀ H4, Ext H H4 → (if inV (.str z) (xs.take i) = true then (∃ v, ([some (.ref a), some (.int (i : Nat)), some (.str z)] : L2.St)[1]? = some (some v) ∧ Q v H4) else Ext H H4 ∧ (∃ u v, ([some (.ref a), some (.int (i : Nat)), some (.str z)] : L2.St) = [some (.ref a), u, v]) ∧ ∀ j, j < i + 1 → badAt xs j = false) := fun H4 x4 => by
              cases hi2 : inV (.str z) (xs.take i) with
              | true => exact ⟨_, rfl, bad (by rw [eb, hi2, Bool.or_true]) H4 x4⟩
              | false => exact ⟨x4, ⟨_, _, rfl⟩, notbad (by rw [eb, hi2]; show (!nameB z || false) = false; rw [hn]; rfl)⟩
            refine ⟨_, rfl, _, rfl, _, rfl, _, rfl, .inr ⟨a, xs, rfl, sq.ext x13, fun hw => ?_, fun _ p hp => ?_⟩⟩
            · have h2 := hw.2
              rw [HT.sIx_nat, Nat.min_eq_left (Nat.le_of_lt hi)] at h2
              exact absurd hi (by omega)
            rw [cut_take hi]
            refine ⟨p, _, rfl, .inr (SqT.of upd_same), rfl, fl, _, rfl, ?_⟩
            exact cont _ (x13.upd' hp)
        · refine ⟨_, rfl, _, rfl, .inr ⟨t, ty.ext x2, kt, fun H3 x3 => ?_⟩⟩
          refine ⟨false, rfl, ?_⟩
          exact ⟨_, rfl, bad (by
            rw [eb]
            have e : nameV y2 = false := by
              cases y2 <;> first | rfl | exact absurd rfl (hns _)
            rw [e]; rfl) H3 (x2.trans x3)⟩
      · intro σ H1 p
        exact q0 H1 p.1 p.2.2
end
end My

namespace L2
open PySem
theorem tyx_sqL {K : PySem.W.Frag} {H : Hp} {a : Addr} {xs : List V} (h : SqL K H a xs) : TyX K H (.ref a) (.type "list") := by
  rcases h with (h | ⟨o, h⟩) | ⟨o, its, n, h1, h2, _⟩
  · exact .base (.lst h)
  · exact .base (.frz h)
  · exact .kList h1 h2
theorem tyx_sqT {K : PySem.W.Frag} {H : Hp} {a : Addr} {xs : List V} (h : SqT K H a xs) : TyX K H (.ref a) (.type "tuple") := by
  rcases h with (h | ⟨o, h⟩) | ⟨o, its, n, h1, h2, _⟩
  · exact .base (.tup h)
  · exact .fTuple h
  · exact .kTuple h1 h2
end L2
namespace My
open PySem PySem.Spec PyProof.Rows L2
theorem scWrongPart : FnScope ["folders", "things", "at"] ["folders", "things"] (defScope sWrongPart) := ⟨rfl, rfl, rfl, by decide +kernel, rfl, by decide +kernel, by decide +kernel⟩
def optV : Option Nat → V
  | none => .non
  | some i => .int (i : Nat)
def wrongOf (xs : List V) : Option Nat := (List.range xs.length).find? (badAt xs)
def spWN (K : PySem.W.Frag) : Sp := fun vs H Q _ => ∃ a xs, vs = [.ref a] ∧ SeqAt2 K H a xs ∧ (∀ y ∈ xs, Thing K H y) ∧ ∀ H', Ext H H' → Q (optV (wrongOf xs)) H'
theorem wrong_none {xs : List V} (h : ∀ i, i < xs.length → badAt xs i = false) : wrongOf xs = none := List.find?_range_eq_none.mpr fun i hi => by rw [h i hi]; rfl
theorem wrong_some {xs : List V} {i : Nat} (hi : i < xs.length) (h : badAt xs i = true) (h2 : ∀ j, j < i → badAt xs j = false) : wrongOf xs = some i := List.find?_range_eq_some.mpr ⟨h, List.mem_range.mpr hi, fun j hj => by rw [h2 j hj]; rfl⟩
theorem wn_imp {K : PySem.W.Frag} (vs : List V) (H : Hp) (Q : VK) (E : XK) (h : spWN K vs H Q E) : spWrongName K vs H Q E := by
  obtain ⟨a, xs, rfl, sq, th, q⟩ := h
  refine ⟨a, xs, rfl, sq, th, fun H' x h => ?_, fun i H' x hi h h2 => ?_⟩
  · have z := q H' x
    rw [wrong_none h] at z
    exact z
  · have z := q H' x
    rw [wrong_some hi h h2] at z
    exact z
/-- a list or a tuple of things, or neither -/
def Lk (K : PySem.W.Frag) (H : Hp) (x : V) : Option (List V) → Prop
  | some xs => ∃ a, x = .ref a ∧ SeqAt2 K H a xs ∧ ∀ y ∈ xs, Thing K H y
  | none => ∃ t, TyX K H x t ∧ PySem.W.kitAny K t [.type "list", .type "tuple"] = some false
theorem Lk.ext {K : PySem.W.Frag} {H H' : Hp} {x : V} {o : Option (List V)} (h : Lk K H x o) (e : Ext H H') : Lk K H' x o := by
  cases o with
  | none =>
    obtain ⟨t, ty, k⟩ := h
    exact ⟨t, ty.ext e, k⟩
  | some xs =>
    obtain ⟨a, rfl, sq, th⟩ := h
    exact ⟨a, rfl, sq.ext e, fun y hy => (th y hy).ext e⟩
theorem Lk.kit {K : PySem.W.Frag} {H : Hp} {x : V} {o : Option (List V)} (h : Lk K H x o) : ∃ t, TyX K H x t ∧ PySem.W.kitAny K t [.type "list", .type "tuple"] = some o.isSome := by
  cases o with
  | none => exact h
  | some xs =>
    obtain ⟨a, rfl, sq, _⟩ := h
    rcases sq with sq | sq
    · exact ⟨_, tyx_sqL sq, kitAny_cons (b := true) (kit_ty (by decide +kernel)) (fun z => nomatch z) (fun _ => rfl)⟩
    · exact ⟨_, tyx_sqT sq, kitAny_cons (b := false) (kit_ty (by decide +kernel)) (fun _ => kitAny_cons (b := true) (kit_ty (by decide +kernel)) (fun z => nomatch z) (fun _ => rfl)) (fun z => nomatch z)⟩
theorem kit_no {K : PySem.W.Frag} {a : String} (h1 : kitB a "list" = some false) (h2 : kitB a "tuple" = some false) : PySem.W.kitAny K (.type a) [.type "list", .type "tuple"] = some false :=
  kitAny_cons (b := false) (kit_ty h1) (fun _ => kitAny_cons (b := false) (kit_ty h2) (fun _ => kitAny_nil) (fun z => nomatch z)) (fun z => nomatch z)
/-- BadHouse's index | None -/
def partOf (o o' : Option (List V)) : Option Nat := match o with
  | none => some 0
  | some xs => if xs.length = 0 then some 0 else match o' with
    | some ys => wrongOf (xs ++ ys)
    | none => match wrongOf xs with
      | none => some xs.length
      | some i => some i
def spWrongPart (K : PySem.W.Frag) : Sp := fun vs H Q _ => ∃ x y o o', vs = [x, y] ∧ Lk K H x o ∧ Lk K H y o' ∧ (∀ xs ys, o = some xs → o' = some ys → (xs ++ ys).length ≤ sizeLine) ∧ ∀ H', Ext H H' → Q (optV (partOf o o')) H'
section
variable {P : Program} {w : World} {K : PySem.W.Frag} {mg : Str → Option Value} {base : Heap} {f fL fW : Addr} {fd fdL fdW : FuncData}
theorem ok_wrongPart (Fn : FnP K "wrong_part" sWrongPart f fd) (FL : FnOk P w K mg base CX0 1 fL fdL ["thing"] (spIsList K)) (gL : mg "is_list" = some (.ref fL)) (kL : PySem.W.keepIn K (.ref fL) = true) (bL : Binds K fdL ["thing"] [])
    (FW : FnOk P w K mg base CX0 2 fW fdW ["things"] (spWN K)) (gW : mg "wrong_name" = some (.ref fW)) (kW : PySem.W.keepIn K (.ref fW) = true) (bW : Binds K fdW ["things"] []) (gN : mg "len" = none) :
    FnOk P w K mg base CX0 3 f fd ["folders", "things"] (spWrongPart K) := by
  refine Fn.ok scWrongPart (fun vs H Q E h => ?_) (fun cdv A outer s H vs Q E hr h => ⟨_, PSs.nox
    (pss_cons (ps_if (PW.pt (pw_or (pt_not (pt_val (pe_call FL (hr.mono (by decide)) (by rfl) gL kL bL .nil pass0 (pa_cons (pv 0) pa_nil)))) (pw_or1 (pt_cmpR op_eq (pe_callB call_len (by rfl) gN boot_len (pa_cons (pv 0) pa_nil)) pe_int (nomark _))))) (pss_one (ps_ret pe_int)) pss_nil)
    (pss_cons (ps_if (pt_val (pe_call FL (hr.mono (by decide)) (by rfl) gL kL bL .nil pass0 (pa_cons (pv 1) pa_nil))) (pss_one (ps_ret (pe_call FW hr (by rfl) gW kW bW .nil pass0 (pa_cons (pe_lst (StX.pa_star (pv 0) (StX.pa_star (pv 1) pa_nil))) pa_nil)))) pss_nil)
    (pss_cons (ps_set (i := 2) scWrongPart.nd rfl (.inl rfl) (pe_call FW hr (by rfl) gW kW bW .nil pass0 (pa_cons (pv 0) pa_nil)))
    (pss_one (ps_ret (pe_ifExp (pt_cmpR op_isN (pv 2) pe_non (nomark _)) (pe_callB call_len (by rfl) gN boot_len (pa_cons (pv 0) pa_nil)) (pv 2))))))), ?_⟩)
  · obtain ⟨x, y, o, o', rfl, _⟩ := h
    rfl
  · obtain ⟨x, y, o, o', rfl, hx, hy, hz, q⟩ := h
    obtain ⟨tx, tyx, kx⟩ := hx.kit
    refine ⟨x, rfl, x, tx, _, rfl, tyx, kx, fun H1 x1 => ?_⟩
    refine ⟨_, rfl, ?_⟩
    cases o with
    | none => exact q H1 x1
    | some xs =>
      obtain ⟨a, rfl, sq, th⟩ := hx
      have sq1 := sq.ext x1
      refine iteF ?_
      refine ⟨_, rfl, _, xs.length, rfl, ?_, rfl, _, rfl, ?_⟩
      · exact sq1.elim (fun z => .inl ⟨_, z, rfl⟩) fun z => .inr ⟨_, z, rfl⟩
      refine ite2 (fun h0 => ?_) (fun h0 => ?_)
      · have e : partOf (some xs) o' = some 0 := if_pos (by simpa using h0)
        have z := q H1 x1
        rw [e] at z
        exact z
      · have n0 : ¬ xs.length = 0 := by simpa using h0
        obtain ⟨ty, tyy, ky⟩ := (hy.ext x1).kit
        refine ⟨y, rfl, y, ty, _, rfl, tyy, ky, fun H2 x2 => ?_⟩
        refine ⟨_, rfl, ?_⟩
        have sq2 := sq1.ext x2
        have th2 : ∀ z ∈ xs, Thing K H2 z := fun z hz => ((th z hz).ext x1).ext x2
        cases o' with
        | some ys =>
          obtain ⟨b, rfl, sqy, thy⟩ := hy
          have sy2 := (sqy.ext x1).ext x2
          refine iteT ?_
          refine ⟨_, rfl, a, xs, rfl, sq2.symm, _, rfl, b, ys, rfl, sy2.symm, ?_⟩
          have hlen := hz xs ys rfl rfl
          refine ⟨(show (xs ++ (ys ++ [])).length ≤ sizeLine by rw [List.append_nil]; exact hlen), fun p hp => ⟨p, xs ++ ys, rfl, .inl (SqL.of (by rw [upd_same, List.append_nil])), fun z hz => ?_, fun H3 x3 => ?_⟩⟩
          · refine Thing.ext ?_ (Ext.upd hp)
            rcases List.mem_append.mp hz with hz | hz
            · exact th2 z hz
            · exact ((thy z hz).ext x1).ext x2
          · have e : partOf (some xs) (some ys) = wrongOf (xs ++ ys) := if_neg n0
            rw [← e]
            exact q H3 (((x1.trans x2).upd' hp).trans x3)
        | none =>
          refine iteF ?_
          refine ⟨_, rfl, a, xs, rfl, sq2, th2, fun H3 x3 => ?_⟩
          have z := q H3 ((x1.trans x2).trans x3)
          refine ⟨_, rfl, rfl, _, rfl, ?_⟩
          cases hw : wrongOf xs with
          | none =>
            have e : partOf (some xs) none = some xs.length := by
              show (if xs.length = 0 then some 0 else match wrongOf xs with | none => some xs.length | some i => some i) = _
              rw [if_neg n0, hw]
            rw [e] at z
            refine iteT ?_
            exact ⟨_, rfl, _, xs.length, rfl, (sq2.ext x3).elim (fun z => .inl ⟨_, z, rfl⟩) (fun z => .inr ⟨_, z, rfl⟩), z⟩
          | some i =>
            have e : partOf (some xs) none = some i := by
              show (if xs.length = 0 then some 0 else match wrongOf xs with | none => some xs.length | some i => some i) = _
              rw [if_neg n0, hw]
            rw [e] at z
            refine iteF ?_
            exact ⟨_, rfl, z⟩
end
end My

namespace My
open PySem PySem.Spec PyProof.Rows L2
theorem scHInit : FnScope ["self", "folders", "things", "at"] ["self", "folders", "things"] (defScope sHInit) := ⟨rfl, rfl, rfl, by decide +kernel, rfl, by decide +kernel, by decide +kernel⟩
theorem scHLen : FnScope ["self"] ["self"] (defScope sHLen) := ⟨rfl, rfl, rfl, by decide +kernel, rfl, by decide +kernel, by decide +kernel⟩
theorem scHHas : FnScope ["self", "x"] ["self", "x"] (defScope sHHas) := ⟨rfl, rfl, rfl, by decide +kernel, rfl, by decide +kernel, by decide +kernel⟩
theorem scHIter : FnScope ["self"] ["self"] (defScope sHIter) := ⟨rfl, rfl, rfl, by decide +kernel, rfl, by decide +kernel, by decide +kernel⟩
theorem scHEq : FnScope ["self", "other"] ["self", "other"] (defScope sHEq) := ⟨rfl, rfl, rfl, by decide +kernel, rfl, by decide +kernel, by decide +kernel⟩
/-- a house stands at a: its folders, its things -/
def HouseAt (H : Hp) (K : PySem.W.Frag) (C a : Addr) (fo th : List V) : Prop := ∃ dx fs f t n, H a = some (.ins C dx fs) ∧ fs.lookup ("folders" : Str) = some (V.ref f) ∧ fs.lookup ("things" : Str) = some (V.ref t) ∧ fs.lookup ("nodes" : Str) = some (V.ref n) ∧
  SqT K H f fo ∧ SqT K H t th ∧ SqT K H n (fo ++ th)
theorem HouseAt.ext {H H' : Hp} {K : PySem.W.Frag} {C a : Addr} {fo th : List V} (h : HouseAt H K C a fo th) (e : Ext H H') : HouseAt H' K C a fo th := by
  obtain ⟨dx, fs, f, t, n, h1, h2, h3, h4, h5, h6, h7⟩ := h
  exact ⟨dx, fs, f, t, n, e _ _ h1, h2, h3, h4, h5.ext e, h6.ext e, h7.ext e⟩
/-- what the written part says of the class -/
structure HouC (K : PySem.W.Frag) (C : Addr) : Prop where
  cl : Cls K C
  nf : NoAttr K C "folders"
  nt : NoAttr K C "things"
  nn : NoAttr K C "nodes"
  ha : PySem.W.findIn K (.ref C) "__class__" = some (some (.builtin "object.__class__"))
  hn : PySem.W.specialIn K (.builtin "object.__class__") "__get__" = some (some (.builtin "getset_descriptor.__get__"))
  htk : PySem.W.takesIn K (.builtin "object.__class__") = some true
  hm : PySem.W.mroIn K C (.type "object") = some true
/-- all but what stands at a stays -/
def But (H H' : Hp) (a : Addr) : Prop := ∀ b u, b ≠ a → H b = some u → H' b = some u
theorem ext_but {H H' : Hp} {a : Addr} (e : Ext H H') : But H H' a := fun b u _ k => e b u k
theorem But.trans {H H1 H2 : Hp} {a : Addr} (x : But H H1 a) (y : But H1 H2 a) : But H H2 a := fun b u n k => y b u n (x b u n k)
theorem But.upd {H H1 : Hp} {a : Addr} {o : HO} (x : But H H1 a) : But H (L2.upd H1 a o) a := fun b u n k => by
  rw [upd_ne n]
  exact x b u n k
theorem sqT_but {K : PySem.W.Frag} {H H' : Hp} {a C dx f : Addr} {fs : List (Str × V)} {xs : List V} (h : SqT K H f xs) (b : But H H' a) (ha : H a = some (.ins C dx fs)) : SqT K H' f xs := by
  rcases h with (h | ⟨o, h⟩) | h
  · exact .inl (.inl (b _ _ (ne_of h ha (fun z => nomatch z)) h))
  · exact .inl (.inr ⟨o, b _ _ (ne_of h ha (fun z => nomatch z)) h⟩)
  · exact .inr h
theorem sqL_but {K : PySem.W.Frag} {H H' : Hp} {a C dx f : Addr} {fs : List (Str × V)} {xs : List V} (h : SqL K H f xs) (b : But H H' a) (ha : H a = some (.ins C dx fs)) : SqL K H' f xs := by
  rcases h with (h | ⟨o, h⟩) | h
  · exact .inl (.inl (b _ _ (ne_of h ha (fun z => nomatch z)) h))
  · exact .inl (.inr ⟨o, b _ _ (ne_of h ha (fun z => nomatch z)) h⟩)
  · exact .inr h
/-- tuple(a) -/
theorem tup_of {K : PySem.W.Frag} {H : Hp} {a : Addr} {xs : List V} {Q : VK} (sq : SeqAt2 K H a xs) (q : ∀ t H', Ext H H' → SqT K H' t xs → Q (.ref t) H') :
    ∃ p ys, [V.ref a] = [.ref p] ∧ ((SqL K H p ys ∧ ∀ l, H l = none → Q (.ref l) (L2.upd H l (.tup ys))) ∨ (SqT K H p ys ∧ Q (.ref p) H)) := by
  rcases sq with sq | sq
  · exact ⟨a, xs, rfl, .inl ⟨sq, fun l hl => q l _ (Ext.upd hl) (SqT.of upd_same)⟩⟩
  · exact ⟨a, xs, rfl, .inr ⟨sq, q a H Ext.rfl' sq⟩⟩
/-- a + b, tuples -/
theorem cat_of {K : PySem.W.Frag} {H : Hp} {a b : Addr} {xs ys : List V} {Q : VK} (h1 : SqT K H a xs) (h2 : SqT K H b ys) (hz : (xs ++ ys).length ≤ sizeLine) (q : ∀ t H', Ext H H' → SqT K H' t (xs ++ ys) → Q (.ref t) H') : rCatA K (.ref a) (.ref b) H Q := by
  refine ⟨a, b, xs, ys, rfl, rfl, h1, h2, by rw [← List.length_append]; exact hz, fun e => ?_, fun _ e => ?_, fun _ _ p hp => q p _ (Ext.upd hp) (SqT.of upd_same)⟩
  · subst e
    exact q b H Ext.rfl' h2
  · subst e
    exact q a H Ext.rfl' (by rw [List.append_nil]; exact h1)
def rTup (K : PySem.W.Frag) : List V → Hp → VK → Prop := fun xs H Q => ∃ a zs, xs = [.ref a] ∧ SeqAt2 K H a zs ∧ ∀ t H', Ext H H' → SqT K H' t zs → Q (.ref t) H'
theorem call_tup {X : Cx} : CallR X (.type "tuple") (rTup X.K) := by
  intro pins s σ H xs us Q I rv h
  obtain ⟨a, zs, rfl, sq, q⟩ := h
  exact call_tuple_of pins s σ H _ us Q I rv (tup_of sq q)
def rCat (K : PySem.W.Frag) : R2 := fun x y H Q => ∃ a b xs ys, x = .ref a ∧ y = .ref b ∧ SqT K H a xs ∧ SqT K H b ys ∧ (xs ++ ys).length ≤ sizeLine ∧ ∀ t H', Ext H H' → SqT K H' t (xs ++ ys) → Q (.ref t) H'
theorem op_cat {X : Cx} : OpR X (binaryOp .Add) (rCat X.K) := by
  intro pins s σ H x y v u Q I rx ry h
  obtain ⟨a, b, xs, ys, rfl, rfl, h1, h2, hz, q⟩ := h
  exact op_catA pins s σ H _ _ v u Q I rx ry (cat_of h1 h2 hz q)
/-- House.__init__ -/
def spHInit (K : PySem.W.Frag) (C CB : Addr) : Sp := fun vs H Q E => ∃ a dx x y o o', vs = [.ref a, x, y] ∧ H a = some (.ins C dx []) ∧ Lk K H x o ∧ Lk K H y o' ∧ (∀ xs ys, o = some xs → o' = some ys → (xs ++ ys).length ≤ sizeLine) ∧
  (∀ xs ys H', o = some xs → o' = some ys → partOf o o' = none → But H H' a → HouseAt H' K C a xs ys → Q .non H') ∧
  ∀ i d H', partOf o o' = some i → Ext H H' → H d = none → H' d = some (.xd [(("index" : Str), V.int (i : Nat))]) → E (.ref CB) (some d) H'
theorem part_some {o o' : Option (List V)} (h : partOf o o' = none) : ∃ xs ys, o = some xs ∧ o' = some ys := by
  cases o with
  | none => cases h
  | some xs =>
    cases o' with
    | some ys => exact ⟨xs, ys, rfl, rfl⟩
    | none =>
      unfold partOf at h
      split at h
      · cases h
      · rename_i z
        cases z
        split at h
        · cases h
        · split at h
          · rename_i z
            cases z
          · split at h <;> cases h
section
variable {P : Program} {w : World} {K : PySem.W.Frag} {mg : Str → Option Value} {base : Heap} {f fW C CB : Addr} {fd fdW : FuncData} {dvs : List V}
theorem ok_hInit (Fn : FunD K "__init__" "House.__init__" (defArgs sHInit) (defBody sHInit) (defScope sHInit) dvs [] f fd) (T : HouC K C) (FW : FnOk P w K mg base CX0 3 fW fdW ["folders", "things"] (spWrongPart K)) (gW : mg "wrong_part" = some (.ref fW)) (kW : PySem.W.keepIn K (.ref fW) = true) (bW : Binds K fdW ["folders", "things"] [])
    (EB : Er P w K mg base "BadHouse" "index" CB) (gT : mg "tuple" = none) :
    FnOk P w K mg base (L2.CX P w) 4 f fd ["self", "folders", "things"] (spHInit K C CB) := by
  obtain ⟨fI, fdI, TB, FB, bB, _⟩ := EB
  refine Fn.ok scHInit (fun vs H Q E h => ?_) (fun cdv A outer s H vs Q E hr h => ⟨_,
    (pss_cons (ps_set (i := 3) scHInit.nd rfl (.inl rfl) (pe_call FW hr (by rfl) gW kW bW .nil pass0 (pa_cons (pv 1) (pa_cons (pv 2) pa_nil))))
    (pss_cons (ps_if (pt_cmpR op_notN (pv 3) pe_non (nomark _)) (pss_one (ps_raise rfl (takes_of rfl rfl rfl rfl) (pmk_oex TB.oex TB.iC TB.tI FB (hr.mono (by decide)) bB .nil pass0 (by rfl) TB.gl (pa_cons (pv 3) pa_nil)))) pss_nil)
    (pss_cons (ps_fld (pv 0) (pe_callTy call_tup (by rfl) gT (by decide +kernel) (pa_cons (pv 1) pa_nil)) rfl)
    (pss_cons (ps_fld (pv 0) (pe_callTy call_tup (by rfl) gT (by decide +kernel) (pa_cons (pv 2) pa_nil)) rfl)
    (pss_one (ps_fld (pv 0) (pe_op op_cat (pe_fld (pv 0) rfl) (pe_fld (pv 0) rfl)) rfl)))))), ?_⟩)
  · obtain ⟨a, dx, x, y, o, o', rfl, _⟩ := h
    rfl
  · obtain ⟨a, dx, x, y, o, o', rfl, ha, hx, hy, hz, qn, qe⟩ := h
    refine ⟨_, rfl, _, rfl, x, y, o, o', rfl, hx, hy, hz, fun H1 x1 => ?_⟩
    refine ⟨_, rfl, rfl, _, rfl, ?_⟩
    cases hp : partOf o o' with
    | some i =>
      refine iteT ?_
      refine ⟨_, rfl, Nat.le_of_ble_eq_true rfl, fun e he => ?_⟩
      refine ⟨e, _, rfl, upd_same, fun d hd ne => ⟨rfl, d, [("index", optV (some i))], upd_same, ?_, ?_, ?_⟩⟩
      · rw [upd_ne ne, upd_same]
      · rw [upd_ne ne] at hd
        exact hd
      · rw [upd_ne ne] at hd
        refine qe i d _ hp (fun b u k => ?_) ?_ upd_same
        · have k1 := x1 b u k
          rw [upd_ne (ne_of_none k1 hd), del_ne (ne_of_none k1 he), upd_ne (ne_of_none k1 he), upd_ne (ne_of_none k1 hd), upd_ne (ne_of_none k1 he)]
          exact k1
        · cases hh : H d with
          | none => rfl
          | some u => exact absurd (x1 d u hh) (by rw [hd]; exact fun z => nomatch z)
    | none =>
      refine iteF ?_
      obtain ⟨xs, ys, rfl, rfl⟩ := part_some hp
      obtain ⟨ax, rfl, sqx, _⟩ := hx
      obtain ⟨ay, rfl, sqy, _⟩ := hy
      have hz' := hz xs ys rfl rfl
      refine ⟨_, rfl, ax, xs, rfl, sqx.ext x1, fun t2 H2 x2 s2 => ?_⟩
      have a2 : H2 a = some (.ins C dx []) := x2 _ _ (x1 _ _ ha)
      refine ⟨_, rfl, a, C, dx, _, rfl, a2, T.cl, T.nf, Nat.le_of_ble_eq_true rfl, ?_⟩
      obtain ⟨H3, hH3⟩ : ∃ H3, H3 = L2.upd H2 a (.ins C dx (putF "folders" (.ref t2) [])) := ⟨_, rfl⟩
      rw [← hH3]
      have a3 : H3 a = some (.ins C dx (putF "folders" (.ref t2) [])) := by rw [hH3, upd_same]
      have b3 : But H2 H3 a := by
        rw [hH3]
        exact But.upd (ext_but Ext.rfl')
      have b03 : But H H3 a := (ext_but (x1.trans x2)).trans b3
      have sqy3 : SeqAt2 K H3 ay ys := sqy.elim (fun z => .inl (sqL_but z b03 ha)) fun z => .inr (sqT_but z b03 ha)
      refine ⟨_, rfl, ay, ys, rfl, sqy3, fun t4 H4 x4 s4 => ?_⟩
      refine ⟨_, rfl, a, C, dx, _, rfl, x4 _ _ a3, T.cl, T.nt, Nat.le_of_ble_eq_true rfl, ?_⟩
      obtain ⟨H5, hH5⟩ : ∃ H5, H5 = L2.upd H4 a (.ins C dx (putF "things" (.ref t4) (putF "folders" (.ref t2) []))) := ⟨_, rfl⟩
      rw [← hH5]
      have a5 : H5 a = some (.ins C dx (putF "things" (.ref t4) (putF "folders" (.ref t2) []))) := by rw [hH5, upd_same]
      have b5 : But H4 H5 a := by
        rw [hH5]
        exact But.upd (ext_but Ext.rfl')
      have s2' : SqT K H5 t2 xs := sqT_but (sqT_but s2 (b3.trans (ext_but x4)) a2) b5 (x4 _ _ a3)
      have s4' : SqT K H5 t4 ys := sqT_but s4 b5 (x4 _ _ a3)
      refine ⟨_, rfl, a, C, dx, _, _, rfl, a5, T.cl, T.nf, rfl, _, rfl, a, C, dx, _, _, rfl, a5, T.cl, T.nt, rfl, t2, t4, xs, ys, rfl, rfl, s2', s4', hz', fun t6 H6 x6 s6 => ?_⟩
      refine ⟨_, rfl, a, C, dx, _, rfl, x6 _ _ a5, T.cl, T.nn, Nat.le_of_ble_eq_true rfl, ?_⟩
      obtain ⟨H7, hH7⟩ : ∃ H7, H7 = L2.upd H6 a (.ins C dx (putF "nodes" (.ref t6) (putF "things" (.ref t4) (putF "folders" (.ref t2) [])))) := ⟨_, rfl⟩
      rw [← hH7]
      have b7 : But H6 H7 a := by
        rw [hH7]
        exact But.upd (ext_but Ext.rfl')
      have a6 := x6 _ _ a5
      refine qn xs ys H7 rfl rfl hp (((b03.trans (ext_but x4)).trans b5).trans ((ext_but x6).trans b7)) ?_
      exact ⟨dx, _, t2, t4, t6, by rw [hH7, upd_same], rfl, rfl, rfl, sqT_but (s2'.ext x6) b7 a6, sqT_but (s4'.ext x6) b7 a6, sqT_but s6 b7 a6⟩
end
end My

namespace PySem
namespace MyN
open PySem.W Builtin PySem.SeqAt PySem.MeetsSeq MeetsSeq2
open AutoSeq1 (wpAny_loadPart')
/-- str.__eq__ with an object that holds no text -/
theorem str_no_plain (b : Str) (u : Tok) (l : Addr) (ob : Obj) (hd : ob.data = .plain) :
    Meets (Builtin.«str.__eq__» ⟨[.str b u, .ref l], []⟩) (fun _ R s => s.heap.get? l = some ob ∧ R (.ok (.ret .notImplemented)) s) :=
  .of_wp fun P1 w1 A1 R1 s1 z => by
    obtain ⟨hp, gs, dr, tk, oz⟩ := s1
    obtain ⟨z1, z2⟩ := z
    obtain ⟨oc, od, dt, sl⟩ := ob
    simp only at hd
    subst hd
    wp_walk using wpAny_loadPart' z1, wpAny_load z1
    exact ⟨_, rfl, z2⟩
theorem str_no_dict (b : Str) (u : Tok) (l : Addr) (ob : Obj) (es : Array DictEntry) (ep : Nat) (hd : ob.data = .dict es ep) :
    Meets (Builtin.«str.__eq__» ⟨[.str b u, .ref l], []⟩) (fun _ R s => s.heap.get? l = some ob ∧ R (.ok (.ret .notImplemented)) s) :=
  .of_wp fun P1 w1 A1 R1 s1 z => by
    obtain ⟨hp, gs, dr, tk, oz⟩ := s1
    obtain ⟨z1, z2⟩ := z
    obtain ⟨oc, od, dt, sl⟩ := ob
    simp only at hd
    subst hd
    wp_walk using wpAny_loadPart' z1, wpAny_load z1
    exact ⟨_, rfl, z2⟩
/-- dict.__eq__ with a text -/
theorem dict_no_str (b : Str) (u : Tok) (l : Addr) (ob : Obj) (hc : ob.cls = .type "dict") :
    Meets (Builtin.«dict.__eq__» ⟨[.ref l, .str b u], []⟩) (fun _ R s => s.heap.get? l = some ob ∧ R (.ok (.ret .notImplemented)) s) :=
  .of_wp fun P1 w1 A1 R1 s1 z => by
    obtain ⟨hp, gs, dr, tk, oz⟩ := s1
    obtain ⟨z1, z2⟩ := z
    obtain ⟨oc, od, dt, sl⟩ := ob
    simp only at hc
    subst hc
    have f1 := F.sub_str_dict
    wp_walk using wpAny_loadPart' z1, wpAny_load z1
    exact ⟨_, rfl, z2⟩
theorem eq_str_dict {A : Around} {s : Shared} {l : Addr} {ob : Obj} {es : Array DictEntry} {ep : Nat} (b : Str) (u : Tok) (hl : s.heap.get? l = some ob) (hc : ob.cls = .type "dict") (hd : ob.data = .dict es ep) (hu : A.units < cLine) : EqAt A s (.str b u) (.ref l) false := fun prog w E Q h => by
  unfold eqBool
  refine wpAny_holding ?_
  refine wpAny_ite_split (fun hab => absurd (eq_of_beq hab) nofun) (fun _ => ?_)
  refine wpAny_bind (rc_eq_decline_or (k := false) (typeIs_str s b u) ⟨_, hl, hc⟩ (by decide) F.sub_dict_str F.slot_str_eq F.slot_dict_eq_refl
    (fun _ hq => call_meets F.slot_str_eq (typeIs_str s b u) F.entry_str_eq (F.args_str_eq_2 _ _) (str_no_dict b u l ob es ep hd) ⟨hl, hq⟩)
    (fun _ hq => call_meets F.slot_dict_eq_refl ⟨_, hl, hc⟩ F.entry_dict_eq (F.args_dict_eq_2 _ _) (dict_no_str b u l ob hc) ⟨hl, hq⟩)
    (fun _ hq => wpAny_of_eq (rfl : isSame (.str b u) (.ref l) = pure false) hq) (.inr hu) (wpAny_truthy_bool h))
section
variable {prog : Program} {w : World} {A : Around} {E : Value → Shared → Prop} {s : Shared} {K : Frag} {x C f : Addr} {ox : Obj} {od : Option Obj}
/-- text == x, x an instance with its own __eq__: that one is asked -/
theorem eqb_str_own {b : Str} {u : Tok} {Q : Bool → Shared → Prop} (hu : A.units < cLine) (X : K.In s.heap) (I : InstAt s.heap x ox C od) (hp : ox.data = .plain) (nf : subIn K (.ref C) (.type "str") = some false)
    (hs : findIn K (.ref C) "__eq__" = some (some (.ref f))) (hf : isFn K (.ref f) = true)
    (h : wpAny (model prog w) A (call (.ref f) [.ref x, .str b u]) (fun r s' => ∃ k, r = .bool k ∧ Q k s') E s) : wpAny (model prog w) A (eqBool (.str b u) (.ref x)) Q E s := by
  have hx : s.heap.get? x = some ox := I.1
  have one : wpAny (model prog w) A (tryCompare (.ref x) "__eq__" (.str b u)) (fun r s' => ∃ k, r = some (.bool k) ∧ Q k s') E s := by
    unfold tryCompare
    refine wpAny_bind (ifBound_K X I hs hf (wpAny_mono h (fun v s' hv => ?_) fun _ _ e => e))
    obtain ⟨k, rfl, q⟩ := hv
    exact wpAny_pure ⟨k, rfl, q⟩
  unfold eqBool
  refine wpAny_holding ?_
  refine wpAny_ite_split (fun hab => absurd (eq_of_beq hab) nofun) (fun _ => ?_)
  refine wpAny_bind ?_
  have z := (typeIs_str s b u)
  simp only [richCompare, z.oneThing_none]
  refine wpAny_holding (wpAny_bind (wpAny_cRoomFor_or (.inr hu) ?_))
  refine wpAny_bind (wpAny_typeOf z (wpAny_bind (I.type.here ?_)))
  have ne : (Value.type "str" != Value.ref C) = true := rfl
  simp only [ne, if_true]
  refine wpAny_bind ((looks_subIn X nf).here ?_)
  simp only [Bool.false_eq_true, if_false, Bool.not_false, if_true]
  refine wpAny_bind (m := tryCompare (.str b u) _ (.ref x)) (wpAny_tryCompare_declines z F.slot_str_eq (call_meets F.slot_str_eq z F.entry_str_eq (F.args_str_eq_2 _ _) (str_no_plain b u x ox hp) ⟨hx, rfl, ?_⟩))
  refine wpAny_bind (m := tryCompare (.ref x) _ (.str b u)) (wpAny_mono one (fun r s' hr => ?_) fun _ _ e => e)
  obtain ⟨k, rfl, q⟩ := hr
  exact wpAny_pure (wpAny_truthy_bool q)
/-- x in a tuple, none of the items is equal to x; I stands all along -/
theorem in_none {l : Addr} {items : Array Value} {y : Value} {Q : Value → Shared → Prop} (J : Shared → Prop) (hl : s.heap.IsTuple l items)
    (turn : ∀ v, v ∈ items → ∀ s', J s' → wpAny (model prog w) A.in1 (eqBool v y) (fun r s2 => r = false ∧ J s2) E s') (fin : ∀ s', J s' → Q (.bool false) s') (h : J s) :
    wpAny (model prog w) A (compareOp .In y (.ref l)) Q E s := by
  obtain ⟨⟨cls, dd, data, sl⟩, ho, hc, n, hd⟩ := id hl
  simp only at hc hd
  subst hc hd
  have hT : s.TypeIs (.ref l) "tuple" := ⟨_, ho, rfl⟩
  have body : wpAny (model prog w) A (call (.builtin "tuple.__contains__") [.ref l, y]) (fun v s' => v = .bool false ∧ J s') E s := by
    refine GQ.call_here F.slot_tuple_contains hT F.entry_tuple_contains (F.args_tuple_contains_2 _ _) ?_
    obtain ⟨hp, gs, dr, tk, oz⟩ := s
    have go : ∀ v, v ∈ items.toList → ∀ s', J s' → wpAny (model prog w) A.in1 (eqBool v y) (fun r s2 => r = false ∧ J s2) (fun e s' => wants (fun v s' => v = Value.bool false ∧ J s') E (.error e) s') s' := fun v hv s' hj => turn v (by simpa using hv) s' hj
    wp_walk using wpAny_loadPart' ho, wpAny_forIn_array _ (fun rest b s' => b.1 = none ∧ (∀ v, v ∈ rest → v ∈ items.toList) ∧ J s') _
    case turn =>
      rintro v rest b s' ⟨hb, hmem, hJ⟩
      refine wpAny_bind (wpAny_mono (go v (hmem v (List.mem_cons_self ..)) s' hJ) (fun r s2 q => ?_) fun _ _ e => e)
      obtain ⟨rfl, hJ2⟩ := q
      wp_walk
      exact ⟨rfl, fun z hz => hmem z (List.mem_cons_of_mem _ hz), hJ2⟩
    case fin =>
      rintro ⟨b1, b2⟩ s' ⟨hb, -, hJ⟩
      simp only at hb
      subst hb
      wp_walk
      exact ⟨rfl, hJ⟩
    case h =>
      exact ⟨rfl, fun v hv => by simpa using hv, h⟩
  show wpAny _ A (do return .bool (← contains (.ref l) y)) Q E s
  refine wpAny_bind (wpAny_contains_slot hT F.slot_tuple_contains (wpAny_mono body (fun v s' hv => ?_) fun _ _ e => e))
  obtain ⟨rfl, hJ⟩ := hv
  exact wpAny_truthy_bool (wpAny_pure (fin s' hJ))
end
end MyN
end PySem

namespace L2
open PySem PySem.Spec PyProof.Rows
section
variable {X : Cx} {CI : CXT} {f : Addr} {fd : FuncData} {ps : List Str} {sp : Sp} {EI : XK} {n : Nat} {C : Addr}
/-- a list, a tuple or a dict -/
def NoText (K : PySem.W.Frag) (H : Hp) (x : V) : Prop := (∃ a xs, x = .ref a ∧ (SqL K H a xs ∨ SqT K H a xs)) ∨ ∃ a kvs, x = .ref a ∧ H a = some (.dK kvs)
theorem NoText.eqAt {pins : List (Addr × Obj)} {σ : St} {H : Hp} {s : Shared} {A : Around} {x : V} {u : Value} (I : Inv X pins σ H s) (rx : RelV x u) (h : NoText X.K H x) (hu : A.units < cLine) (b : Str) (t : Tok) : SeqAt.EqAt A s (.str b t) u false := by
  rcases h with ⟨a, xs, rfl, h | h⟩ | ⟨a, kvs, rfl, h⟩
  · cases rx
    obtain ⟨its, r, pl, _⟩ := I.list h
    exact SeqAt.EqAt.str_list b t pl.isList hu
  · cases rx
    obtain ⟨its, r, pl, _⟩ := I.tuple h
    exact SeqAt.EqAt.str_tuple b t (show s.heap.IsTuple a its.toArray from pl) hu
  · cases rx
    obtain ⟨_, _, vs, _, o, es, ep, h1, h2, h3, _⟩ := (show ObjOk X.prog X.w H s.heap a (.dK kvs) from I.hok a _ h)
    exact MyN.eq_str_dict b t h1 h2.1 h3 hu
theorem vals_str : ∀ {zs : List Str} {us : List Value}, Vals (zs.map V.str) us → ∀ u ∈ us, ∃ z t, z ∈ zs ∧ u = .str z t
  | [], _, .nil, u, hu => by cases hu
  | z :: zs, _, .cons r t, u, hu => by
    rcases List.mem_cons.mp hu with rfl | hu
    · obtain ⟨t, e⟩ := r
      exact ⟨z, t, List.mem_cons_self, e⟩
    · obtain ⟨z', t', h1, h2⟩ := vals_str t u hu
      exact ⟨z', t', List.mem_cons_of_mem _ h1, h2⟩
/-- x in a tuple of texts, x a list, a tuple, a dict -/
def rInN (K : PySem.W.Frag) : R2 := fun x y H Q => ∃ (p : Addr) (zs : List Str), y = .ref p ∧ SqT K H p (zs.map V.str) ∧ NoText K H x ∧ Q (.bl false) H
theorem op_inN (hu : X.A.units + 1 < cLine) : OpR X (compareOp .In) (rInN X.K) := by
  intro pins s σ H x y v u Q I rx ry h
  obtain ⟨p, zs, rfl, hq, nt, q⟩ := h
  cases ry
  obtain ⟨its, r, pl, hz⟩ := I.tuple hq
  refine SeqAt.in_tupleAt (fun _ => false) (show s.heap.IsTuple p its.toArray from pl) (fun w hw => ?_) ⟨.bl _, H, I, rfl, ?_⟩
  · obtain ⟨z, t, _, rfl⟩ := vals_str r w (by simpa using hw)
    exact nt.eqAt I rx (show X.A.in1.units < cLine from hu) z t
  · rw [show its.toArray.any (fun _ => false) = false by simp]
    exact q
/-- x in a tuple of texts, x an instance with its own == that gives False for them -/
def rInI (K : PySem.W.Frag) (C : Addr) (sp : Sp) (E : XK) : R2 := fun x y H Q => ∃ (p : Addr) (zs : List Str) (a dx : Addr) (fs : List (Str × V)), y = .ref p ∧ SqT K H p (zs.map V.str) ∧ x = .ref a ∧ H a = some (.ins C dx fs) ∧
  (∀ z H1, z ∈ zs → Ext H H1 → sp [.ref a, .str z] H1 (fun v H2 => v = .bl false ∧ Ext H1 H2) E) ∧ ∀ H', Ext H H' → Q (.bl false) H'
theorem op_inI (hr : Room (n + 1) X.A) (M : OwnM X.K C "__eq__" f) (nf : PySem.W.subIn X.K (.ref C) (.type "str") = some false) (F : FnOk X.prog X.w X.K X.mg X.base CI n f fd ps sp) (hb : Binds X.K fd ps []) (hx : Passes CI X EI) : OpR X (compareOp .In) (rInI X.K C sp EI) := by
  intro pins s σ H x y v u Q I rx ry h
  obtain ⟨p, zs, a, dx, fs, rfl, hq, rfl, ha, hsp, q⟩ := h
  cases ry
  cases rx
  obtain ⟨its, r, pl, hz⟩ := I.tuple hq
  have sb : Sub X n X.A.in1 := Sub.in1 (⟨hr, rfl⟩ : Sub X (n + 1) X.A)
  refine MyN.in_none (fun s' => ∃ H', Inv X pins σ H' s' ∧ Ext H H') (show s.heap.IsTuple p its.toArray from pl) (fun w hw s' hJ => ?_) (fun s' hJ => ?_) ⟨H, I, Ext.rfl'⟩
  · obtain ⟨z, t, hz, rfl⟩ := vals_str r w (by simpa using hw)
    obtain ⟨H', I', x'⟩ := hJ
    have ha' := x' _ _ ha
    obtain ⟨mA, J, _⟩ := ins_get I'.hok ha'
    obtain ⟨od, J, _⟩ := J.look
    refine MyN.eqb_str_own sb.room.units0 I'.kIn J rfl nf M.at_ M.fn ?_
    refine wpAny_mono (run_sub sb F (envSub I' sb) hb hx I' (rv2 a (y := .str z) (u := .str z t) ⟨t, rfl⟩) (hsp z H' hz x')) (fun w2 s2 hq2 => ?_) fun _ _ z => z
    obtain ⟨y2, H2, I2, rz, rfl, x2⟩ := hq2
    cases rz
    exact ⟨false, rfl, rfl, H2, I2, x'.trans x2⟩
  · obtain ⟨H', I', x'⟩ := hJ
    exact ⟨.bl false, H', I', rfl, q H' x'⟩
end
end L2

namespace My
open PySem PySem.Spec PyProof.Rows L2
/-! ### tuples and lists of texts as data -/
theorem dpAll_str {K : PySem.W.Frag} {H : Hp} : ∀ zs : List Str, DpAll K H (zs.map V.str) (zs.map PyData.str)
  | [] => .nil
  | z :: zs => .cons (.str z) (dpAll_str zs)
def OkS (zs : List Str) : Prop := ∀ z, z ∈ zs → PyData.strOk z = true
theorem canLay_str : ∀ zs : List Str, OkS zs → PyData.canLayAll0 (zs.map PyData.str) = true
  | [], _ => rfl
  | z :: zs, h => by
    show (PyData.strOk z && PyData.canLayAll0 (zs.map PyData.str)) = true
    rw [canLay_str zs fun y hy => h y (List.mem_cons_of_mem _ hy), h z List.mem_cons_self]
    rfl
theorem depths_str : ∀ zs : List Str, PyData.depthAll (zs.map PyData.str) ≤ 1
  | [] => Nat.zero_le _
  | z :: zs => Nat.max_le.mpr ⟨Nat.le_of_ble_eq_true rfl, depths_str zs⟩
theorem shaped_strT (zs : List Str) (h0 : OkS zs) : SeqAt.shaped (.tuple (zs.map PyData.str)) = true := by
  refine Bool.and_eq_true_iff.mpr ⟨canLay_str zs h0, decide_eq_true ?_⟩
  have h := depths_str zs
  show PyData.depthAll (zs.map PyData.str) + 1 ≤ 64
  omega
theorem shaped_strL (zs : List Str) (h0 : OkS zs) : SeqAt.shaped (.list (zs.map PyData.str)) = true := by
  refine Bool.and_eq_true_iff.mpr ⟨canLay_str zs h0, decide_eq_true ?_⟩
  have h := depths_str zs
  show PyData.depthAll (zs.map PyData.str) + 1 ≤ 64
  omega
theorem eqvAll_str : ∀ zs ws : List Str, PyData.eqvAll (zs.map PyData.str) (ws.map PyData.str) = decide (zs = ws)
  | [], [] => rfl
  | [], _ :: _ => rfl
  | _ :: _, [] => rfl
  | z :: zs, w :: ws => by
    show (PyData.eqv (.str z) (.str w) && PyData.eqvAll (zs.map PyData.str) (ws.map PyData.str)) = _
    rw [eqvAll_str zs ws]
    show ((z == w) && decide (zs = ws)) = _
    by_cases h : z = w
    · subst h
      simp
    · simp [h]
theorem eqv_strT (zs ws : List Str) : PyData.eqv (.tuple (zs.map PyData.str)) (.tuple (ws.map PyData.str)) = decide (zs = ws) := eqvAll_str zs ws
/-- a house of names -/
def Hou (H : Hp) (K : PySem.W.Frag) (C a : Addr) (fo th : List Str) : Prop := HouseAt H K C a (fo.map V.str) (th.map V.str) ∧ OkS fo ∧ OkS th
theorem Hou.ext {H H' : Hp} {K : PySem.W.Frag} {C a : Addr} {fo th : List Str} (h : Hou H K C a fo th) (e : Ext H H') : Hou H' K C a fo th := ⟨HouseAt.ext h.1 e, h.2⟩
theorem Hou.ins {H : Hp} {K : PySem.W.Frag} {C a : Addr} {fo th : List Str} (h : Hou H K C a fo th) : ∃ dx fs, H a = some (.ins C dx fs) := by
  obtain ⟨⟨dx, fs, _, _, _, h1, _⟩, _⟩ := h
  exact ⟨dx, fs, h1⟩
def spHLen (K : PySem.W.Frag) (C : Addr) : Sp := fun vs H Q _ => ∃ a fo th, vs = [.ref a] ∧ Hou H K C a fo th ∧ Q (.int ((fo ++ th).length : Nat)) H
def spHEq (K : PySem.W.Frag) (C : Addr) : Sp := fun vs H Q _ => ∃ a fo th y, vs = [.ref a, y] ∧ Hou H K C a fo th ∧ ((∃ t, TyX K H y t ∧ PySem.W.kitOne K t (.ref C) = some false ∧ Q (.bl false) H) ∨
  ∃ b fo2 th2, y = .ref b ∧ Hou H K C b fo2 th2 ∧ Q (.bl (decide (fo = fo2) && decide (th = th2))) H)
def spHHas (K : PySem.W.Frag) (C : Addr) : Sp := fun vs H Q _ => ∃ a fo th y, vs = [.ref a, y] ∧ Hou H K C a fo th ∧ ((flatV y = true ∧ Q (.bl (inV y ((fo ++ th).map V.str))) H) ∨ (NoText K H y ∧ Q (.bl false) H) ∨
  ∃ b fo2 th2, y = .ref b ∧ Hou H K C b fo2 th2 ∧ ∀ H', Ext H H' → Q (.bl false) H')
theorem tyH {K : PySem.W.Frag} {H : Hp} {C a : Addr} {fo th : List Str} (T : HouC K C) (h : Hou H K C a fo th) : TyX K H (.ref a) (.ref C) := by
  obtain ⟨dx, fs, e⟩ := h.ins
  exact .base (.ins e T.cl T.ha T.hn T.htk T.hm)
section
variable {P : Program} {w : World} {K : PySem.W.Frag} {mg : Str → Option Value} {base : Heap} {f fE C : Addr} {fd fdE : FuncData}
theorem ok_hLen (Fn : FunD K "__len__" "House.__len__" (defArgs sHLen) (defBody sHLen) (defScope sHLen) [] [] f fd) (T : HouC K C) (gN : mg "len" = none) : FnOk P w K mg base CX0 1 f fd ["self"] (spHLen K C) := by
  refine Fn.ok scHLen (fun vs H Q E h => ?_) (fun cdv A outer s H vs Q E hr h => ⟨_, PSs.nox (pss_one (ps_ret (pe_callB call_len (by rfl) gN boot_len (pa_cons (pe_fld (pv 0) rfl) pa_nil)))), ?_⟩)
  · obtain ⟨a, fo, th, rfl, _⟩ := h
    rfl
  · obtain ⟨a, fo, th, rfl, ⟨⟨dx, fs, f, t, n, h1, h2, h3, h4, h5, h6, h7⟩, ok1, ok2⟩, q⟩ := h
    refine ⟨_, rfl, a, C, dx, fs, _, rfl, h1, T.cl, T.nn, h4, _, _, rfl, .inr ⟨_, h7, rfl⟩, ?_⟩
    rw [← List.map_append, List.length_map]
    exact q
theorem ok_hIter (Fn : FunD K "__iter__" "House.__iter__" (defArgs sHIter) (defBody sHIter) (defScope sHIter) [] [] f fd) (T : HouC K C) (gI : mg "iter" = none) : FnOk P w K mg base CX0 1 f fd ["self"] (spIter K C "nodes" base.objs.size) := by
  refine Fn.ok scHIter (fun vs H Q E h => ?_) (fun cdv A outer s H vs Q E hr h => ⟨_, PSs.nox (pss_one (ps_ret (pe_callB call_iterT (by rfl) gI boot_iter (pa_cons (pe_fld (pv 0) rfl) pa_nil)))), ?_⟩)
  · obtain ⟨a, _, _, _, _, rfl, _⟩ := h
    rfl
  · obtain ⟨a, dx, fs, l, zs, rfl, h1, h2, h3, q⟩ := h
    exact ⟨_, rfl, a, C, dx, fs, _, rfl, h1, T.cl, T.nn, h2, l, zs, rfl, h3, q⟩
theorem ok_hEq (Fn : FunD K "__eq__" "House.__eq__" (defArgs sHEq) (defBody sHEq) (defScope sHEq) [] [] f fd) (T : HouC K C) (gI : mg "isinstance" = none) (gH : mg "House" = some (.ref C)) (kC : PySem.W.kitOne K (.ref C) (.ref C) = some true) :
    FnOk P w K mg base CX0 1 f fd ["self", "other"] (spHEq K C) := by
  refine Fn.ok scHEq (fun vs H Q E h => ?_) (fun cdv A outer s H vs Q E hr h => ⟨_, PSs.nox (pss_one (ps_ret
    (pe_and (pe_callB call_isi (by rfl) gI boot_isinstance (pa_cons (pv 1) (pa_cons (pe_glob (v := .ref C) (by rfl) gH rfl) pa_nil)))
    (pe_and (pe_cmpR (op_eqD hr.units) (pe_fld (pv 0) rfl) (pe_fld (pv 1) rfl) (nomark _))
    (pe_one (pe_cmpR (op_eqD hr.units) (pe_fld (pv 0) rfl) (pe_fld (pv 1) rfl) (nomark _))))))), ?_⟩)
  · obtain ⟨a, _, _, _, rfl, _⟩ := h
    rfl
  · obtain ⟨a, fo, th, y, rfl, ho, h⟩ := h
    rcases h with ⟨t, ty, kt, q⟩ | ⟨b, fo2, th2, rfl, ho2, q⟩
    · refine ⟨_, rfl, y, .ref C, t, .ref C, false, rfl, .own C, ty, kt, false, rfl, ?_⟩
      exact q
    · refine ⟨_, rfl, .ref b, .ref C, .ref C, .ref C, true, rfl, .own C, tyH T ho2, kC, true, rfl, ?_⟩
      refine iteT ?_
      obtain ⟨⟨dx, fs, f, t, n, h1, h2, h3, h4, h5, h6, h7⟩, ok1, ok2⟩ := ho
      obtain ⟨⟨dx', fs', f', t', n', g1, g2, g3, g4, g5, g6, g7⟩, pk1, pk2⟩ := ho2
      refine ⟨_, rfl, a, C, dx, fs, _, rfl, h1, T.cl, T.nf, h2, _, rfl, b, C, dx', fs', _, rfl, g1, T.cl, T.nf, g2, _, _, .tup h5 (dpAll_str fo), .tup g5 (dpAll_str fo2), shaped_strT fo ok1, shaped_strT fo2 pk1, _, rfl, ?_⟩
      rw [eqv_strT]
      refine ite2 (fun e => ?_) (fun e => ?_)
      · refine ⟨_, rfl, a, C, dx, fs, _, rfl, h1, T.cl, T.nt, h3, _, rfl, b, C, dx', fs', _, rfl, g1, T.cl, T.nt, g3, _, _, .tup h6 (dpAll_str th), .tup g6 (dpAll_str th2), shaped_strT th ok2, shaped_strT th2 pk2, ?_⟩
        rw [eqv_strT]
        rw [e, Bool.true_and] at q
        exact q
      · have e' : decide (fo = fo2) = false := by simpa using e
        rw [e', Bool.false_and] at q
        exact q
theorem ok_hHas (Fn : FunD K "__contains__" "House.__contains__" (defArgs sHHas) (defBody sHHas) (defScope sHHas) [] [] f fd) (T : HouC K C) (nf : PySem.W.subIn K (.ref C) (.type "str") = some false) (Me : OwnM K C "__eq__" fE)
    (FE : FnOk P w K mg base CX0 1 fE fdE ["self", "other"] (spHEq K C)) (bE : Binds K fdE ["self", "other"] []) (kS : PySem.W.kitOne K (.type "str") (.ref C) = some false) : FnOk P w K mg base CX0 3 f fd ["self", "x"] (spHHas K C) := by
  refine Fn.ok scHHas (fun vs H Q E h => ?_) (fun cdv A outer s H vs Q E hr h => ⟨_, PSs.nox (pss_one (ps_ret
    (pe_cmpR (OpR.or op_in_seq (OpR.or (op_inN (Nat.lt_of_le_of_lt (Nat.add_le_add_left (by decide : 1 ≤ 64) _) hr.units)) (op_inI (EI := E0) hr Me nf FE bE pass0))) (pv 1) (pe_fld (pv 0) rfl) (by rfl)))), ?_⟩)
  · obtain ⟨a, _, _, _, rfl, _⟩ := h
    rfl
  · obtain ⟨a, fo, th, y, rfl, ho, h⟩ := h
    have ho' := ho
    obtain ⟨⟨dx, fs, f, t, n, h1, h2, h3, h4, h5, h6, h7⟩, ok1, ok2⟩ := ho
    rw [← List.map_append] at h7
    refine ⟨_, rfl, _, rfl, a, C, dx, fs, _, rfl, h1, T.cl, T.nn, h4, ?_⟩
    rcases h with ⟨fy, q⟩ | ⟨ny, q⟩ | ⟨b, fo2, th2, rfl, ho2, q⟩
    · exact .inl ⟨n, _, rfl, .inr h7, fy, by rw [List.all_map]; exact List.all_eq_true.mpr fun _ _ => rfl, q⟩
    · exact .inr (.inl ⟨n, fo ++ th, rfl, h7, ny, q⟩)
    · obtain ⟨dx', fs', g1⟩ := ho2.ins
      refine .inr (.inr ⟨n, fo ++ th, b, dx', fs', rfl, h7, rfl, g1, fun z H1 _ x1 => ?_, q⟩)
      exact ⟨b, fo2, th2, .str z, rfl, ho2.ext x1, .inl ⟨_, .base (.str z), kS, rfl, Ext.rfl'⟩⟩
end
end My

namespace L2
open PySem PySem.Spec PyProof.Rows
/-- C(..) where __init__ may raise, wished for at the caller's slots -/
def tMakeS (C : Addr) (sp : Sp) (ws : List V) (W : L2.St → XK) (t : TA) : TE := fun σ H Q => t σ H fun vs H1 => ∀ x dx, H1 x = none → H1 dx = none → dx ≠ x →
  sp (.ref x :: (vs ++ ws)) (upd (upd H1 dx (.own x)) x (.ins C dx [])) (fun v H2 => v = .non ∧ Q (.ref x) H2) (W σ)
section
variable {X : Cx} {CI : CXT} {n : Nat} {fI C : Addr} {fd : FuncData} {ps : List Str} {sp : Sp} {ws : List V} {wu : List Value} {W : L2.St → XK} {x : Str} {p pos : Pos} {e : Expr} {es : List Expr} {t : TA}
theorem make_sub {pins : List (Addr × Obj)} {σ : L2.St} {H : Hp} {s : Shared} {Q : VK} {us : List Value} {vs : List V} {EW : XK} (M : Mk X.K C fI) (Fi : FnOk X.prog X.w X.K X.mg X.base CI n fI fd ps sp) (room : Room (n + 1) X.A)
    (bi : Binds X.K fd ps wu) (rw' : Vals ws wu) (let_ : PassesAt CI X σ EW) (I : Inv X pins σ H s) (rv : Vals vs us)
    (go : ∀ y dy, H y = none → H dy = none → dy ≠ y → sp (.ref y :: (vs ++ ws)) (upd (upd H dy (.own y)) y (.ins C dy [])) (fun v H2 => v = .non ∧ Q (.ref y) H2) EW) :
    wpAny (model X.prog X.w) X.A (call (.ref C) us) (EP X pins σ Q) X.xe s := by
  have want := go (s.heap.objs.size + 1) s.heap.objs.size (I.hok.fresh (Nat.le_succ _)) (I.hok.fresh (Nat.le_refl _)) (Nat.ne_of_lt (Nat.lt_succ_self _))
  have J := Inv.made (C := C) I
  have all : Vals (V.ref (s.heap.objs.size + 1) :: (vs ++ ws)) (Value.ref (s.heap.objs.size + 1) :: (us ++ wu)) := .cons rfl (rv.append rw')
  have many : (Value.ref (s.heap.objs.size + 1) :: us ++ wu).length = ps.length := all.length.symm.trans (Fi.len _ _ _ _ want)
  have ran := Fi.run _ X.stack _ _ ⟨Value.ref (s.heap.objs.size + 1) :: us, []⟩ _ _ _ EW (room.make C us []) (J.env0.make C us []) (bi _ _ J.kIn many) all want
  refine wpAny_call (make_map (f := fI) I.kIn M.makes M.init (beq_iff_eq.mp M.fn) (codeAny_mono ran ?_))
  rintro (er | fl) s' back
  · exact let_ pins _ _ er s' J back
  · cases fl with
    | ret u =>
      obtain ⟨v, H', J', ru, ⟨ev, q⟩⟩ := J.after back
      subst ev
      exact ⟨ru, .ref _, H', J', rfl, q⟩
    | next => exact back.elim
    | brk => exact back.elim
    | cont => exact back.elim
theorem pe_makeS (M : Mk X.K C fI) (Fi : FnOk X.prog X.w X.K X.mg X.base CI n fI fd ps sp) (room : Room (n + 1) X.A) (gl : Gl X x) (gm : X.mg x = some (.ref C)) (bi : Binds X.K fd ps wu) (rw' : Vals ws wu) (let_ : ∀ σ, PassesAt CI X σ (W σ))
    (ha : PA X (e :: es) t) (nd : (x == ("__debug__" : Str)) = false := by decide) (h1 : starEach (e :: es) X.env = (false, eval e X.env) :: starEach es X.env := by rfl) (h2 : (backTo pos (starEach es X.env)).any (·.1) = false := by rfl) :
    PE X (.Call (.Name x p) (e :: es) [] pos) (tMakeS C sp ws W t) :=
  ⟨fun pins s σ H Q I h => wpAny_Call_Name_kw (ld_glob I gl gm (PySem.W.callWith_K (h₀ := X.base) I.ok.mod.kin M.kp (thn (ha.run pos pins s σ H _ I h) fun _ _ ⟨_, _, I1, r, q⟩ => ⟨I1.kIn, make_sub M Fi room bi rw' (let_ σ) I1 r q⟩) h1 h2) nd)⟩
end
end L2

namespace L2
open PySem PySem.Spec PyProof.Rows
/-- a dict == a text -/
def rEqDS : R2 := fun x y H Q => ∃ a kvs z, x = .ref a ∧ y = .str z ∧ H a = some (.dK kvs) ∧ Q (.bl false) H
theorem op_eqDS {X : Cx} (hu : X.A.units < cLine) : OpR X (compareOp .Eq) rEqDS := by
  intro pins s σ H x y v u Q I rx ry h
  obtain ⟨a, kvs, z, rfl, rfl, ha, q⟩ := h
  cases rx
  obtain ⟨t, rfl⟩ := ry
  obtain ⟨_, _, vs, _, o, es, ep, h1, h2, h3, _⟩ := (show ObjOk X.prog X.w H s.heap a (.dK kvs) from I.hok a _ ha)
  show wpAny _ _ (richCompare .Eq (.ref a) (.str z t)) _ _ s
  exact SeqAt.rc_eq_decline_or (k := false) ⟨_, h1, h2.1⟩ (PySem.typeIs_str s z t) (by decide) F.sub_str_dict F.slot_dict_eq F.slot_str_eq_refl
    (fun _ hq => call_meets F.slot_dict_eq ⟨_, h1, h2.1⟩ F.entry_dict_eq (F.args_dict_eq_2 _ _) (MyN.dict_no_str z t a o h2.1) ⟨h1, hq⟩)
    (fun _ hq => call_meets F.slot_str_eq_refl (PySem.typeIs_str s z t) F.entry_str_eq (F.args_str_eq_2 _ _) (MyN.str_no_dict z t a o es ep h3) ⟨h1, hq⟩)
    (fun _ hq => wpAny_of_eq (rfl : isSame (.ref a) (.str z t) = pure false) hq) (.inr hu) ⟨.bl false, H, I, rfl, q⟩
end L2

namespace L2
open PySem PySem.Spec PyProof.Rows
theorem wp_notB {M : Model} {A : Around} {E : Value → Shared → Prop} {s : Shared} {m : Sem Bool} {Q Q' : Value → Shared → Prop}
  (h : wpAny M A (m >>= fun z => pure (Value.bool z)) Q E s) (hq : ∀ b s', Q (.bool b) s' → Q' (.bool (!b)) s') : wpAny M A (m >>= fun z => pure (Value.bool (!z))) Q' E s := by
  intro Γ p hi
  have z := h Γ p hi
  have z2 : Sem.wp M Γ (m.bind fun z => Sem.pure (Value.bool z)) (fun a x s' => Q a s') (fun e x s' => E e s') p s := z
  show Sem.wp M Γ (m.bind fun z => Sem.pure (Value.bool (!z))) (fun a x s' => Q' a s') (fun e x s' => E e s') p s
  rw [Sem.wp_bind] at z2 ⊢
  exact Sem.wp_mono _ _ _ (fun a p' s' q => hq a s' q) (fun _ _ _ e => e) _ _ z2
def rNot (r : R2) : R2 := fun x y H Q => r x y H (fun v H' => ∃ b, v = .bl b ∧ Q (.bl (!b)) H')
theorem OpR.notIn {X : Cx} {r : R2} (h : OpR X (compareOp .In) r) : OpR X (compareOp .NotIn) (rNot r) := by
  intro pins s σ H x y v u Q I rx ry h2
  have z := h pins s σ H x y v u _ I rx ry h2
  refine wp_notB z fun b s' q => ?_
  obtain ⟨w, H', I', rw', c, rfl, q⟩ := q
  have e : b = c := by cases rw'; rfl
  subst e
  exact ⟨.bl (!b), H', I', rfl, q⟩
end L2

namespace My
open PySem PySem.Spec PyProof.Rows L2
/-! ### names -/
def oddNm : List Str := ["zz", "zzz", "zy", "zr", "zs", "zt", "zu", "zv"]
def Nm (z : Str) : Prop := nameB z = true ∧ z.length ≠ 4 ∧ z ≠ "zq" ∧ z.length ≤ 8 ∧ PyData.strOk z = true ∧ ∀ b ∈ oddNm, z ≠ b
instance (z : Str) : Decidable (Nm z) := by unfold Nm; exact inferInstance
def az : Str := "abcdefghijklmnopqrstuvwxy"
def ap : Str := "abcdefghijklmnop"
def spares : List Str := ap.cps.toList.map fun c => ("z" : Str) ++ (⟨#[c]⟩ : Str) ++ ("q" : Str)
theorem spares_nm : ∀ z ∈ spares, Nm z := by decide +kernel
theorem spares_nd : spares.Nodup := by decide +kernel
theorem spares_len : spares.length = 16 := by decide +kernel
theorem nodup_sub : ∀ (as bs : List Str), as.Nodup → (∀ x, x ∈ as → x ∈ bs) → as.length ≤ bs.length
  | [], bs, _, _ => Nat.zero_le _
  | a :: as, bs, nd, h => by
    obtain ⟨na, nd'⟩ := List.nodup_cons.mp nd
    have ha := h a List.mem_cons_self
    have ih := nodup_sub as (bs.erase a) nd' fun x hx => (List.mem_erase_of_ne (fun e => by rw [e] at hx; exact na hx)).mpr (h x (List.mem_cons_of_mem _ hx))
    rw [List.length_erase_of_mem ha] at ih
    have : 0 < bs.length := List.length_pos_of_mem ha
    rw [List.length_cons]
    omega
theorem inV_str (z : Str) (zs : List Str) : inV (.str z) (zs.map V.str) = decide (z ∈ zs) := by
  unfold inV
  rw [List.any_map, Bool.eq_iff_iff, List.any_eq_true, decide_eq_true_iff]
  constructor
  · rintro ⟨x, hx, e⟩
    have e' : x = z := eq_of_beq e
    exact e' ▸ hx
  · intro h
    exact ⟨z, h, beq_self_eq_true z⟩
/-- the first of the spare ones that is not found as yet -/
def freshOf (w : Str) (zs : List Str) : List Str := (w :: spares).filter fun z => !decide (z ∈ zs)
theorem fresh_ne {w : Str} {zs : List Str} (h : zs.length < 16) : ∃ z r, freshOf w zs = z :: r := by
  cases e : freshOf w zs with
  | cons z r => exact ⟨z, r, rfl⟩
  | nil =>
    exfalso
    have hall : ∀ x, x ∈ spares → x ∈ zs := fun x hx => by
      have h1 := List.filter_eq_nil_iff.mp e x (List.mem_cons_of_mem _ hx)
      simpa using h1
    have := nodup_sub spares zs spares_nd hall
    rw [spares_len] at this
    omega
theorem fresh_mem {w z : Str} {zs r : List Str} (h : freshOf w zs = z :: r) (hw : Nm w) : Nm z ∧ z ∉ zs := by
  have hm : z ∈ freshOf w zs := by rw [h]; exact List.mem_cons_self
  obtain ⟨h1, h2⟩ := List.mem_filter.mp hm
  refine ⟨?_, by simpa using h2⟩
  rcases List.mem_cons.mp h1 with rfl | h1
  · exact hw
  · exact spares_nm z h1
/-- a word of signs from a to y -/
theorem joinL_one : ∀ cs : List Nat, TL.joinL [] (cs.map fun c => [c]) = cs
  | [] => rfl
  | [_] => rfl
  | c :: d :: r => by
    show [c] ++ ([] ++ TL.joinL [] ((d :: r).map fun c => [c])) = _
    rw [joinL_one (d :: r)]
    rfl
theorem join_one (cs : List Nat) : (Txt.join "" (cs.map fun c => (⟨#[c]⟩ : Str))).cps.toList = cs := by
  rw [TL.join_eq]
  have h := TL.tl_join "" (cs.map fun c => (⟨#[c]⟩ : Str))
  rw [List.map_map] at h
  exact h.trans (joinL_one cs)
theorem word_nm {z : Str} {cs : List Nat} (e : z.cps.toList = cs) (hc : ∀ c, c ∈ cs → c ∈ az.cps.toList) (hn : cs.length ∈ [1, 1, 2, 3, 8]) : Nm z := by
  have len : z.length = cs.length := by
    show z.cps.size = _
    rw [← Array.length_toList, e]
  have all : ∀ c, c ∈ cs → c ∈ letters.cps.toList ∧ c < 122 := fun c h => by
    have h1 := hc c h
    have key : ∀ c, c ∈ az.cps.toList → c ∈ letters.cps.toList ∧ c < 122 := by decide +kernel
    exact key c h1
  have l18 : 1 ≤ cs.length ∧ cs.length ≤ 8 ∧ cs.length ≠ 4 := by
    simp only [List.mem_cons, List.not_mem_nil, or_false] at hn
    omega
  refine ⟨?_, by rw [len]; exact l18.2.2, fun h => ?_, by rw [len]; exact l18.2.1, ?_, fun b hb h => ?_⟩
  · unfold nameB
    rw [decide_eq_true (by rw [len]; omega), decide_eq_true (by rw [len]; omega), Bool.true_and, Bool.true_and, List.all_eq_true]
    intro b hb
    unfold signB at hb
    obtain ⟨c, hc', rfl⟩ := List.mem_map.mp hb
    rw [e] at hc'
    exact decide_eq_true (all c hc').1
  · have h122 : (122 : Nat) ∈ cs := by
      rw [← e, h]
      decide +kernel
    exact absurd (all 122 h122).2 (Nat.lt_irrefl _)
  · show z.cps.all _ = true
    rw [← Array.all_toList, e, List.all_eq_true]
    intro c h
    exact decide_eq_true (Nat.lt_trans (all c h).2 (by decide))
  · have h122 : (122 : Nat) ∈ cs := by
      rw [← e, h]
      exact (show ∀ b ∈ oddNm, (122 : Nat) ∈ b.cps.toList by decide +kernel) b hb
    exact absurd (all 122 h122).2 (Nat.lt_irrefl _)
theorem sum_one : ∀ cs : List Nat, (((cs.map fun c => (⟨#[c]⟩ : Str))).map (·.length)).sum = cs.length
  | [] => rfl
  | c :: r => by
    show 1 + (((r.map fun c => (⟨#[c]⟩ : Str))).map (·.length)).sum = _
    rw [sum_one r, List.length_cons, Nat.add_comm]
theorem pool_ext {H H' : Hp} {p : Addr} {n : Int} (h : Pool H p n) (e : Ext H H') : Pool H' p n := by
  obtain ⟨g, m, c, h1, h2⟩ := h
  exact ⟨g, m, c, e _ _ h1, h2⟩
theorem pool_at {H H' : Hp} {p : Addr} {n : Int} (h : Pool H p n) (e : H' p = H p) : Pool H' p n := by
  obtain ⟨g, m, c, h1, h2⟩ := h
  exact ⟨g, m, c, by rw [e]; exact h1, h2⟩
theorem pool_ne {H : Hp} {p l : Addr} {n : Int} (h : Pool H p n) (e : H l = none) : l ≠ p := fun z => by
  obtain ⟨g, m, c, h1, _⟩ := h
  rw [z, h1] at e
  cases e
theorem But.ext {H H1 H2 : Hp} {a : Addr} (b : But H H1 a) (e : Ext H1 H2) : But H H2 a := b.trans (ext_but e)
/-- names: unlike, none of four signs, none zq -/
def Nms (zs : List Str) : Prop := zs.Nodup ∧ ∀ z, z ∈ zs → Nm z
structure HouseTxt (P : Program) (w : World) (K : PySem.W.Frag) (mg : Str → Option Value) (C CB : Addr) where
  T : HouC K C
  gH : mg "House" = some (.ref C)
  kCC : PySem.W.kitOne K (.ref C) (.ref C) = some true
  ne : PySem.W.findIn K (.ref C) "__ne__" = some (some (.builtin "object.__ne__"))
  noStr : PySem.W.subIn K (.ref C) (.type "str") = some false
  nb : ∀ T, T ∈ ["NoneType", "list", "tuple", "int", "str"] → PySem.W.notFirst K C (.type T) = true ∧ PySem.W.kitOne K (.type T) (.ref C) = some false
  fI : Addr
  fdI : FuncData
  M : Mk K C fI
  I : ∀ base, FnOk P w K mg base (L2.CX P w) 4 fI fdI ["self", "folders", "things"] (spHInit K C CB)
  bI : Binds K fdI ["self", "folders", "things"] []
  uD : Value
  bD : Binds K fdI ["self", "folders", "things"] [uD]
  aD : Addr
  eD : uD = .ref aD
  tD : ∀ H, SqT K H aD []
  fL : Addr
  fdL : FuncData
  mL : OwnM K C "__len__" fL
  L : ∀ base, FnOk P w K mg base CX0 1 fL fdL ["self"] (spHLen K C)
  bL : Binds K fdL ["self"] []
  fS : Addr
  fdS : FuncData
  mS : OwnM K C "__contains__" fS
  S : ∀ base, FnOk P w K mg base CX0 3 fS fdS ["self", "x"] (spHHas K C)
  bS : Binds K fdS ["self", "x"] []
  fW : Addr
  fdW : FuncData
  mW : OwnM K C "__iter__" fW
  W : ∀ base : Heap, FnOk P w K mg base CX0 1 fW fdW ["self"] (spIter K C "nodes" base.objs.size)
  bW : Binds K fdW ["self"] []
  fE : Addr
  fdE : FuncData
  mE : OwnM K C "__eq__" fE
  E : ∀ base, FnOk P w K mg base CX0 1 fE fdE ["self", "other"] (spHEq K C)
  bE : Binds K fdE ["self", "other"] []
/-! ### lists of truths as data -/
theorem dpAll_bl {K : PySem.W.Frag} {H : Hp} : ∀ bs : List Bool, DpAll K H (bs.map V.bl) (bs.map PyData.bool)
  | [] => .nil
  | b :: bs => .cons (.bl b) (dpAll_bl bs)
theorem canLay_bl : ∀ bs : List Bool, PyData.canLayAll0 (bs.map PyData.bool) = true
  | [] => rfl
  | b :: bs => by
    show (PyData.canLay0 (.bool b) && PyData.canLayAll0 (bs.map PyData.bool)) = true
    rw [canLay_bl bs]
    rfl
theorem depths_bl : ∀ bs : List Bool, PyData.depthAll (bs.map PyData.bool) ≤ 1
  | [] => Nat.zero_le _
  | b :: bs => by
    have h := depths_bl bs
    show max (PyData.depth (.bool b)) (PyData.depthAll (bs.map PyData.bool)) ≤ 1
    exact Nat.max_le.mpr ⟨by decide +revert, h⟩
theorem shaped_bl (bs : List Bool) : SeqAt.shaped (.list (bs.map PyData.bool)) = true := by
  refine Bool.and_eq_true_iff.mpr ⟨canLay_bl bs, decide_eq_true ?_⟩
  have h := depths_bl bs
  show PyData.depthAll (bs.map PyData.bool) + 1 ≤ 64
  omega
theorem inV_no {y : V} (h : ∀ z, eqV (.str z) y = false) (zs : List Str) : inV y (zs.map V.str) = false := by
  unfold inV
  rw [List.any_map, List.any_eq_false]
  intro z _ e
  have e' : eqV (.str z) y = true := e
  rw [h z] at e'
  cases e'
/-! ### lists of lists as data -/
theorem canLay_ds : ∀ ds : List PyData, (∀ d, d ∈ ds → d.canLay0 = true ∧ d.depth ≤ 2) → PyData.canLayAll0 ds = true ∧ PyData.depthAll ds ≤ 2
  | [], _ => ⟨rfl, Nat.zero_le _⟩
  | d :: ds, h => by
    obtain ⟨h1, h2⟩ := canLay_ds ds fun x hx => h x (List.mem_cons_of_mem _ hx)
    obtain ⟨h3, h4⟩ := h d List.mem_cons_self
    refine ⟨?_, Nat.max_le.mpr ⟨h4, h2⟩⟩
    show (d.canLay0 && PyData.canLayAll0 ds) = true
    rw [h1, h3]
    rfl
theorem shaped_ds (ds : List PyData) (h : ∀ d, d ∈ ds → d.canLay0 = true ∧ d.depth ≤ 2) : SeqAt.shaped (.list ds) = true := by
  obtain ⟨h1, h2⟩ := canLay_ds ds h
  refine Bool.and_eq_true_iff.mpr ⟨h1, decide_eq_true ?_⟩
  show PyData.depthAll ds + 1 ≤ 64
  omega
theorem flat_tup (zs : List Str) (h : OkS zs) : (PyData.tuple (zs.map PyData.str)).canLay0 = true ∧ (PyData.tuple (zs.map PyData.str)).depth ≤ 2 := ⟨canLay_str zs h, Nat.succ_le_succ (depths_str zs)⟩
theorem flat_lst (zs : List Str) (h : OkS zs) : (PyData.list (zs.map PyData.str)).canLay0 = true ∧ (PyData.list (zs.map PyData.str)).depth ≤ 2 := ⟨canLay_str zs h, Nat.succ_le_succ (depths_str zs)⟩
theorem dpAll_rep {K : PySem.W.Frag} {H : Hp} {d : PyData} : ∀ ws : List V, (∀ x, x ∈ ws → Dp K H x d) → DpAll K H ws (List.replicate ws.length d)
  | [], _ => .nil
  | x :: ws, h => .cons (h x List.mem_cons_self) (dpAll_rep ws fun y hy => h y (List.mem_cons_of_mem _ hy))
theorem flat_rep {α : Type} (n : Nat) (x : α) : (List.replicate n [x]).flatten = List.replicate n x := by
  induction n with
  | zero => rfl
  | succ n ih => rw [List.replicate_succ, List.flatten_cons, ih]; rfl
def Nok (zs : List Str) : Prop := zs.Nodup ∧ ∀ z, z ∈ zs → nameB z = true ∧ PyData.strOk z = true ∧ z.length ≤ sizeLine
theorem Nms.ok {zs : List Str} (h : Nms zs) : Nok zs := ⟨h.1, fun z hz => ⟨(h.2 z hz).1, (h.2 z hz).2.2.2.2.1, Nat.le_trans (h.2 z hz).2.2.2.1 (by rw [sizeLine_eq]; decide)⟩⟩
theorem Nok.perm {zs ws : List Str} (h : Nok zs) (p : ws.Perm zs) : Nok ws := ⟨p.nodup_iff.mpr h.1, fun z hz => h.2 z (p.mem_iff.mp hz)⟩
theorem Nok.zq {zs : List Str} (h : Nms zs) : Nok ("zq" :: zs) := by
  refine ⟨List.nodup_cons.mpr ⟨fun z => (h.2 _ z).2.2.1 rfl, h.1⟩, fun z hz => ?_⟩
  rcases List.mem_cons.mp hz with rfl | hz
  · decide +kernel
  · exact h.ok.2 z hz
theorem wrong_ok {zs : List Str} (h : Nok zs) : wrongOf (zs.map V.str) = none := by
  refine wrong_none fun i hi => ?_
  rw [List.length_map] at hi
  unfold badAt
  rw [List.getElem?_map, List.getElem?_eq_getElem hi]
  show (!nameB zs[i] || inV (.str zs[i]) ((zs.map V.str).take i)) = false
  rw [(h.2 _ (List.getElem_mem hi)).1, ← List.map_take, inV_str]
  have nd := h.1
  rw [← List.take_append_drop i zs, List.nodup_append] at nd
  have hd : zs[i] ∈ zs.drop i := by
    rw [List.drop_eq_getElem_cons hi]
    exact List.mem_cons_self
  rw [decide_eq_false fun hm => nd.2.2 _ hm _ hd rfl]
  rfl
theorem part_ok {fo th : List Str} (h : Nok (fo ++ th)) (hf : fo ≠ []) : partOf (some (fo.map V.str)) (some (th.map V.str)) = none := by
  have hl : ¬ (fo.map V.str).length = 0 := by
    rw [List.length_map]
    exact fun e => hf (List.eq_nil_of_length_eq_zero e)
  show (if (fo.map V.str).length = 0 then some 0 else wrongOf (fo.map V.str ++ th.map V.str)) = none
  rw [if_neg hl, ← List.map_append, wrong_ok h]
theorem things_ok {K : PySem.W.Frag} {H : Hp} {zs : List Str} (h : ∀ z, z ∈ zs → z.length ≤ sizeLine) : ∀ y, y ∈ zs.map V.str → Thing K H y := fun y hy => by
  obtain ⟨z, hz, rfl⟩ := List.mem_map.mp hy
  exact .inl ⟨z, rfl, h z hz⟩
/-- House(..) of good names -/
theorem mk_at {K : PySem.W.Frag} {C CB a b x' dx : Addr} {H : Hp} {fo th : List Str} {R : Hp → Prop} {E : XK} (sf : SeqAt2 K H a (fo.map V.str)) (st : SeqAt2 K H b (th.map V.str)) (ok : Nok (fo ++ th)) (hf : fo ≠ []) (hl : (fo ++ th).length ≤ sizeLine)
    (h1 : H x' = none) (h2 : H dx = none) (h3 : dx ≠ x') (q : ∀ H', Ext H H' → Hou H' K C x' fo th → R H') : spHInit K C CB [.ref x', .ref a, .ref b] (L2.upd (L2.upd H dx (.own x')) x' (.ins C dx [])) (fun v H2 => v = .non ∧ R H2) E := by
  have xn : Ext H (L2.upd (L2.upd H dx (.own x')) x' (.ins C dx [])) := fun c u k => by
    rw [upd_ne (ne_of_none k h1), upd_ne (ne_of_none k h2)]
    exact k
  have okf : ∀ z, z ∈ fo → _ := fun z hz => ok.2 z (List.mem_append_left _ hz)
  have okt : ∀ z, z ∈ th → _ := fun z hz => ok.2 z (List.mem_append_right _ hz)
  refine ⟨x', dx, _, _, some (fo.map V.str), some (th.map V.str), rfl, upd_same, ⟨a, rfl, sf.ext xn, things_ok fun z hz => (okf z hz).2.2⟩, ⟨b, rfl, st.ext xn, things_ok fun z hz => (okt z hz).2.2⟩, fun xs ys e1 e2 => ?_, fun xs ys H' e1 e2 _ bt hs => ⟨rfl, ?_⟩, fun i d H' e => ?_⟩
  · cases e1
    cases e2
    rw [← List.map_append, List.length_map]
    exact hl
  · cases e1
    cases e2
    refine q H' (fun c u k => bt c u (ne_of_none k h1) (xn c u k)) ⟨hs, fun z hz => (okf z hz).2.1, fun z hz => (okt z hz).2.1⟩
  · rw [part_ok ok hf] at e
    cases e
theorem HouseTxt.vD {P : Program} {w : World} {K : PySem.W.Frag} {mg : Str → Option Value} {C CB : Addr} (Z : HouseTxt P w K mg C CB) : Vals [V.ref Z.aD] [Z.uD] := .cons Z.eD .nil
theorem sqT_upd {K : PySem.W.Frag} {H : Hp} {l f : Addr} {ys zs xs : List V} (h : SqT K H f xs) (hl : H l = some (.lst ys)) : SqT K (L2.upd H l (.lst zs)) f xs := by
  rcases h with (h | ⟨o, h⟩) | h
  · exact .inl (.inl (by rw [upd_ne (ne_of h hl (fun z => nomatch z))]; exact h))
  · exact .inl (.inr ⟨o, by rw [upd_ne (ne_of h hl (fun z => nomatch z))]; exact h⟩)
  · exact .inr h
theorem hou_upd {H : Hp} {K : PySem.W.Frag} {C b l : Addr} {fo th : List Str} {ys zs : List V} (h : Hou H K C b fo th) (hl : H l = some (.lst ys)) : Hou (L2.upd H l (.lst zs)) K C b fo th := by
  obtain ⟨⟨dx, fs, f, t, n, h1, h2, h3, h4, h5, h6, h7⟩, ok⟩ := h
  exact ⟨⟨dx, fs, f, t, n, by rw [upd_ne (ne_of h1 hl (fun z => nomatch z))]; exact h1, h2, h3, h4, sqT_upd h5 hl, sqT_upd h6 hl, sqT_upd h7 hl⟩, ok⟩
def Has (P : Program) (w : World) (K : PySem.W.Frag) (mg : Str → Option Value) (base : Heap) (k : Nat) (x : Str) (ps : List Str) (sp : Sp) : Prop :=
  ∃ (f : Addr) (fd : FuncData), FnOk P w K mg base CX0 k f fd ps sp ∧ mg x = some (.ref f) ∧ PySem.W.keepIn K (.ref f) = true ∧ Binds K fd ps []
theorem pe_has {X : Cx} {k : Nat} {x : Str} {ps : List Str} {sp : Sp} {e : Expr} {es : List Expr} {t : TA} {p pos : Pos} (h : Has X.prog X.w X.K X.mg X.base k x ps sp) (hr : Room k X.A) (ha : PA X (e :: es) t) (hg : Gl X x := by rfl)
    (hdb : (x == ("__debug__" : Str)) = false := by decide) (h1 : starEach (e :: es) X.env = (false, eval e X.env) :: starEach es X.env := by rfl) (h2 : (backTo pos (starEach es X.env)).any (·.1) = false := by rfl) :
    PE X (.Call (.Name x p) (e :: es) [] pos) (tCall sp [] E0 t) := by
  obtain ⟨f, fd, F, m, kp, b⟩ := h
  exact pe_call F hr hg m kp b .nil pass0 ha hdb h1 h2
/-- list(a) -/
def rLst (K : PySem.W.Frag) : List V → Hp → VK → Prop := fun xs H Q => ∃ a zs, xs = [.ref a] ∧ SqL K H a zs ∧ ∀ l, H l = none → Q (.ref l) (L2.upd H l (.lst zs))
theorem call_lst {X : Cx} : CallR X (.type "list") (rLst X.K) := by
  intro pins s σ H xs us Q I rv h
  obtain ⟨a, zs, rfl, sq, q⟩ := h
  exact call_list_of pins s σ H _ us Q I rv ⟨a, zs, rfl, .inl sq, q⟩
theorem pool_mono {H : Hp} {p : Addr} {n m : Int} (h : Pool H p n) (e : n ≤ m) : Pool H p m := by
  obtain ⟨g, mm, c, h1, h2, h3, h4, h5, h6⟩ := h
  exact ⟨g, mm, c, h1, h2, h3, h4, h5, by omega⟩
theorem pool_upd {H : Hp} {p l : Addr} {o : HO} {n : Int} (h : Pool H p n) (e : l ≠ p) : Pool (L2.upd H l o) p n := pool_at h (upd_ne (Ne.symm e))
theorem cutV_take {xs : List V} {k : Nat} (h : k ≤ xs.length) : cutV xs none (some ((k : Nat) : Int)) = xs.take k := by
  unfold cutV
  rw [HT.sIx_none, HT.sIx_nat, Nat.min_eq_left h, Nat.sub_zero, List.drop_zero]
theorem cutV_drop {xs : List V} {k : Nat} (h : k ≤ xs.length) : cutV xs (some ((k : Nat) : Int)) none = xs.drop k := by
  unfold cutV
  rw [HT.sIx_none, HT.sIx_nat, Nat.min_eq_left h, List.take_of_length_le (by rw [List.length_drop]; exact Nat.le_refl _)]
end My

namespace L2
open PySem PySem.Spec PyProof.Rows
theorem PG.or {X : Cx} {t : Expr} {g g' : TG} (h : PG X t g) (h' : PG X t g') : PG X t (fun v σ H Q => g v σ H Q ∨ g' v σ H Q) :=
  ⟨fun pins s σ H v u Q I rv q => q.elim (h.run pins s σ H v u Q I rv) (h'.run pins s σ H v u Q I rv)⟩
theorem opK {X : Cx} {f : Value → Value → Sem Value} {r : PySem.W.Frag → R2} {K : PySem.W.Frag} (e : X.K = K) (h : OpR X f (r X.K)) : OpR X f (r K) := e ▸ h
theorem ixK {X : Cx} {r : PySem.W.Frag → R2} {K : PySem.W.Frag} (e : X.K = K) (h : IxR X (r X.K)) : IxR X (r K) := e ▸ h
theorem caK {X : Cx} {v : Value} {r : PySem.W.Frag → List V → Hp → VK → Prop} {K : PySem.W.Frag} (e : X.K = K) (h : CallR X v (r X.K)) : CallR X v (r K) := e ▸ h
theorem peK {X : Cx} {x : Expr} {r : PySem.W.Frag → TE} {K : PySem.W.Frag} (e : X.K = K) (h : PE X x (r X.K)) : PE X x (r K) := e ▸ h
end L2
namespace My
open PySem PySem.Spec PyProof.Rows L2
/-- an unpacking of a list or a tuple -/
def gSeq (K : PySem.W.Frag) (n : Nat) (t : TGs) : TG := fun v σ H Q => ∃ a xs, v = .ref a ∧ SeqAt2 K H a xs ∧ xs.length = n ∧ t xs σ H Q
theorem pg_seq {X : Cx} {pos : Pos} {es : List Expr} {k : Nat} {t : TGs} {n : Nat} (hc : X.calm = true) (h : PGs X es t) (h1 : (assignEach es X.env).length = n := by rfl) (h2 : List.findIdx? (fun x => x.fst) (assignEach es X.env) = none := by rfl) : PG X (Expr.Tuple es k pos) (gSeq X.K n t) :=
  ⟨fun pins s σ H v u Q I rv q => (PG.or (pg_tup hc h h1 h2) (pg_unl hc h h1 h2)).run pins s σ H v u Q I rv (by
    obtain ⟨a, xs, e, sq, l, q⟩ := q
    exact sq.elim (fun z => .inr ⟨a, xs, e, z, l, q⟩) fun z => .inl ⟨a, xs, e, z, l, q⟩)⟩
/-! ### facts -/
def wordsS : List Str := ["below", "not", "line"]
/-- what may stand in a fact: flat, or a list, a tuple, a dict -/
def Itm (K : PySem.W.Frag) (H : Hp) (x : V) : Prop := flatV x = true ∨ NoText K H x
theorem NoText.ext {K : PySem.W.Frag} {H H' : Hp} {x : V} (h : NoText K H x) (e : Ext H H') : NoText K H' x := by
  rcases h with ⟨a, xs, rfl, h | h⟩ | ⟨a, kvs, rfl, h⟩
  · exact .inl ⟨a, xs, rfl, .inl (h.ext e)⟩
  · exact .inl ⟨a, xs, rfl, .inr (h.ext e)⟩
  · exact .inr ⟨a, kvs, rfl, e _ _ h⟩
theorem Itm.ext {K : PySem.W.Frag} {H H' : Hp} {x : V} (h : Itm K H x) (e : Ext H H') : Itm K H' x := h.elim .inl fun z => .inr (NoText.ext z e)
theorem noText_inV {K : PySem.W.Frag} {H : Hp} {x : V} (h : NoText K H x) (zs : List Str) : inV x (zs.map V.str) = false := by
  refine inV_no (fun z => ?_) zs
  rcases h with ⟨a, xs, rfl, _⟩ | ⟨a, kvs, rfl, _⟩ <;> rfl
theorem eqV_strE {z : Str} {y : V} (h : eqV (.str z) y = true) : y = .str z := by
  cases y with
  | str w =>
    have e : z = w := eq_of_beq h
    rw [e]
  | _ => exact absurd (show false = true from h) Bool.false_ne_true
theorem inV_mem {y : V} {zs : List Str} (h : inV y (zs.map V.str) = true) : ∃ z, z ∈ zs ∧ y = .str z := by
  unfold inV at h
  rw [List.any_eq_true] at h
  obtain ⟨x, hx, e⟩ := h
  obtain ⟨z, hz, rfl⟩ := List.mem_map.mp hx
  exact ⟨z, hz, eqV_strE e⟩
theorem flat_strs (zs : List Str) : (zs.map V.str).all flatV = true := by
  rw [List.all_map]
  exact List.all_eq_true.mpr fun _ _ => rfl
/-- x in, not in a tuple of texts -/
def rInW (K : PySem.W.Frag) (neg : Bool) : R2 := fun x y H Q => ∃ (p : Addr) (zs : List Str), y = .ref p ∧ SqT K H p (zs.map V.str) ∧ Itm K H x ∧ Q (.bl (neg ^^ inV x (zs.map V.str))) H
theorem op_notInW {X : Cx} (hu : X.A.units + 1 < cLine) : OpR X (compareOp .NotIn) (rInW X.K true) := by
  intro pins s σ H x y v u Q I rx ry h
  obtain ⟨p, zs, rfl, sq, it, q⟩ := h
  rw [show (true ^^ inV x (zs.map V.str)) = !inV x (zs.map V.str) by cases inV x (zs.map V.str) <;> rfl] at q
  refine (OpR.or op_notIn_seq (OpR.notIn (op_inN hu))) pins s σ H x _ v u Q I rx ry ?_
  rcases it with fl | nt
  · exact .inl ⟨p, _, rfl, .inr sq, fl, flat_strs _, q⟩
  · rw [noText_inV nt] at q
    exact .inr ⟨p, zs, rfl, sq, nt, false, rfl, q⟩
theorem op_inW {X : Cx} (hu : X.A.units + 1 < cLine) : OpR X (compareOp .In) (rInW X.K false) := by
  intro pins s σ H x y v u Q I rx ry h
  obtain ⟨p, zs, rfl, sq, it, q⟩ := h
  rw [show (false ^^ inV x (zs.map V.str)) = inV x (zs.map V.str) by cases inV x (zs.map V.str) <;> rfl] at q
  refine (OpR.or op_in_seq (op_inN hu)) pins s σ H x _ v u Q I rx ry ?_
  rcases it with fl | nt
  · exact .inl ⟨p, _, rfl, .inr sq, fl, flat_strs _, q⟩
  · rw [noText_inV nt] at q
    exact .inr ⟨p, zs, rfl, sq, nt, q⟩
/-- x in, not in a house -/
def rInH (K : PySem.W.Frag) (C : Addr) (neg : Bool) : R2 := fun x y H Q => ∃ h fo th, y = .ref h ∧ Hou H K C h fo th ∧ Itm K H x ∧ Q (.bl (neg ^^ inV x ((fo ++ th).map V.str))) H
theorem op_inH {X : Cx} {C CB : Addr} (Z : HouseTxt X.prog X.w X.K X.mg C CB) (hr : Room 3 X.A) : OpR X (compareOp .In) (rInH X.K C false) := by
  intro pins s σ H x y v u Q I rx ry h
  obtain ⟨a, fo, th, rfl, ho, it, q⟩ := h
  rw [show (false ^^ inV x ((fo ++ th).map V.str)) = inV x ((fo ++ th).map V.str) by cases inV x ((fo ++ th).map V.str) <;> rfl] at q
  obtain ⟨dx, fs, hi⟩ := ho.ins
  refine (op_inO (EI := E0) hr Z.mS (Z.S _) Z.bS pass0) pins s σ H x _ v u Q I rx ry ⟨a, dx, fs, rfl, hi, a, fo, th, x, rfl, ho, ?_⟩
  rcases it with fl | nt
  · exact .inl ⟨fl, _, rfl, q⟩
  · rw [noText_inV nt] at q
    exact .inr (.inl ⟨nt, _, rfl, q⟩)
theorem op_notInH {X : Cx} {C CB : Addr} (Z : HouseTxt X.prog X.w X.K X.mg C CB) (hr : Room 3 X.A) : OpR X (compareOp .NotIn) (rInH X.K C true) := by
  intro pins s σ H x y v u Q I rx ry h
  obtain ⟨a, fo, th, rfl, ho, it, q⟩ := h
  refine (OpR.notIn (op_inH Z hr)) pins s σ H x _ v u Q I rx ry ⟨a, fo, th, rfl, ho, it, _, rfl, ?_⟩
  rw [Bool.false_xor]
  rw [Bool.true_xor] at q
  exact q
def factB (fo th : List Str) (w o p : V) : Bool := inV w (wordsS.map V.str) && (inV o ((fo ++ th).map V.str) && (inV p ((fo ++ th).map V.str) && (!decide (o = p) && (decide (w = .str "line") || inV p (fo.map V.str)))))
/-- whether x is a fact -/
def FactOf (K : PySem.W.Frag) (H : Hp) (fo th : List Str) (x : V) (b : Bool) : Prop := (b = false ∧ ∃ t, TyX K H x t ∧ PySem.W.kitAny K t [.type "list", .type "tuple"] = some false) ∨
  (b = false ∧ ∃ a xs, x = .ref a ∧ SeqAt2 K H a xs ∧ xs.length ≠ 3) ∨ ∃ a w o p, x = .ref a ∧ SeqAt2 K H a [w, o, p] ∧ Itm K H w ∧ Itm K H o ∧ Itm K H p ∧ b = factB fo th w o p
theorem FactOf.ext {K : PySem.W.Frag} {H H' : Hp} {fo th : List Str} {x : V} {b : Bool} (h : FactOf K H fo th x b) (e : Ext H H') : FactOf K H' fo th x b := by
  rcases h with ⟨h0, t, h1, h2⟩ | ⟨h0, a, xs, h1, h2, h3⟩ | ⟨a, w, o, p, h1, h2, h3, h4, h5, h6⟩
  · exact .inl ⟨h0, t, h1.ext e, h2⟩
  · exact .inr (.inl ⟨h0, a, xs, h1, h2.ext e, h3⟩)
  · exact .inr (.inr ⟨a, w, o, p, h1, h2.ext e, h3.ext e, h4.ext e, h5.ext e, h6⟩)
theorem seq_kit {K : PySem.W.Frag} {H : Hp} {a : Addr} {xs : List V} (h : SeqAt2 K H a xs) : ∃ t, TyX K H (.ref a) t ∧ PySem.W.kitAny K t [.type "list", .type "tuple"] = some true := by
  rcases h with h | h
  · exact ⟨_, tyx_sqL h, by rfl⟩
  · exact ⟨_, tyx_sqT h, by rfl⟩
def spIsFact (K : PySem.W.Frag) (C : Addr) : Sp := fun vs H Q _ => ∃ h x fo th b, vs = [.ref h, x] ∧ Hou H K C h fo th ∧ FactOf K H fo th x b ∧ ∀ H', Ext H H' → Q (.bl b) H'
abbrev nm_is_fact : List Str := ["house", "thing", "word", "one", "other"]
theorem sc_is_fact : FnScope nm_is_fact ["house", "thing"] (defScope s_is_fact) := ⟨rfl, rfl, rfl, by decide +kernel, rfl, by decide +kernel, by decide +kernel⟩
section
variable {P : Program} {w : World} {K : PySem.W.Frag} {mg : Str → Option Value} {base : Heap} {f C CB : Addr} {fd : FuncData}
theorem ok_isFact (Fn : FnP K "is_fact" s_is_fact f fd) (Z : HouseTxt P w K mg C CB) (his_list : Has P w K mg base 1 "is_list" ["thing"] (spIsList K)) (gB_len : mg "len" = none) {aW : Addr} (gW : mg "WORDS" = some (.ref aW)) (tW : ∀ H, SqT K H aW (wordsS.map V.str)) :
    FnOk P w K mg base CX0 5 f fd ["house", "thing"] (spIsFact K C) := by
  refine Fn.ok sc_is_fact (fun vs H Q E h => ?_) (fun cdv A outer s H vs Q E hr h => ⟨_, PSs.nox
    (pss_cons (ps_if (PW.pt (pw_or (pt_not (pt_val (pe_has his_list (hr.mono (by decide)) (pa_cons (pv 1) pa_nil)))) (pw_or1 (pt_cmpR op_ne (pe_callB call_len (by rfl) gB_len boot_len (pa_cons (pv 1) pa_nil)) pe_int (nomark _))))) (pss_one (ps_ret pe_bl)) pss_nil)
      (pss_cons (ps_asg (pv 1) (pg_seq rfl (pgs_cons (pg_name (i := 2) sc_is_fact.nd rfl (Or.inl rfl)) (pgs_cons (pg_name (i := 3) sc_is_fact.nd rfl (Or.inl rfl)) (pgs_cons (pg_name (i := 4) sc_is_fact.nd rfl (Or.inl rfl)) pgs_nil)))))
      (pss_cons (ps_if (PW.pt (pw_or (pt_cmpR (op_notInW (hu_of hr)) (pv 2) (pe_glob (v := .ref aW) (by rfl) gW rfl) (by rfl)) (pw_or (pt_cmpR (op_notInH Z (hr.mono (by decide))) (pv 3) (pv 0) (by rfl)) (pw_or1 (pt_cmpR (op_notInH Z (hr.mono (by decide))) (pv 4) (pv 0) (by rfl)))))) (pss_one (ps_ret pe_bl)) pss_nil)
      (pss_one (ps_ret (pe_and (pe_cmpR op_ne (pv 3) (pv 4) (nomark _)) (pe_one (pe_or (pe_cmpR op_eq (pv 2) pe_str (nomark _)) (pe_one (pe_cmpR op_in_seq (pv 4) (pe_fld (pv 0) rfl) (by rfl))))))))))), ?_⟩)
  · obtain ⟨h, x, fo, th, b, rfl, _⟩ := h
    rfl
  · obtain ⟨ho, x, fo, th, b, rfl, hou, hx, q⟩ := h
    have hx0 := hx
    rcases hx with ⟨rfl, t, ty, kt⟩ | ⟨rfl, a, xs, rfl, sq, nl⟩ | ⟨a, v1, v2, v3, rfl, sq, i1, i2, i3, rfl⟩
    · refine ⟨_, rfl, x, t, false, rfl, ty, kt, fun H1 x1 => ?_⟩
      exact ⟨false, rfl, q H1 x1⟩
    · obtain ⟨t, ty, kt⟩ := seq_kit sq
      refine ⟨_, rfl, _, t, true, rfl, ty, kt, fun H1 x1 => ?_⟩
      have sq1 := sq.ext x1
      refine ⟨true, rfl, _, rfl, _, xs.length, rfl, ?_, ?_⟩
      · exact sq1.elim (fun z => .inl ⟨_, z, rfl⟩) fun z => .inr ⟨_, z, rfl⟩
      refine ⟨rfl, _, rfl, ?_⟩
      refine ite2 (fun _ => q H1 x1) fun hn => absurd ?_ hn
      have : ¬ (V.int (xs.length : Nat) = V.int 3) := fun e => nl (by injection e with e; omega)
      rw [decide_eq_false this]
      rfl
    · obtain ⟨t, ty, kt⟩ := seq_kit sq
      refine ⟨_, rfl, _, t, true, rfl, ty, kt, fun H1 x1 => ?_⟩
      have sq1 := sq.ext x1
      refine ⟨true, rfl, _, rfl, _, 3, rfl, ?_, ?_⟩
      · exact sq1.elim (fun z => .inl ⟨_, z, rfl⟩) fun z => .inr ⟨_, z, rfl⟩
      refine ⟨rfl, _, rfl, ?_⟩
      refine iteNS rfl ?_
      have j1 := i1.ext x1
      have j2 := i2.ext x1
      have j3 := i3.ext x1
      have hou1 := hou.ext x1
      refine ⟨_, rfl, a, _, rfl, sq1, rfl, ?_⟩
      have qF : ∀ H2, Ext H1 H2 → factB fo th v1 v2 v3 = false → Q (.bl false) H2 := fun H2 x2 e => by
        have z := q H2 (x1.trans x2)
        rw [e] at z
        exact z
      refine ⟨_, _, rfl, _, _, rfl, _, _, rfl, rfl, ?_⟩
      -- the word
      refine ⟨_, rfl, aW, wordsS, rfl, tW H1, j1, _, rfl, ?_⟩
      refine ite2 (fun e => qF H1 Ext.rfl' ?_) fun e => ?_
      · have e' : inV v1 (wordsS.map V.str) = false := by simpa using e
        unfold factB
        rw [e', Bool.false_and]
      have e1 : inV v1 (wordsS.map V.str) = true := by simpa using e
      refine ⟨_, rfl, _, rfl, ho, fo, th, rfl, hou1, j2, _, rfl, ?_⟩
      refine ite2 (fun e => qF H1 Ext.rfl' ?_) fun e => ?_
      · have e' : inV v2 ((fo ++ th).map V.str) = false := by simpa using e
        unfold factB
        rw [e1, e', Bool.false_and]
        rfl
      have e2 : inV v2 ((fo ++ th).map V.str) = true := by simpa using e
      refine ⟨_, rfl, _, rfl, ho, fo, th, rfl, hou1, j3, _, rfl, ?_⟩
      refine ite2 (fun e => qF H1 Ext.rfl' ?_) fun e => ?_
      · have e' : inV v3 ((fo ++ th).map V.str) = false := by simpa using e
        unfold factB
        rw [e1, e2, e', Bool.false_and]
        rfl
      have e3 : inV v3 ((fo ++ th).map V.str) = true := by simpa using e
      obtain ⟨z1, _, rfl⟩ := inV_mem e1
      obtain ⟨z2, _, rfl⟩ := inV_mem e2
      obtain ⟨z3, _, rfl⟩ := inV_mem e3
      have ef : factB fo th (.str z1) (.str z2) (.str z3) = (!decide (V.str z2 = V.str z3) && (decide (V.str z1 = .str "line") || inV (.str z3) (fo.map V.str))) := by
        unfold factB
        rw [e1, e2, e3, Bool.true_and, Bool.true_and, Bool.true_and]
      rw [ef] at q
      refine ⟨_, rfl, _, rfl, rfl, _, rfl, ?_⟩
      refine ite2 (fun e => ?_) fun e => ?_
      · refine ⟨_, rfl, rfl, _, rfl, ?_⟩
        rw [e, Bool.true_and] at q
        refine ite2 (fun e' => ?_) fun e' => ?_
        · rw [e', Bool.true_or] at q
          exact q H1 x1
        · have e'' : decide (V.str z1 = .str "line") = false := by simpa using e'
          rw [e'', Bool.false_or] at q
          obtain ⟨⟨dx, fs, f, t, n, h1, h2, h3, h4, h5, h6, h7⟩, ok1, ok2⟩ := hou1
          exact ⟨_, rfl, _, rfl, ho, C, dx, fs, _, rfl, h1, Z.T.cl, Z.T.nf, h2, f, _, rfl, .inr h5, rfl, flat_strs _, q H1 x1⟩
      · have e'' : (!decide (V.str z2 = V.str z3)) = false := by simpa using e
        rw [e'', Bool.false_and] at q
        exact q H1 x1
end
end My

namespace My
open PySem PySem.Spec PyProof.Rows L2
/-! ### a fact as it is told -/
/-- the nodes of a line in the order of the house -/
def ordS (ns : List Str) (a b : Str) : List Str := ns.filter fun n => decide (n = a) || decide (n = b)
theorem ord_two : ∀ {ns : List Str} {a b : Str}, ns.Nodup → a ∈ ns → b ∈ ns → a ≠ b → ∃ c d, ordS ns a b = [c, d] ∧ ((c = a ∧ d = b) ∨ (c = b ∧ d = a))
  | [], a, b, _, ha, _, _ => by cases ha
  | n :: ns, a, b, nd, ha, hb, ne => by
    obtain ⟨nn, nd'⟩ := List.nodup_cons.mp nd
    have one : ∀ (x : Str), x ∈ ns → ∀ y, y ∉ ns → ordS ns x y = [x] ∧ ordS ns y x = [x] := by
      intro x hx y hy
      clear ha hb ne nn nd
      induction ns with
      | nil => cases hx
      | cons m ms ih =>
        obtain ⟨nm, ndm⟩ := List.nodup_cons.mp nd'
        have hym : m ≠ y := fun e => hy (by rw [e]; exact List.mem_cons_self)
        have hy' : y ∉ ms := fun e => hy (List.mem_cons_of_mem _ e)
        have none_ : ∀ u v : Str, u ∉ ms → v ∉ ms → ordS ms u v = [] := fun u v hu hv => by
          unfold ordS
          rw [List.filter_eq_nil_iff]
          intro k hk
          have h1 : k ≠ u := fun e => hu (e ▸ hk)
          have h2 : k ≠ v := fun e => hv (e ▸ hk)
          simp [h1, h2]
        rcases List.mem_cons.mp hx with rfl | hx'
        · have z1 := none_ x y nm hy'
          have z2 := none_ y x hy' nm
          unfold ordS at z1 z2 ⊢
          rw [List.filter_cons, List.filter_cons, z1, z2]
          simp
        · have hmx : m ≠ x := fun e => nm (e ▸ hx')
          obtain ⟨i1, i2⟩ := ih ndm hx' hy'
          unfold ordS at i1 i2 ⊢
          rw [List.filter_cons, List.filter_cons, i1, i2]
          simp [hmx, hym]
    rcases List.mem_cons.mp ha with rfl | ha'
    · have hb' : b ∈ ns := (List.mem_cons.mp hb).resolve_left fun e => ne e.symm
      have z := (one b hb' a nn).2
      refine ⟨a, b, ?_, .inl ⟨rfl, rfl⟩⟩
      unfold ordS at z ⊢
      rw [List.filter_cons, z]
      simp
    · rcases List.mem_cons.mp hb with rfl | hb'
      · have z := (one a ha' b nn).1
        refine ⟨b, a, ?_, .inr ⟨rfl, rfl⟩⟩
        unfold ordS at z ⊢
        rw [List.filter_cons, z]
        simp
      · have h1 : n ≠ a := fun e => nn (e ▸ ha')
        have h2 : n ≠ b := fun e => nn (e ▸ hb')
        obtain ⟨c, d, e, h⟩ := ord_two nd' ha' hb' ne
        refine ⟨c, d, ?_, h⟩
        unfold ordS at e ⊢
        rw [List.filter_cons, e]
        simp [h1, h2]
/-- a fact of strings -/
def IsF (fo th : List Str) (w a b : Str) : Prop := w ∈ wordsS ∧ a ∈ fo ++ th ∧ b ∈ fo ++ th ∧ a ≠ b ∧ (w = "line" ∨ b ∈ fo)
theorem fact_is {fo th : List Str} {w o p : V} (h : factB fo th w o p = true) : ∃ z a b, w = .str z ∧ o = .str a ∧ p = .str b ∧ IsF fo th z a b := by
  unfold factB at h
  obtain ⟨h1, h⟩ := Bool.and_eq_true_iff.mp h
  obtain ⟨h2, h⟩ := Bool.and_eq_true_iff.mp h
  obtain ⟨h3, h⟩ := Bool.and_eq_true_iff.mp h
  obtain ⟨h4, h5⟩ := Bool.and_eq_true_iff.mp h
  obtain ⟨z, hz, rfl⟩ := inV_mem h1
  obtain ⟨a, ha, rfl⟩ := inV_mem h2
  obtain ⟨b, hb, rfl⟩ := inV_mem h3
  refine ⟨z, a, b, rfl, rfl, rfl, hz, ha, hb, fun e => ?_, ?_⟩
  · subst e
    simp at h4
  · rcases Bool.or_eq_true_iff.mp h5 with h | h
    · have := of_decide_eq_true h
      injection this with e
      exact .inl e
    · obtain ⟨c, hc, e⟩ := inV_mem h
      injection e with e
      exact .inr (e ▸ hc)
theorem is_fact {fo th : List Str} {z a b : Str} (h : IsF fo th z a b) : factB fo th (.str z) (.str a) (.str b) = true := by
  obtain ⟨h1, h2, h3, h4, h5⟩ := h
  unfold factB
  rw [inV_str, inV_str, inV_str, inV_str, decide_eq_true h1, decide_eq_true h2, decide_eq_true h3]
  have : decide (V.str a = V.str b) = false := decide_eq_false fun e => h4 (by injection e)
  rw [this]
  rcases h5 with rfl | h5
  · simp
  · rw [decide_eq_true h5]
    simp
/-- the fact as told -/
def toldS (ns : List Str) (w a b : Str) : List Str := if w = "line" then "line" :: ordS ns a b else [w, a, b]
theorem told_three {fo th : List Str} {w a b : Str} (nd : (fo ++ th).Nodup) (h : IsF fo th w a b) : ∃ c d, toldS (fo ++ th) w a b = [w, c, d] ∧ ((c = a ∧ d = b) ∨ (w = "line" ∧ c = b ∧ d = a)) := by
  unfold toldS
  by_cases e : w = "line"
  · rw [if_pos e]
    obtain ⟨c, d, h1, h2⟩ := ord_two nd h.2.1 h.2.2.1 h.2.2.2.1
    refine ⟨c, d, by rw [h1, e], h2.imp id fun z => ⟨e, z⟩⟩
  · rw [if_neg e]
    exact ⟨a, b, rfl, .inl ⟨rfl, rfl⟩⟩
def spAsTold (K : PySem.W.Frag) (C : Addr) : Sp := fun vs H Q _ => ∃ h x fo th w a b, vs = [.ref h, .ref x] ∧ Hou H K C h fo th ∧ (fo ++ th).Nodup ∧ (fo ++ th).length < sizeLine ∧ IsF fo th w a b ∧ SeqAt2 K H x [.str w, .str a, .str b] ∧
  ∀ t H', Ext H H' → H' t = some (.tup ((toldS (fo ++ th) w a b).map V.str)) → Q (.ref t) H'
abbrev nm_as_told : List Str := ["house", "fact", "word", "one", "other", "first", "second", "node"]
theorem sc_as_told : FnScope nm_as_told ["house", "fact"] (defScope s_as_told) := ⟨rfl, rfl, rfl, by decide +kernel, rfl, by decide +kernel, by decide +kernel⟩
section
variable {P : Program} {w : World} {K : PySem.W.Frag} {mg : Str → Option Value} {base : Heap} {f C CB : Addr} {fd : FuncData}
theorem ok_asTold (Fn : FnP K "as_told" s_as_told f fd) (Z : HouseTxt P w K mg C CB) : FnOk P w K mg base CX0 1 f fd ["house", "fact"] (spAsTold K C) := by
  refine Fn.ok sc_as_told (fun vs H Q E h => ?_) (fun cdv A outer s H vs Q E hr h => ⟨_, PSs.nox
    (pss_cons (ps_asg (pv 1) (pg_seq rfl (pgs_cons (pg_name (i := 2) sc_as_told.nd rfl (Or.inl rfl)) (pgs_cons (pg_name (i := 3) sc_as_told.nd rfl (Or.inr rfl)) (pgs_cons (pg_name (i := 4) sc_as_told.nd rfl (Or.inr rfl)) pgs_nil)))))
      (pss_cons (ps_if (pt_cmpR op_ne (pv 2) pe_str (nomark _)) (pss_one (ps_ret (pe_tup (pa_cons (pv 2) (pa_cons (pv 3) (pa_cons (pv 4) pa_nil)))))) pss_nil)
      (pss_cons (ps_asg (pe_lc (own := [("node", 7)]) (g := (gName 7)) rfl sc_as_told.nd (pi_tup (pe_fld (pv 0) rfl)) (blkOk_by (N := nm_as_told) (sc := defScope s_as_told) (by decide +kernel)) (fun _ _ _ _ _ => (pg_name (i := 7) sc_as_told.nd rfl (Or.inl rfl))) (fun _ _ _ _ _ => pts_one (pt_cmpR (opK (r := fun K => rIn K false) (K := K) rfl op_in_seq) (pv 7) (pe_tup (pa_cons (pv 3) (pa_cons (pv 4) pa_nil))) (by rfl))) (fun _ _ _ _ _ => (pv 7))) (pg_unl rfl (pgs_cons (pg_name (i := 5) sc_as_told.nd rfl (Or.inl rfl)) (pgs_cons (pg_name (i := 6) sc_as_told.nd rfl (Or.inl rfl)) pgs_nil))))
      (pss_one (ps_ret (pe_tup (pa_cons (pv 2) (pa_cons (pv 5) (pa_cons (pv 6) pa_nil))))))))), ?_⟩)
  · obtain ⟨h, x, fo, th, w, a, b, rfl, _⟩ := h
    rfl
  · obtain ⟨ho, x, fo, th, wo, a, b, rfl, hou, nd, hz, hf, sq, q⟩ := h
    refine ⟨_, rfl, x, _, rfl, sq, rfl, ?_⟩
    refine ⟨_, _, rfl, _, _, rfl, _, _, rfl, rfl, ?_⟩
    refine ⟨_, rfl, rfl, _, rfl, ?_⟩
    unfold toldS at q
    refine ite2 (fun e => ?_) fun e => ?_
    · have e' : wo ≠ "line" := fun z => by
        subst z
        exact absurd e (by decide)
      rw [if_neg e'] at q
      refine ⟨_, rfl, _, rfl, _, rfl, Nat.le_of_ble_eq_true rfl, fun t ht => q t _ (Ext.upd ht) upd_same⟩
    · have e' : wo = "line" := by
        have z : V.str wo = V.str "line" := by simpa using e
        injection z
      rw [if_pos e'] at q
      subst e'
      obtain ⟨⟨dx, fs, f, t, n, h1, h2, h3, h4, h5, h6, h7⟩, ok1, ok2⟩ := hou
      refine ⟨_, rfl, ho, C, dx, fs, _, rfl, h1, Z.T.cl, Z.T.nn, h4, n, rfl, ⟨_, h7⟩, fun D hD => ?_⟩
      have enodes : fo.map V.str ++ th.map V.str = (fo ++ th).map V.str := (List.map_append ..).symm
      refine lc_tup (K := K) (a := n) (xs := (fo ++ th).map V.str) (fun i H' => Ext H H' ∧ H' D = some (.lst ((ordS ((fo ++ th).take i) a b).map V.str))) ⟨Ext.upd hD, upd_same⟩ (fun i H' _ p => by rw [← enodes]; exact h7.ext p.1) ?_ ?_
      · intro i v H1 hv ⟨x1, l1⟩
        obtain ⟨z, hz', rfl⟩ : ∃ z, (fo ++ th)[i]? = some z ∧ V.str z = v := by
          rw [List.getElem?_map] at hv
          cases hh : (fo ++ th)[i]? with
          | none => rw [hh] at hv; cases hv
          | some z => rw [hh] at hv; injection hv with hv; exact ⟨z, rfl, hv⟩
        have il : i < (fo ++ th).length := (List.getElem?_eq_some_iff.mp hz').1
        have tk : (fo ++ th).take (i + 1) = (fo ++ th).take i ++ [z] := by
          rw [List.take_add_one, hz']
          rfl
        refine ⟨rfl, _, rfl, _, rfl, _, rfl, Nat.le_of_ble_eq_true rfl, fun T hT => ⟨T, _, rfl, .inr (SqT.of upd_same), rfl, rfl, _, rfl, ?_⟩⟩
        have x2 : Ext H (upd H1 T (.tup [.str a, .str b])) := x1.upd' hT
        have l2 : (upd H1 T (.tup [.str a, .str b])) D = some (.lst ((ordS ((fo ++ th).take i) a b).map V.str)) := Ext.upd hT _ _ l1
        have ein : inV (.str z) [.str a, .str b] = (decide (z = a) || decide (z = b)) := by
          have := inV_str z [a, b]
          rw [show ([.str a, .str b] : List V) = [a, b].map V.str from rfl, this]
          simp
        refine ite2 (fun e => ?_) fun e => ?_
        · have e' : (decide (z = a) || decide (z = b)) = true := by rw [← ein]; exact e
          refine ⟨_, rfl, _, l2, ?_, ?_, ?_⟩
          · rw [List.length_map]
            refine Nat.lt_of_le_of_lt (List.length_filter_le _ _) ?_
            rw [List.length_take]
            omega
          · exact x2.over hD
          · rw [upd_same, tk]
            unfold ordS
            rw [List.filter_append, List.map_append, List.filter_cons, if_pos e']
            rfl
        · have e' : ¬ (decide (z = a) || decide (z = b)) = true := by rw [← ein]; exact e
          refine ⟨x2, ?_⟩
          rw [l2, tk]
          unfold ordS
          rw [List.filter_append, List.filter_cons, if_neg e', List.filter_nil, List.append_nil]
      · intro H1 ⟨x1, l1⟩
        rw [List.length_map, List.take_length] at l1
        obtain ⟨c, d, ecd, _⟩ := ord_two nd hf.2.1 hf.2.2.1 hf.2.2.2.1
        rw [ecd] at l1 q
        refine ⟨D, _, rfl, SqL.of l1, rfl, _, _, rfl, _, _, rfl, rfl, ?_⟩
        exact ⟨_, rfl, _, rfl, _, rfl, Nat.le_of_ble_eq_true rfl, fun t ht => q t _ (x1.upd' ht) upd_same⟩
end
end My

/-! the look at the head with a list of addresses of my own: level by level, nothing sorted out (no class is named by a class) -/
namespace My
open PySem PySem.Spec PyProof.Rows L2 He
def refs1 (o : Obj) : List Addr := (match o.dict with
  | some d => [d]
  | none => []) ++ match o.data with
  | .seq its _ => its.toList.flatMap refV
  | .dict es _ => es.toList.flatMap fun e => refV e.val
  | .func fd => refV fd.code ++ (refV fd.defaults ++ (refV fd.kwdefaults ++ fd.closure.map (·.2)))
  | .cls cd => [cd.ns]
  | .fields vs => vs.toList.flatMap refV
  | .cell (some v) => refV v
  | _ => []
def lev (g : Addr → Option Obj) (as : List Addr) : List Addr := as.flatMap fun a => match g a with
  | some o => refs1 o
  | none => []
def levs (g : Addr → Option Obj) : Nat → List Addr → List Addr
  | 0, as => as
  | n + 1, as => as ++ levs g n (lev g as)
def asY (g : Addr → Option Obj) (n : Nat) : List Addr := levs g n [mainGlobals]
abbrev frY (g : Addr → Option Obj) (n : Nat) : PySem.W.Frag := frT g (asY g n)
def obsY (n : Nat) (fa : List Fa) (fn : List DefD) (ts : List Tab) (tf : List Defn) (ex : PySem.W.Frag → Bool) (g : Addr → Option Obj) : AlX :=
  (fun K : PySem.W.Frag => (obsT fa fn ts K, ex K && tabsB g tf K)) (frY g n)
theorem saysY_of {fa : List Fa} {fn : List DefD} {ts : List Tab} {tf : List Defn} {ex : PySem.W.Frag → Bool} {w : World} {h : Heap} {as : List Addr}
    (e : (obsT fa fn ts (frT h.get? as), ex (frT h.get? as) && tabsB h.get? tf (frT h.get? as)) = valX fn ts w) : SaysX fa fn ts tf ex w h (frT h.get? as) := by
  obtain ⟨e1, e2⟩ := Prod.mk.inj e
  obtain ⟨h1, h2⟩ := ba (show (ex (frT h.get? as) && tabsB h.get? tf (frT h.get? as)) = true from e2)
  have tab : ∀ p ∈ tf, PySem.W.codeHdIn (frT h.get? as) (cT (frT h.get? as) p).1 (cT (frT h.get? as) p).2 = true ∧ ∃ o, h.get? (cT (frT h.get? as) p).2 = some o ∧ emptyTab o = true := by
    intro p hp
    obtain ⟨a, b⟩ := ba (List.all_eq_true.mp h2 p hp)
    refine ⟨a, ?_⟩
    split at b
    · rename_i o q
      exact ⟨o, q, b⟩
    · cases b
  refine ⟨e1, h1, fun p hp => (tab p hp).1, fun p hp => ?_, fun p hp => ?_⟩
  · obtain ⟨o, q, z⟩ := (tab p hp).2
    exact frT_none q z
  · obtain ⟨o, q, z⟩ := (tab p hp).2
    rw [q, emptyTab_eq z]
def hookY (n : Nat) (fa : List Fa) (fn : List DefD) (ts : List Tab) (tf : List Defn) (ex : PySem.W.Frag → Bool) : PySem.W.Hook where
  α := AlX
  obs := fun s => obsY n fa fn ts tf ex s.heap.get?
  val := fun w => valX fn ts w
  says := fun w h => ∃ K : PySem.W.Frag, K.In h ∧ SaysX fa fn ts tf ex w h K
  of := fun _ _ e => ⟨_, frT_in, saysY_of e⟩
  keeps := fun _ _ _ ⟨K, hK, c⟩ k => ⟨K, PySem.W.Frag.In.keeps hK k, ⟨c.t, c.more, c.hd, c.out, fun p hp => k _ _ (c.empty p hp)⟩⟩
theorem obsY_eq {n : Nat} {fa : List Fa} {fn : List DefD} {ts : List Tab} {tf : List Defn} {ex : PySem.W.Frag → Bool} {g : Addr → Option Obj} {s : Shared} (h : ∀ a, g a = s.heap.get? a) : obsY n fa fn ts tf ex g = (hookY n fa fn ts tf ex).obs s := by
  obtain rfl : g = s.heap.get? := funext h
  rfl
end My

namespace L2
open PySem PySem.Spec PyProof.Rows
/-! ### several except clauses, with names or without -/
abbrev Cl : Type := Value × Option Nat × (Addr → Value → Option Addr → TS)
def wAll (K : PySem.W.Frag) (Wout : WX) (D : Ends) : List Cl → WX
  | [] => Wout
  | (c, none, ts) :: r => fun cls d σ H => ∃ b, PySem.W.exmOne K cls c = some b ∧ (b = true → ∀ a, H a = none → ts a cls d D σ H) ∧ (b = false → wAll K Wout D r cls d σ H)
  | (c, some i, ts) :: r => fun cls d σ H => ∃ b, PySem.W.exmOne K cls c = some b ∧ (b = true → ∀ a, H a = none → i < σ.length → ts a cls d { nx := fun σ' H' => D.nx (σ'.set i none) H', rt := D.rt, bk := fun σ' H' => D.bk (σ'.set i none) H', ct := fun σ' H' => D.ct (σ'.set i none) H' } (σ.set i (some (.ref a))) H) ∧
    (b = false → wAll K Wout D r cls d σ H)
inductive HdsAll (X : Cx) : List ExceptHandler → List Cl → Prop
  | nil : HdsAll X [] []
  | bare {x : Str} {c : Value} {ts : Addr → Value → Option Addr → TS} {b₀ : Stmt} {suite : List Stmt} {np pos' : Pos} {hds : List ExceptHandler} {l : List Cl} (hc : Names X x c)
      (hsu : ∀ (a : Addr) (oe : Obj) (cls : Value) (d : Option Addr) (pn : List (Addr × Obj)), Zc cls d oe → (∃ vs, oe.data = .fields vs) → PSs (X.suite a ((a, oe) :: pn)) (b₀ :: suite) (ts a cls d)) (r : HdsAll X hds l) :
      HdsAll X (.ExceptHandler (some (.Name x np)) none (b₀ :: suite) pos' :: hds) ((c, none, ts) :: l)
  | as {x n : Str} {i : Nat} {c : Value} {ts : Addr → Value → Option Addr → TS} {b₀ : Stmt} {suite : List Stmt} {np pos' : Pos} {hds : List ExceptHandler} {l : List Cl} (hi : X.N[i]? = some n) (hln : X.env.kindOf n = some .local) (hc : Names X x c)
      (hsu : ∀ (a : Addr) (oe : Obj) (cls : Value) (d : Option Addr) (pn : List (Addr × Obj)), Zc cls d oe → (∃ vs, oe.data = .fields vs) → PSs (X.suite a ((a, oe) :: pn)) (b₀ :: suite) (ts a cls d)) (r : HdsAll X hds l) :
      HdsAll X (.ExceptHandler (some (.Name x np)) (some n) (b₀ :: suite) pos' :: hds) ((c, some i, ts) :: l)
section
variable {X : Cx} {body : List Stmt} {h₀ : ExceptHandler} {hds : List ExceptHandler} {l : List Cl} {pos : Pos} {tb : WX → TS} {Wout : WX}
theorem ps_try_all (hs : X.stack = X.env :: X.outer) (hf : X.env.frame = some X.env.locals) (hN : X.N.Nodup) (tk : Takes X Wout)
    (hb : ∀ (W : WX) (pn : List (Addr × Obj)) (xe : Value → Shared → Prop), Takes (X.tr pn xe) W → PassesOwn (model X.prog X.w) X.A X.env xe → PSs (X.tr pn xe) body (tb W))
    (hh : HdsAll X (h₀ :: hds) l) : PS X (.Try body (h₀ :: hds) [] [] pos) (fun D σ H => tb (wAll X.K Wout D l) D σ H) := by
  refine ⟨fun pins s σ H D I h => ?_⟩
  have ok := I.ok
  have hfr : X.A.frames = some (X.env :: X.outer) := by rw [ok.frames, hs]
  refine wpAny_Try_except ?_
  refine wpAny_mono ((hb (wAll X.K Wout D l) (X.pn ++ pins) (fun e s₁ => wpAny (model X.prog X.w) X.A (noteFrame e X.env) (fun _ s₂ => wpAny (model X.prog X.w) X.A (setFlight e none) (fun _ s₃ =>
    wpAny (model X.prog X.w) X.A (handleBy e X.env (h₀ :: hds)) (SP X pins D) X.xe s₃) X.xe s₂) X.xe s₁) (fun u s' xx => ?_) PassesOwn.looking).run [] s σ H D (I.toTry _) h) (fun f s1 hsp => ?_) (fun e s1 he => he)
  · -- the catch
    obtain ⟨a, B, sI, pins', σ', H', cls, d, rfl, J', nb, up, sky, na, os, ag, w⟩ := xx
    have J : Inv X pins σ' H' sI := J'.ofTry ok
    have sky' : Sky B (X.env :: X.outer) a (Zc cls d) X.env.locals s'.heap := by rw [← hs]; exact sky
    show wpAny (model X.prog X.w) X.A (noteFrame (.ref a) X.env) _ _ _
    refine Sky.land Zc.steady hfr hf sky' fun h3 fl3 up3 => ?_
    have J3 : Inv X pins σ' H' { s' with heap := h3 } := J.landed nb fl3.1 (up.trans up3) os ag
    obtain ⟨oe3, vs3, he3, hz3, hd3⟩ := fl3.there
    have notFr : ∀ {h : Heap} {o : Obj} {vs : Array Value}, h.FunFrames B (X.env :: X.outer) → h.get? a = some o → o.data = .fields vs → a ∉ frs (X.env :: X.outer) := fun {h o vs} ff e dd hm => by
      obtain ⟨_, o', e', hnf⟩ := ff.mem hm
      rw [e] at e'; cases e'
      exact hnf _ dd
    have nfr := notFr fl3.2.2.1 he3 hd3
    have nL : a ≠ X.env.locals := fun z => nfr (List.mem_filterMap.mpr ⟨X.env, List.mem_cons_self, by rw [hf, z]⟩)
    have nF : a ∉ X.fs := fun hm => by
      obtain ⟨e, he, q⟩ := List.mem_filterMap.mp hm
      exact nfr (List.mem_filterMap.mpr ⟨e, List.mem_cons_of_mem _ he, q⟩)
    have S3 := J3.suite he3 hd3 na nL nF
    have test : ∀ {x : Str} {c : Value} {np : Pos}, Names X x c → ∀ {Q : Value → Shared → Prop} {E : Value → Shared → Prop}, Q c { s' with heap := h3 } → wpAny (model X.prog X.w) (X.A.mark (some (.ref a))) (eval (.Name x np) X.env) Q E { s' with heap := h3 } := fun {x c np} hc {Q E} q => by
      obtain ⟨hg, hdbg, hm | ⟨hm, hv, hnn⟩⟩ := hc
      · exact ld_glob (X := X.suite a ((a, oe3) :: (X.pn ++ pins))) S3 hg hm q hdbg
      · exact ld_blt (X := X.suite a ((a, oe3) :: (X.pn ++ pins))) S3 hg hm hv q hnn hdbg
    have LT : PySem.W.Looks (model X.prog X.w) h3 (typeOf (.ref a)) cls := fun A Q E s k q => wpAny_typeOf_ref (k _ _ he3) (by rw [hz3.1]; exact q)
    have go : ∀ {hds' : List ExceptHandler} {l' : List Cl}, HdsAll X hds' l' → wAll X.K Wout D l' cls d σ' H' →
        wpAny (model X.prog X.w) X.A (handleBy (.ref a) X.env hds') (SP X pins D) X.xe { s' with heap := h3 } := by
      intro hds' l' hk
      induction hk with
      | nil =>
        intro w
        refine wpAny_handleBy_nil ?_
        obtain ⟨k1, k2, k3, oe, vs, T, oT, ts', he, hz, hd, h1, hr⟩ := id fl3
        unfold PySem.passOn
        refine wpAny_bind (wpAny_field he hd h1 ?_)
        rw [if_neg (show ¬ ((Value.ref T == Value.none) = true) from by simp)]
        have fin : wpAny (model X.prog X.w) X.A (setFlight (.ref a) X.env.frame) (fun _ s4 => wpAny (model X.prog X.w) X.A (throw (.ref a) : Sem Flow) (SP X pins D) X.xe s4) X.xe { s' with heap := h3 } := by
          rw [hf]
          refine HandSPX.setFlight_upZ fl3 fun h4 hh4 up4 => wpAny_throw (tk _ _ ?_)
          exact ⟨a, B, sI, pins, σ', H', cls, d, rfl, J, nb, (up.trans up3).trans up4, .inr (.inr (by rw [hs]; exact hh4)), na, os, ag, w⟩
        first
          | exact wpAny_bind (wpAny_pure (wpAny_bind fin))
          | exact wpAny_bind fin
      | @bare x c ts b₀ suite np pos' hds2 l2 hc hsu r ih =>
        intro w
        obtain ⟨b, hb1, hyes, hno⟩ := w
        refine wpAny_handleBy_cons (codeAny_handlers_test ?_) (by intro q; cases q)
        have LM := PySem.W.exm_one (M := model X.prog X.w) (J3.kIn) LT hb1
        refine test hc (LM.here ?_)
        cases b with
        | true =>
          refine codeAny_handlers_suite ?_
          refine HandSPX.lands_againZ fl3 fun h4 fl4 up4 => ?_
          have J4 : Inv X pins σ' H' { s' with heap := h4 } := J.landed nb fl4.1 ((up.trans up3).trans up4) os ag
          obtain ⟨oe4, vs4, he4, hz4, hd4⟩ := fl4.there
          have S4 := J4.suite he4 hd4 na nL nF
          refine wpAny_mono ((hsu a oe4 cls d (X.pn ++ pins) hz4 ⟨_, hd4⟩).run [] _ _ H' _ S4 (hyes rfl a na)) (fun f s6 hsp => ?_) (fun _ _ z => False.elim z)
          cases f with
          | next =>
            obtain ⟨σ6, H6, S6, q6⟩ := hsp
            exact ⟨_, _, S6.unsuite ok, q6⟩
          | brk =>
            obtain ⟨σ6, H6, S6, q6⟩ := hsp
            exact ⟨_, _, S6.unsuite ok, q6⟩
          | cont =>
            obtain ⟨σ6, H6, S6, q6⟩ := hsp
            exact ⟨_, _, S6.unsuite ok, q6⟩
          | ret u =>
            obtain ⟨v6, σ6, H6, S6, r6, q6⟩ := hsp
            exact ⟨_, _, _, S6.unsuite ok, r6, q6⟩
        | false =>
          show wpAny _ X.A (handleBy (.ref a) X.env hds2) _ _ _
          exact ih (hno rfl)
      | @as x n i c ts b₀ suite np pos' hds2 l2 hi hln hc hsu r ih =>
        intro w
        obtain ⟨b, hb1, hyes, hno⟩ := w
        have hloc : Loc X.env.scope n := .inl hln
        refine wpAny_handleBy_cons (codeAny_handlers_test ?_) (by intro q; cases q)
        have LM := PySem.W.exm_one (M := model X.prog X.w) (J3.kIn) LT hb1
        refine test hc (LM.here ?_)
        cases b with
        | true =>
          refine codeAny_handlers_suite_as ?_
          refine HandSPX.lands_againZ fl3 fun h4 fl4 up4 => ?_
          have J4 : Inv X pins σ' H' { s' with heap := h4 } := J.landed nb fl4.1 ((up.trans up3).trans up4) os ag
          obtain ⟨oe4, vs4, he4, hz4, hd4⟩ := fl4.there
          have S4 := J4.suite he4 hd4 na nL nF
          refine store_ok (X := X.suite a ((a, oe4) :: (X.pn ++ pins))) (v := .ref a) S4 hN hi hloc rfl (fun s5 S5 => ?_) (.inr hln)
          refine wpAny_mono ((hsu a oe4 cls d (X.pn ++ pins) hz4 ⟨_, hd4⟩).run [] s5 _ H' _ S5 (hyes rfl a na (by rw [J.len]; exact (List.getElem?_eq_some_iff.mp hi).1))) (fun f s6 hsp => ?_) (fun _ _ z => False.elim z)
          have end_ : ∀ {σ6 : St} {H6 : Hp} {Q : Shared → Prop}, Inv (X.suite a ((a, oe4) :: (X.pn ++ pins))) [] σ6 H6 s6 → (∀ s7, Inv X pins (σ6.set i none) H6 s7 → Q s7) →
              wpAny (model X.prog X.w) X.A (do bindName X.env n .none; unbindBehindTheSuite X.env n pos') (fun _ s7 => Q s7) X.xe s6 := fun {σ6 H6 Q} S6 hq => gone_ok (S6.unsuite ok) hN hi hln hq
          cases f with
          | next =>
            obtain ⟨σ6, H6, S6, q6⟩ := hsp
            exact end_ S6 fun s7 J7 => ⟨_, _, J7, q6⟩
          | brk =>
            obtain ⟨σ6, H6, S6, q6⟩ := hsp
            exact end_ S6 fun s7 J7 => ⟨_, _, J7, q6⟩
          | cont =>
            obtain ⟨σ6, H6, S6, q6⟩ := hsp
            exact end_ S6 fun s7 J7 => ⟨_, _, J7, q6⟩
          | ret u =>
            obtain ⟨v6, σ6, H6, S6, r6, q6⟩ := hsp
            exact end_ S6 fun s7 J7 => ⟨_, _, _, J7, r6, q6⟩
        | false =>
          show wpAny _ X.A (handleBy (.ref a) X.env hds2) _ _ _
          exact ih (hno rfl)
    exact go hh w
  · cases f with
    | next =>
      obtain ⟨σ', H', J', q⟩ := hsp
      exact wpAny_execs_nil ⟨σ', H', J'.ofTry ok, q⟩
    | brk =>
      obtain ⟨σ', H', J', q⟩ := hsp
      exact ⟨σ', H', J'.ofTry ok, q⟩
    | cont =>
      obtain ⟨σ', H', J', q⟩ := hsp
      exact ⟨σ', H', J'.ofTry ok, q⟩
    | ret u =>
      obtain ⟨v, σ', H', J', r, q⟩ := hsp
      exact ⟨v, σ', H', J'.ofTry ok, r, q⟩
end
end L2

namespace PySem.W
open Lean Elab Tactic Meta PySem PySem.Calls PyProof.Rows
section
variable {prog : Program} {w : World} {A : Around} {E : Value → Shared → Prop} {s : Shared} {K : Frag} {x C f : Addr} {ox : Obj} {od : Option Obj}
/-- what is asked of the right operand's type: the class itself, or a type of the language that is not below it -/
def AddT (K : Frag) (C : Addr) (nm : String) (t : Value) : Prop := t = .ref C ∨ ∃ (T : String) (fo ro : Option Value), t = .type T ∧ findIn K (.type T) (PySem.dunder nm) = some fo ∧ findIn K (.type T) (dunderR nm) = some ro ∧ subIn K (.type T) (.ref C) = some false
theorem bin_own {op : Operator} {b t : Value} {rc : Option Value} {Q : Value → Shared → Prop} (X : K.In s.heap) (I : InstAt s.heap x ox C od) (hb : Looks (model prog w) s.heap (typeOf b) t) (hc : selfFirst K C = true)
    (hs : findIn K (.ref C) (PySem.dunder op.info.2) = some (some (.ref f))) (hf : isFn K (.ref f) = true) (hr : findIn K (.ref C) (dunderR op.info.2) = some rc) (hp : rc = none ∨ ∃ g : Addr, rc = some (.ref g)) (ht : AddT K C op.info.2 t)
    (h : wpAny (model prog w) A (call (.ref f) [.ref x, b]) (CmpBack Q) E s) : wpAny (model prog w) A (binaryOp op (.ref x) b) Q E s := by
  obtain ⟨cd, rest, hcd, hm⟩ := ksp_first hc
  rcases hi : op.info with ⟨sym, nm'⟩
  rw [hi] at hs hr ht
  dsimp only at hs hr ht
  have one := ksp_try X I hs hf h
  obtain ⟨hh, g, d, tt, os⟩ := s
  have L1 : Looks (model prog w) hh (typeOf (.ref x)) (.ref C) := I.type
  have L2 : Looks (model prog w) hh (typeOf b) t := hb
  have L3 : Looks (model prog w) hh (fillsNumberSlot (.ref C) nm') true := fills_K X hcd hm hs
  rcases ht with rfl | ⟨T, fo, ro, rfl, h1, h2, hsub⟩
  · simp only [binaryOp, hi]
    refine wpAny_holding (wpAny_bind ?_)
    unfold binaryOp1
    refine wpAny_bind (L1.at (wpAny_bind (L2.at (wpAny_bind (L3.at ?_)))))
    simp only [beq_self_eq_true, if_true]
    ksp_lk
    refine wpAny_mono one (fun r s' hr' => ?_) fun _ _ e => e
    obtain ⟨v, rfl, hq⟩ := hr'
    ksp_lk
    exact hq
  have L4 : Looks (model prog w) hh (fillsNumberSlot (.type T) nm') ((fo.isSome && !isSeqSlot fo) || (ro.isSome && !isSeqSlot ro)) := ksp_fillsT X h1 h2
  have L5 : Looks (model prog w) hh (isSubtype (.type T) (.ref C)) false := looks_subIn X hsub
  have L6 : Looks (model prog w) hh (numberSlotInPython (.ref C) nm') true := ksp_inPy X hs hr hp
  have L7 : Looks (model prog w) hh (numberSlotInPython (.type T) nm') false := Looks.of_pure rfl
  have L8 : Looks (model prog w) hh (typeLookup (.type T) (dunderR nm')) ro := looks_findIn X h2
  generalize ((fo.isSome && !isSeqSlot fo) || (ro.isSome && !isSeqSlot ro)) = right at L4
  have hne : (Value.ref C == Value.type T) = false := Bool.eq_false_iff.mpr fun q => by cases beq_iff_eq.mp q
  simp only [binaryOp, hi]
  refine wpAny_holding (wpAny_bind ?_)
  unfold binaryOp1
  refine wpAny_bind (L1.at (wpAny_bind (L2.at (wpAny_bind (L3.at ?_)))))
  simp only [hne, Bool.false_eq_true, if_false]
  cases right with
  | false =>
    ksp_lk
    refine wpAny_mono one (fun r s' hr' => ?_) fun _ _ e => e
    obtain ⟨v, rfl, hq⟩ := hr'
    ksp_lk
    exact hq
  | true =>
    ksp_lk
    refine wpAny_mono one (fun r s' hr' => ?_) fun _ _ e => e
    obtain ⟨v, rfl, hq⟩ := hr'
    ksp_lk
    exact hq
end
end PySem.W
namespace L2
open PySem PySem.Spec PyProof.Rows
section
variable {X : Cx} {CI : CXT} {f : Addr} {fd : FuncData} {ps : List Str} {sp : Sp} {EI : XK} {n : Nat}
/-- o + y, o an instance with its own __add__, which gives an object -/
def rAddO (K : PySem.W.Frag) (C : Addr) (sp : Sp) (E : XK) : R2 := fun x y H Q => ∃ a dx fs t, x = .ref a ∧ H a = some (.ins C dx fs) ∧ TyX K H y t ∧ PySem.W.AddT K C "add" t ∧ sp [.ref a, y] H (fun v H' => ∃ b, v = .ref b ∧ Q (.ref b) H') E
structure AddM (K : PySem.W.Frag) (C f : Addr) : Prop where
  m : OwnM K C "__add__" f
  r : PySem.W.findIn K (.ref C) "__radd__" = some none
  s : PySem.W.selfFirst K C = true
theorem op_addO {C : Addr} (hr : Room n X.A) (M : AddM X.K C f) (F : FnOk X.prog X.w X.K X.mg X.base CI n f fd ps sp) (hb : Binds X.K fd ps []) (hx : Passes CI X EI) : OpR X (binaryOp .Add) (rAddO X.K C sp EI) := by
  intro pins s σ H x y v u Q I rx ry h
  obtain ⟨a, dx, fs, t, rfl, ha, ty, at_, hsp⟩ := h
  cases rx
  obtain ⟨mA, J, _⟩ := ins_get I.hok ha
  obtain ⟨od, J, _⟩ := J.look
  obtain ⟨P, Z, p, hx'⟩ := kit_of I ry ty
  refine PySem.W.bin_own (op := .Add) (rc := none) I.kIn J (Z.ty _ _ I.kIn p) M.s M.m.at_ M.m.fn M.r (.inl rfl) at_ ?_
  refine wpAny_mono (run_sub ⟨hr, rfl⟩ F (envSub I ⟨hr, rfl⟩) hb hx I (rv2 a ry) hsp) (fun w s' hq => ?_) fun _ _ z => z
  obtain ⟨z, H', I', rz, b, rfl, q⟩ := hq
  cases rz
  exact ⟨.ref b, H', I', rfl, q⟩
/-- what the right operand may be, by a look -/
def addB (K : PySem.W.Frag) (C : Addr) (T : String) : Bool := (PySem.W.findIn K (.type T) "__add__").isSome && ((PySem.W.findIn K (.type T) "__radd__").isSome && decide (PySem.W.subIn K (.type T) (.ref C) = some false))
theorem addB_ok {K : PySem.W.Frag} {C : Addr} {T : String} (h : addB K C T = true) : PySem.W.AddT K C "add" (.type T) := by
  obtain ⟨h1, h2⟩ := Bool.and_eq_true_iff.mp h
  obtain ⟨h2, h3⟩ := Bool.and_eq_true_iff.mp h2
  obtain ⟨fo, e1⟩ := Option.isSome_iff_exists.mp h1
  obtain ⟨ro, e2⟩ := Option.isSome_iff_exists.mp h2
  exact .inr ⟨T, fo, ro, rfl, e1, e2, of_decide_eq_true h3⟩
end
/-! ### two tuples of one and the same things -/
def plainV : V → Bool
  | .flt _ | .byt _ => false
  | _ => true
theorem eqAt_self {A : Around} {s : Shared} {v : V} {u u' : Value} (r : RelV v u) (r' : RelV v u') (f : plainV v = true) : SeqAt.EqAt A s u u' true := by
  cases v with
  | non => cases r; cases r'; exact SeqAt.EqAt.same _
  | bl b => cases r; cases r'; exact SeqAt.EqAt.same _
  | int i =>
    obtain ⟨t, rfl⟩ := r
    obtain ⟨t', rfl⟩ := r'
    have h := SeqAt.EqAt.int_int (A := A) (s := s) i t i t'
    rw [beq_self_eq_true] at h
    exact h
  | str x =>
    obtain ⟨t, rfl⟩ := r
    obtain ⟨t', rfl⟩ := r'
    have h := SeqAt.EqAt.str_str (A := A) (s := s) x t x t'
    rw [beq_self_eq_true] at h
    exact h
  | byt b => cases f
  | flt b => cases f
  | ref a => cases r; cases r'; exact SeqAt.EqAt.same _
  | ty n => cases r; cases r'; exact SeqAt.EqAt.same _
theorem pair_at : ∀ {vs : List V} {us : List Value}, Vals vs us → ∀ {j : Nat} (h : j < vs.length) (h' : j < us.length), RelV vs[j] us[j]
  | _, _, .cons r _, 0, _, _ => r
  | _, _, .cons _ t, j + 1, h, h' => pair_at t (Nat.lt_of_succ_lt_succ h) (Nat.lt_of_succ_lt_succ h')
section
variable {X : Cx}
def rNeSelf (K : PySem.W.Frag) : R2 := fun x y H Q => ∃ t u vs, x = .ref t ∧ y = .ref u ∧ SqT K H t vs ∧ SqT K H u vs ∧ vs.all plainV = true ∧ Q (.bl false) H
theorem op_neSelf (hu : X.A.units < cLine) : OpR X (compareOp .NotEq) (rNeSelf X.K) := by
  intro pins s σ H x y v u Q I rx ry h
  obtain ⟨a, b, vs, rfl, rfl, ha, hb, fl, q⟩ := h
  cases rx
  cases ry
  obtain ⟨its, rv, h1, _⟩ := I.tuple ha
  obtain ⟨its2, rv2, h2, _⟩ := I.tuple hb
  have n1 := rv.length
  have n2 := rv2.length
  have he : ∀ j (j1 : j < its.toArray.size) (j2 : j < its2.toArray.size), SeqAt.EqAt X.A.in1 s its.toArray[j] its2.toArray[j] true := fun j j1 j2 => by
    have j1' : j < its.length := by simpa using j1
    have j2' : j < its2.length := by simpa using j2
    have jv : j < vs.length := by omega
    have r1 := pair_at rv jv j1'
    have r2 := pair_at rv2 jv j2'
    have fl' : plainV vs[j] = true := List.all_eq_true.mp fl _ (List.getElem_mem jv)
    have z := eqAt_self (A := X.A.in1) (s := s) r1 r2 fl'
    simpa using z
  have z := SeqAt.RcNeAt.tuples (A := X.A) h1 h2 hu (e := fun _ => true) he
  have e : (!((List.range (min its.toArray.size its2.toArray.size)).all (fun _ => true) && its.toArray.size == its2.toArray.size)) = false := by
    have e1 : its.toArray.size = its2.toArray.size := by simp; omega
    rw [e1]
    simp
  rw [e] at z
  exact z X.prog X.w X.xe _ ⟨.bl false, H, I, rfl, q⟩
end
end L2

namespace My
open PySem PySem.Spec PyProof.Rows L2 He
/-! ### what is looked up in the written part, as truths -/
def oexB (K : PySem.W.Frag) (C : Addr) : Bool := (match K.lookup C with
    | some ⟨.type t, _, .cls cd, sl⟩ => decide (t = "type") && (match cd.mro, sl.toList with
      | .ref C' :: bm, [_, _, _, _, some (.builtin n), _] => decide (C' = C) && (decide (n = "ValueError.__new__") && (!cd.hasDel && (cd.hasDict && PySem.HandSPX.refsVE bm)))
      | _, _ => false)
    | _ => false) && (decide (PySem.W.findIn K (.ref C) "__setattr__" = some (some (.builtin "object.__setattr__"))) && (decide (PySem.W.subIn K (.ref C) (.type "BaseException") = some true) &&
    (decide (PySem.W.typeIn K (.ref C) = some (.type "type")) && PySem.W.keepIn K (.ref C))))
theorem oexB_ok {K : PySem.W.Frag} {C : Addr} (h : oexB K C = true) : OexC K C := by
  obtain ⟨h1, h⟩ := ba h
  obtain ⟨h2, h⟩ := ba h
  obtain ⟨h3, h⟩ := ba h
  obtain ⟨h4, h5⟩ := ba h
  refine ⟨?_, of_decide_eq_true h2, of_decide_eq_true h3, of_decide_eq_true h4, h5⟩
  split at h1
  · rename_i t dd cd sl ho
    obtain ⟨k1, k2⟩ := ba h1
    obtain rfl := of_decide_eq_true k1
    split at k2
    · rename_i C' bm k0 k1 k2' k3 n k5 hm hs
      obtain ⟨e1, k2⟩ := ba k2
      obtain ⟨e2, k2⟩ := ba k2
      obtain ⟨e3, k2⟩ := ba k2
      obtain ⟨e4, e5⟩ := ba k2
      obtain rfl := of_decide_eq_true e1
      obtain rfl := of_decide_eq_true e2
      obtain ⟨nm, bs, mro, ns, qn, hd, sn, sub, ab, col, del⟩ := cd
      dsimp only at hm e3 e4
      subst hm
      obtain rfl : hd = true := e4
      obtain rfl : del = false := by
        cases del
        · rfl
        · cases e3
      have hsl : sl = #[k0, k1, k2', k3, some (.builtin "ValueError.__new__"), k5] := by
        obtain ⟨l⟩ := sl
        simp only at hs
        rw [hs]
      subst hsl
      exact ⟨nm, qn, ns, bs, bm, sn, sub, ab, col, dd, k0, k1, k2', k3, k5, ho, e5⟩
    · cases k2
  · cases h1
def kitCB (K : PySem.W.Frag) (C : Addr) : Bool := (PySem.W.clsIn K C).isSome && (decide (PySem.W.findIn K (.ref C) "__class__" = some (some (.builtin "object.__class__"))) &&
  (decide (PySem.W.specialIn K (.builtin "object.__class__") "__get__" = some (some (.builtin "getset_descriptor.__get__"))) && (decide (PySem.W.takesIn K (.builtin "object.__class__") = some true) && decide (PySem.W.mroIn K C (.type "object") = some true))))
theorem kitCB_ok {K : PySem.W.Frag} {C : Addr} (h : kitCB K C = true) : KitC K C := by
  obtain ⟨h1, h⟩ := ba h
  obtain ⟨h2, h⟩ := ba h
  obtain ⟨h3, h⟩ := ba h
  obtain ⟨h4, h5⟩ := ba h
  exact ⟨h1, of_decide_eq_true h2, of_decide_eq_true h3, of_decide_eq_true h4, of_decide_eq_true h5⟩
/-- a class with one field -/
def errB (K : PySem.W.Frag) (x f : Str) : Bool := oexB K (ga K x) && (xfB K (ga K x) && (kitCB K (ga K x) && (decide (PySem.W.findIn K (.ref (ga K x)) "__init__" = some (some (.ref (ma K (ga K x) "__init__")))) &&
  (decide (PySem.W.typeIn K (.ref (ma K (ga K x) "__init__")) = some (.type "function")) && decide (PySem.W.findIn K (.ref (ga K x)) f = some none)))))
theorem errB_ok {K : PySem.W.Frag} {mg : Str → Option Value} {x f : Str} (g : mg x = some (.ref (ga K x))) (h : errB K x f = true) : ErrC K mg x f (ga K x) (ma K (ga K x) "__init__") := by
  obtain ⟨h1, h⟩ := ba h
  obtain ⟨h2, h⟩ := ba h
  obtain ⟨h3, h⟩ := ba h
  obtain ⟨h4, h⟩ := ba h
  obtain ⟨h5, h6⟩ := ba h
  exact ⟨g, oexB_ok h1, xfB_ok h2, kitCB_ok h3, of_decide_eq_true h4, of_decide_eq_true h5, of_decide_eq_true h6⟩
/-! ### the look at the head: facts, defs, and one more truth -/
abbrev AlM : Type := AlD × Bool
def seenM (fa : List Fa) (fn : List DefD) (ex : PySem.W.Frag → Bool) (K : PySem.W.Frag) : AlM := (obsD fa fn K, ex K)
def seenMG (n : Nat) (fa : List Fa) (fn : List DefD) (ex : PySem.W.Frag → Bool) (g : Addr → Option Obj) : AlM := seenM fa fn ex (frG g (asD g n))
def hookM (n : Nat) (fa : List Fa) (fn : List DefD) (ex : PySem.W.Frag → Bool) : PySem.W.Hook where
  α := AlM
  obs := fun s => seenMG n fa fn ex s.heap.get?
  val := fun _ => (valD fn, true)
  says := fun _ h => ∃ K : PySem.W.Frag, K.In h ∧ (SaysD fa fn K ∧ ex K = true)
  of := fun _ _ e => ⟨_, frG_in, congrArg (fun z : AlM => z.1) e, congrArg (fun z : AlM => z.2) e⟩
  keeps := fun _ _ _ ⟨K, hK, c⟩ k => ⟨K, PySem.W.Frag.In.keeps hK k, c⟩
theorem seenMG_eq {n : Nat} {fa : List Fa} {fn : List DefD} {ex : PySem.W.Frag → Bool} {g : Addr → Option Obj} {s : Shared} (h : ∀ a, g a = s.heap.get? a) : seenMG n fa fn ex g = (hookM n fa fn ex).obs s := by
  have e : g = s.heap.get? := funext h
  rw [e] <;> rfl


def aDef (K : PySem.W.Frag) : Addr := dflAt ("House", some "__init__") 0 K
def aDefF (K : PySem.W.Frag) : Addr := dflAt ("Facts", some "__init__") 0 K
def d_BadHouse_init : DefD := ⟨("BadHouse", some "__init__"), "__init__", "BadHouse.__init__", defArgs (inCls (top 3) 0), defBody (inCls (top 3) 0), defScope (inCls (top 3) 0), [], []⟩
def d_NoNode_init : DefD := ⟨("NoNode", some "__init__"), "__init__", "NoNode.__init__", defArgs (inCls (top 4) 0), defBody (inCls (top 4) 0), defScope (inCls (top 4) 0), [], []⟩
def d_NoFolder_init : DefD := ⟨("NoFolder", some "__init__"), "__init__", "NoFolder.__init__", defArgs (inCls (top 5) 0), defBody (inCls (top 5) 0), defScope (inCls (top 5) 0), [], []⟩
def d_Ringed_init : DefD := ⟨("Ringed", some "__init__"), "__init__", "Ringed.__init__", defArgs (inCls (top 6) 0), defBody (inCls (top 6) 0), defScope (inCls (top 6) 0), [], []⟩
def d_BadFact_init : DefD := ⟨("BadFact", some "__init__"), "__init__", "BadFact.__init__", defArgs (inCls (top 7) 0), defBody (inCls (top 7) 0), defScope (inCls (top 7) 0), [], []⟩
def d_is_list : DefD := ⟨("is_list", none), "is_list", "is_list", defArgs (top 12), defBody (top 12), defScope (top 12), [], []⟩
def d_is_name : DefD := ⟨("is_name", none), "is_name", "is_name", defArgs (top 13), defBody (top 13), defScope (top 13), [], []⟩
def d_is_fact : DefD := ⟨("is_fact", none), "is_fact", "is_fact", defArgs (top 16), defBody (top 16), defScope (top 16), [], []⟩
def d_wrong_fact : DefD := ⟨("wrong_fact", none), "wrong_fact", "wrong_fact", defArgs (top 17), defBody (top 17), defScope (top 17), [], []⟩
def d_as_told : DefD := ⟨("as_told", none), "as_told", "as_told", defArgs (top 18), defBody (top 18), defScope (top 18), [], []⟩
def d_each_once : DefD := ⟨("each_once", none), "each_once", "each_once", defArgs (top 19), defBody (top 19), defScope (top 19), [], []⟩
def d_against : DefD := ⟨("against", none), "against", "against", defArgs (top 20), defBody (top 20), defScope (top 20), [], []⟩
def d_Facts_init : DefD := ⟨("Facts", some "__init__"), "__init__", "Facts.__init__", defArgs (inCls (top 21) 0), defBody (inCls (top 21) 0), defScope (inCls (top 21) 0), [.adr aDefF], []⟩
def d_Facts_told : DefD := ⟨("Facts", some "told"), "told", "Facts.told", defArgs (inCls (top 21) 1), defBody (inCls (top 21) 1), defScope (inCls (top 21) 1), [], []⟩
def d_Facts_add : DefD := ⟨("Facts", some "__add__"), "__add__", "Facts.__add__", defArgs (inCls (top 21) 3), defBody (inCls (top 21) 3), defScope (inCls (top 21) 3), [], []⟩
def d_Facts_len : DefD := ⟨("Facts", some "__len__"), "__len__", "Facts.__len__", defArgs (inCls (top 21) 4), defBody (inCls (top 21) 4), defScope (inCls (top 21) 4), [], []⟩
def d_Facts_contains : DefD := ⟨("Facts", some "__contains__"), "__contains__", "Facts.__contains__", defArgs (inCls (top 21) 5), defBody (inCls (top 21) 5), defScope (inCls (top 21) 5), [], []⟩
def d_Facts_iter : DefD := ⟨("Facts", some "__iter__"), "__iter__", "Facts.__iter__", defArgs (inCls (top 21) 6), defBody (inCls (top 21) 6), defScope (inCls (top 21) 6), [], []⟩
def d_Facts_eq : DefD := ⟨("Facts", some "__eq__"), "__eq__", "Facts.__eq__", defArgs (inCls (top 21) 7), defBody (inCls (top 21) 7), defScope (inCls (top 21) 7), [], []⟩
def d_wrong_name : DefD := ⟨("wrong_name", none), "wrong_name", "wrong_name", defArgs (top 23), defBody (top 23), defScope (top 23), [], []⟩
def d_wrong_part : DefD := ⟨("wrong_part", none), "wrong_part", "wrong_part", defArgs (top 24), defBody (top 24), defScope (top 24), [], []⟩
def d_House_init : DefD := ⟨("House", some "__init__"), "__init__", "House.__init__", defArgs (inCls (top 25) 0), defBody (inCls (top 25) 0), defScope (inCls (top 25) 0), [.adr aDef], []⟩
def d_House_len : DefD := ⟨("House", some "__len__"), "__len__", "House.__len__", defArgs (inCls (top 25) 1), defBody (inCls (top 25) 1), defScope (inCls (top 25) 1), [], []⟩
def d_House_contains : DefD := ⟨("House", some "__contains__"), "__contains__", "House.__contains__", defArgs (inCls (top 25) 2), defBody (inCls (top 25) 2), defScope (inCls (top 25) 2), [], []⟩
def d_House_iter : DefD := ⟨("House", some "__iter__"), "__iter__", "House.__iter__", defArgs (inCls (top 25) 3), defBody (inCls (top 25) 3), defScope (inCls (top 25) 3), [], []⟩
def d_House_eq : DefD := ⟨("House", some "__eq__"), "__eq__", "House.__eq__", defArgs (inCls (top 25) 4), defBody (inCls (top 25) 4), defScope (inCls (top 25) 4), [], []⟩
def d_must_be_node : DefD := ⟨("must_be_node", none), "must_be_node", "must_be_node", defArgs (top 26), defBody (top 26), defScope (top 26), [], []⟩
def d_must_be_folder : DefD := ⟨("must_be_folder", none), "must_be_folder", "must_be_folder", defArgs (top 27), defBody (top 27), defScope (top 27), [], []⟩
def d_ring : DefD := ⟨("ring", none), "ring", "ring", defArgs (top 29), defBody (top 29), defScope (top 29), [], []⟩
def d_Tree_init : DefD := ⟨("Tree", some "__init__"), "__init__", "Tree.__init__", defArgs (inCls (top 30) 0), defBody (inCls (top 30) 0), defScope (inCls (top 30) 0), [], []⟩
def d_Tree_over : DefD := ⟨("Tree", some "over"), "over", "Tree.over", defArgs (inCls (top 30) 1), defBody (inCls (top 30) 1), defScope (inCls (top 30) 1), [], []⟩
def d_Tree_above : DefD := ⟨("Tree", some "above"), "above", "Tree.above", defArgs (inCls (top 30) 2), defBody (inCls (top 30) 2), defScope (inCls (top 30) 2), [], []⟩
def d_Tree_below : DefD := ⟨("Tree", some "below"), "below", "Tree.below", defArgs (inCls (top 30) 3), defBody (inCls (top 30) 3), defScope (inCls (top 30) 3), [], []⟩
def d_Tree_lies : DefD := ⟨("Tree", some "lies"), "lies", "Tree.lies", defArgs (inCls (top 30) 4), defBody (inCls (top 30) 4), defScope (inCls (top 30) 4), [], []⟩
def d_Tree_eq : DefD := ⟨("Tree", some "__eq__"), "__eq__", "Tree.__eq__", defArgs (inCls (top 30) 8), defBody (inCls (top 30) 8), defScope (inCls (top 30) 8), [], []⟩
def d_steps_of : DefD := ⟨("steps_of", none), "steps_of", "steps_of", defArgs (top 32), defBody (top 32), defScope (top 32), [], []⟩
def d_bars_of : DefD := ⟨("bars_of", none), "bars_of", "bars_of", defArgs (top 33), defBody (top 33), defScope (top 33), [], []⟩
def d_reached : DefD := ⟨("reached", none), "reached", "reached", defArgs (top 34), defBody (top 34), defScope (top 34), [], []⟩
def d_parts_of : DefD := ⟨("parts_of", none), "parts_of", "parts_of", defArgs (top 35), defBody (top 35), defScope (top 35), [], []⟩
def d_tops_of : DefD := ⟨("tops_of", none), "tops_of", "tops_of", defArgs (top 36), defBody (top 36), defScope (top 36), [], []⟩
def d_tree_or_group : DefD := ⟨("tree_or_group", none), "tree_or_group", "tree_or_group", defArgs (top 37), defBody (top 37), defScope (top 37), [], []⟩
def d_tree_for : DefD := ⟨("tree_for", none), "tree_for", "tree_for", defArgs (top 38), defBody (top 38), defScope (top 38), [], []⟩
def d_parted : DefD := ⟨("parted", none), "parted", "parted", defArgs (top 40), defBody (top 40), defScope (top 40), [], []⟩
def d_follows : DefD := ⟨("follows", none), "follows", "follows", defArgs (top 41), defBody (top 41), defScope (top 41), [], []⟩
def d_alike : DefD := ⟨("alike", none), "alike", "alike", defArgs (top 42), defBody (top 42), defScope (top 42), [], []⟩
def d__law_cell : DefD := ⟨("_law_cell", none), "_law_cell", "_law_cell", defArgs (top 44), defBody (top 44), defScope (top 44), [], []⟩
def d__law_pool : DefD := ⟨("_law_pool", none), "_law_pool", "_law_pool", defArgs (top 45), defBody (top 45), defScope (top 45), [], []⟩
def d__law_take : DefD := ⟨("_law_take", none), "_law_take", "_law_take", defArgs (top 46), defBody (top 46), defScope (top 46), [], []⟩
def d__law_picked : DefD := ⟨("_law_picked", none), "_law_picked", "_law_picked", defArgs (top 47), defBody (top 47), defScope (top 47), [], []⟩
def d__law_names : DefD := ⟨("_law_names", none), "_law_names", "_law_names", defArgs (top 48), defBody (top 48), defScope (top 48), [], []⟩
def d__law_plan : DefD := ⟨("_law_plan", none), "_law_plan", "_law_plan", defArgs (top 49), defBody (top 49), defScope (top 49), [], []⟩
def d__law_house : DefD := ⟨("_law_house", none), "_law_house", "_law_house", defArgs (top 50), defBody (top 50), defScope (top 50), [], []⟩
def d__law_drawn_tree : DefD := ⟨("_law_drawn_tree", none), "_law_drawn_tree", "_law_drawn_tree", defArgs (top 51), defBody (top 51), defScope (top 51), [], []⟩
def d__law_lies : DefD := ⟨("_law_lies", none), "_law_lies", "_law_lies", defArgs (top 52), defBody (top 52), defScope (top 52), [], []⟩
def d__law_holds : DefD := ⟨("_law_holds", none), "_law_holds", "_law_holds", defArgs (top 53), defBody (top 53), defScope (top 53), [], []⟩
def d__law_keeps : DefD := ⟨("_law_keeps", none), "_law_keeps", "_law_keeps", defArgs (top 54), defBody (top 54), defScope (top 54), [], []⟩
def d__law_drawn_fact : DefD := ⟨("_law_drawn_fact", none), "_law_drawn_fact", "_law_drawn_fact", defArgs (top 55), defBody (top 55), defScope (top 55), [], []⟩
def d__law_drawn_facts : DefD := ⟨("_law_drawn_facts", none), "_law_drawn_facts", "_law_drawn_facts", defArgs (top 56), defBody (top 56), defScope (top 56), [], []⟩
def d__law_told : DefD := ⟨("_law_told", none), "_law_told", "_law_told", defArgs (top 57), defBody (top 57), defScope (top 57), [], []⟩
def d__law_over : DefD := ⟨("_law_over", none), "_law_over", "_law_over", defArgs (top 58), defBody (top 58), defScope (top 58), [], []⟩
def d__law_is_fit : DefD := ⟨("_law_is_fit", none), "_law_is_fit", "_law_is_fit", defArgs (top 59), defBody (top 59), defScope (top 59), [], []⟩
def d__law_loose : DefD := ⟨("_law_loose", none), "_law_loose", "_law_loose", defArgs (top 60), defBody (top 60), defScope (top 60), [], []⟩
def d__law_all_trees : DefD := ⟨("_law_all_trees", none), "_law_all_trees", "_law_all_trees", defArgs (top 61), defBody (top 61), defScope (top 61), [], []⟩
def d__law_fitting : DefD := ⟨("_law_fitting", none), "_law_fitting", "_law_fitting", defArgs (top 62), defBody (top 62), defScope (top 62), [], []⟩
def d__law_facts : DefD := ⟨("_law_facts", none), "_law_facts", "_law_facts", defArgs (top 63), defBody (top 63), defScope (top 63), [], []⟩
def d__law_small : DefD := ⟨("_law_small", none), "_law_small", "_law_small", defArgs (top 64), defBody (top 64), defScope (top 64), [], []⟩
def d__law_strange_house : DefD := ⟨("_law_strange_house", none), "_law_strange_house", "_law_strange_house", defArgs (top 65), defBody (top 65), defScope (top 65), [], []⟩
def d__law_others : DefD := ⟨("_law_others", none), "_law_others", "_law_others", defArgs (top 66), defBody (top 66), defScope (top 66), [], []⟩
def d__law_first : DefD := ⟨("_law_first", none), "_law_first", "_law_first", defArgs (top 67), defBody (top 67), defScope (top 67), [], []⟩
def d__law_parted_right : DefD := ⟨("_law_parted_right", none), "_law_parted_right", "_law_parted_right", defArgs (top 68), defBody (top 68), defScope (top 68), [], []⟩
def d__law_unlike : DefD := ⟨("_law_unlike", none), "_law_unlike", "_law_unlike", defArgs (top 69), defBody (top 69), defScope (top 69), [], []⟩
def d_law : DefD := ⟨("law", none), "law", "law", defArgs (top 70), defBody (top 70), defScope (top 70), [], []⟩
def fn : List DefD := ([d_BadHouse_init, d_NoNode_init, d_NoFolder_init, d_Ringed_init, d_BadFact_init, d_is_list, d_is_name, d_is_fact, d_wrong_fact, d_as_told, d_each_once, d_against, d_Facts_init, d_Facts_told] : List DefD) ++ ([d_Facts_add, d_Facts_len, d_Facts_contains, d_Facts_iter, d_Facts_eq, d_wrong_name, d_wrong_part, d_House_init, d_House_len, d_House_contains, d_House_iter, d_House_eq, d_must_be_node, d_must_be_folder] : List DefD) ++ ([d_ring, d_Tree_init, d_Tree_over, d_Tree_above, d_Tree_below, d_Tree_lies, d_Tree_eq, d_steps_of, d_bars_of, d_reached, d_parts_of, d_tops_of, d_tree_or_group, d_tree_for] : List DefD) ++ ([d_parted, d_follows, d_alike, d__law_cell, d__law_pool, d__law_take, d__law_picked, d__law_names, d__law_plan, d__law_house, d__law_drawn_tree, d__law_lies, d__law_holds, d__law_keeps] : List DefD) ++ ([d__law_drawn_fact, d__law_drawn_facts, d__law_told, d__law_over, d__law_is_fit, d__law_loose, d__law_all_trees, d__law_fitting, d__law_facts, d__law_small, d__law_strange_house, d__law_others, d__law_first, d__law_parted_right] : List DefD) ++ ([d__law_unlike, d_law] : List DefD)
def fa : List Fa := ([.glo "BadHouse", .glo "NoNode", .glo "NoFolder", .glo "Ringed", .glo "BadFact", .glo "UnlikeHouses", .glo "is_list", .glo "is_name", .glo "is_fact", .glo "wrong_fact", .glo "as_told", .glo "each_once", .glo "against", .glo "Facts"] : List Fa) ++ ([.glo "wrong_name", .glo "wrong_part", .glo "House", .glo "must_be_node", .glo "must_be_folder", .glo "ring", .glo "Tree", .glo "steps_of", .glo "bars_of", .glo "reached", .glo "parts_of", .glo "tops_of", .glo "tree_or_group", .glo "tree_for"] : List Fa) ++ ([.glo "parted", .glo "follows", .glo "alike", .glo "_law_cell", .glo "_law_pool", .glo "_law_take", .glo "_law_picked", .glo "_law_names", .glo "_law_plan", .glo "_law_house", .glo "_law_drawn_tree", .glo "_law_lies", .glo "_law_holds", .glo "_law_keeps"] : List Fa) ++ ([.glo "_law_drawn_fact", .glo "_law_drawn_facts", .glo "_law_told", .glo "_law_over", .glo "_law_is_fit", .glo "_law_loose", .glo "_law_all_trees", .glo "_law_fitting", .glo "_law_facts", .glo "_law_small", .glo "_law_strange_house", .glo "_law_others", .glo "_law_first", .glo "_law_parted_right"] : List Fa) ++ ([.glo "_law_unlike", .glo "law", .glo "WORDS", .free "int", .free "len", .free "isinstance", .free "range", .free "all", .free "list", .free "tuple", .free "str", .free "enumerate", .free "iter", .free "any"] : List Fa) ++ ([.free "min", .free "dict", .free "bool", .int "LONGEST" 8, .str "LETTERS" letters, .cls "Facts", .noat "Facts" "house", .noat "Facts" "rows", .meth "Facts" "told", .meth "Facts" "__add__", .meth "Facts" "__len__", .meth "Facts" "__contains__", .meth "Facts" "__iter__", .meth "Facts" "__eq__"] : List Fa) ++ ([.mkr "Facts", .cls "House", .noat "House" "folders", .noat "House" "things", .noat "House" "nodes", .meth "House" "__len__", .meth "House" "__contains__", .meth "House" "__iter__", .meth "House" "__eq__", .mkr "House", .cls "Tree", .noat "Tree" "house", .noat "Tree" "lying", .meth "Tree" "over"] : List Fa) ++ ([.meth "Tree" "above", .meth "Tree" "below", .meth "Tree" "lies", .meth "Tree" "__eq__", .mkr "Tree", .exm "UnlikeHouses" "UnlikeHouses" true] : List Fa)
def tyL : List String := ["NoneType", "list", "tuple", "int", "str"]
def dflB (K : PySem.W.Frag) : Bool := match K.lookup (aDef K) with
  | some ⟨.type t, _, .seq its _, _⟩ => decide (t = "tuple") && decide (its.toList = [])
  | _ => false
def strsB : List PySem.Value → List PySem.Str → Bool
  | [], [] => true
  | .str a _ :: us, z :: zs => decide (a = z) && strsB us zs
  | _, _ => false
theorem strsB_ok : ∀ {us : List PySem.Value} {zs : List PySem.Str}, strsB us zs = true → Vals (zs.map V.str) us
  | [], [], _ => .nil
  | .str a t :: us, z :: zs, h => by
    obtain ⟨h1, h2⟩ := ba h
    obtain rfl := of_decide_eq_true h1
    exact .cons ⟨t, rfl⟩ (strsB_ok h2)
def worB (K : PySem.W.Frag) : Bool := match K.lookup (ga K "WORDS") with
  | some ⟨.type t, _, .seq its _, _⟩ => decide (t = "tuple") && strsB its.toList wordsS
  | _ => false
def dflBF (K : PySem.W.Frag) : Bool := match K.lookup (aDefF K) with
  | some ⟨.type t, _, .seq its _, _⟩ => decide (t = "tuple") && decide (its.toList = [])
  | _ => false
theorem dflBF_ok {K : PySem.W.Frag} (h : dflBF K = true) : ∀ H, SqT K H (aDefF K) [] := fun H => by
  unfold dflBF at h
  split at h
  · rename_i t dd its n sl ho
    obtain ⟨h1, h2⟩ := ba h
    obtain rfl := of_decide_eq_true h1
    have h3 : its.toList = [] := of_decide_eq_true h2
    refine .inr ⟨_, its, n, ho, rfl, rfl, ?_, by rw [h3]; exact .nil⟩
    rw [← Array.length_toList, h3]
    exact Nat.zero_le _
  · cases h
def facB (K : PySem.W.Frag) : Bool := kitCB K (ga K "Facts") && (decide (PySem.W.kitOne K (.ref (ga K "Facts")) (.ref (ga K "Facts")) = some true) && (decide (PySem.W.findIn K (.ref (ga K "Facts")) "__ne__" = some (some (.builtin "object.__ne__"))) &&
  ((tyL.all fun T => PySem.W.notFirst K (ga K "Facts") (.type T) && decide (PySem.W.kitOne K (.type T) (.ref (ga K "Facts")) = some false)) && (decide (PySem.W.kitAny K (.ref (ga K "Facts")) [.type "list", .type "tuple"] = some false) && dflBF K))))
def bmV : List PySem.Value := [.type "ValueError", .type "Exception", .type "BaseException", .type "object"]
def uncB (K : PySem.W.Frag) : Bool := PySem.W.excIn K (ga K "UnlikeHouses") bmV "ValueError.__new__" && (PySem.W.keepIn K (.ref (ga K "UnlikeHouses")) && (decide (PySem.W.subIn K (.ref (ga K "UnlikeHouses")) (.type "BaseException") = some true) && decide (PySem.W.typeIn K (.ref (ga K "UnlikeHouses")) = some (.type "type"))))
def addL : List String := ["NoneType", "list", "tuple", "int", "str"]
def houB (K : PySem.W.Frag) : Bool := kitCB K (ga K "House") && (decide (PySem.W.kitOne K (.ref (ga K "House")) (.ref (ga K "House")) = some true) && (decide (PySem.W.findIn K (.ref (ga K "House")) "__ne__" = some (some (.builtin "object.__ne__"))) && (decide (PySem.W.subIn K (.ref (ga K "House")) (.type "str") = some false) && ((tyL.all fun T => PySem.W.notFirst K (ga K "House") (.type T) && decide (PySem.W.kitOne K (.type T) (.ref (ga K "House")) = some false)) && (dflB K && (worB K && (errB K "BadHouse" "index" && (errB K "NoNode" "node" && (errB K "NoFolder" "folder" && (errB K "Ringed" "folders" && (errB K "BadFact" "index" && (kitCB K (ga K "Tree") && (decide (PySem.W.kitOne K (.ref (ga K "Tree")) (.ref (ga K "Tree")) = some true) && (uncB K && ((addL.all fun T => addB K (ga K "Facts") T) && (decide (PySem.W.findIn K (.ref (ga K "Facts")) "__radd__" = some none) && (PySem.W.selfFirst K (ga K "Facts") && (facB K))))))))))))))))))
theorem dflB_ok {K : PySem.W.Frag} (h : dflB K = true) : ∀ H, SqT K H (aDef K) [] := fun H => by
  unfold dflB at h
  split at h
  · rename_i t dd its n sl ho
    obtain ⟨h1, h2⟩ := ba h
    obtain rfl := of_decide_eq_true h1
    have h3 : its.toList = [] := of_decide_eq_true h2
    refine .inr ⟨_, its, n, ho, rfl, rfl, ?_, by rw [h3]; exact .nil⟩
    rw [← Array.length_toList, h3]
    exact Nat.zero_le _
  · cases h
theorem worB_ok {K : PySem.W.Frag} (h : worB K = true) : ∀ H, SqT K H (ga K "WORDS") (wordsS.map V.str) := fun H => by
  unfold worB at h
  split at h
  · rename_i t dd its n sl ho
    obtain ⟨h1, h2⟩ := ba h
    obtain rfl := of_decide_eq_true h1
    have h3 := strsB_ok h2
    refine .inr ⟨_, its, n, ho, rfl, rfl, ?_, h3⟩
    rw [← Array.length_toList, ← h3.length]
    exact Nat.le_of_ble_eq_true rfl
  · cases h

def loose : List PySem.Str := (["_wall", "HouseError", "BadHouse", "NoNode", "NoFolder", "Ringed", "BadFact", "UnlikeHouses", "is_list", "is_name", "is_fact", "wrong_fact", "as_told", "each_once"] : List PySem.Str) ++ (["against", "Facts", "wrong_name", "wrong_part", "House", "must_be_node", "must_be_folder", "ring", "Tree", "steps_of", "bars_of", "reached", "parts_of", "tops_of"] : List PySem.Str) ++ (["tree_or_group", "tree_for", "parted", "follows", "alike", "_law_cell", "_law_pool", "_law_take", "_law_picked", "_law_names", "_law_plan", "_law_house", "_law_drawn_tree", "_law_lies"] : List PySem.Str) ++ (["_law_holds", "_law_keeps", "_law_drawn_fact", "_law_drawn_facts", "_law_told", "_law_over", "_law_is_fit", "_law_loose", "_law_all_trees", "_law_fitting", "_law_facts", "_law_small", "_law_strange_house", "_law_others"] : List PySem.Str) ++ (["_law_first", "_law_parted_right", "_law_unlike", "law", "WORDS", "LETTERS", "LONGEST", "int", "len", "isinstance", "range", "all", "list", "tuple"] : List PySem.Str) ++ (["str", "enumerate", "iter", "any", "min", "dict", "bool"] : List PySem.Str)
abbrev Rw : PySem.W.OpenRow := PySem.W.OpenLaw.row PySem.Challenge.rw_whatopened_k49_whole_facts_compared
abbrev hk : PySem.W.Hook := hookY 5 fa fn [] [("law", none)] houB
def ob (s : PySem.W.SharedT) : AlX := obsY 5 fa fn [] [("law", none)] houB (HandSHeadRun.getT s)
theorem ob_eq (s : PySem.W.SharedT) : ob s = hk.obs s.abs := obsY_eq (HandSHeadRun.getT_eq s)
end My

namespace My
open PySem PySem.Spec PyProof.Rows L2 He
theorem run (w : World) : HandSHeadRun.RunEq Rw (PySem.W.view Rw.prog [70]) hk ob 8000 loose w := by
  intro os
  kernel_rfl
end My

namespace My
open PySem PySem.Spec PyProof.Rows L2
/-! ### what is against a fact -/
/-- rows of texts, each a tuple -/
def Rows (K : PySem.W.Frag) (H : Hp) : List V → List (List Str) → Prop
  | [], [] => True
  | x :: xs, r :: rs => (∃ t, x = .ref t ∧ SqT K H t (r.map V.str)) ∧ Rows K H xs rs
  | _, _ => False
theorem Rows.ext {K : PySem.W.Frag} {H H' : Hp} (e : Ext H H') : ∀ {xs : List V} {rs : List (List Str)}, Rows K H xs rs → Rows K H' xs rs
  | [], [], _ => True.intro
  | _ :: _, _ :: _, ⟨⟨t, e1, h⟩, hr⟩ => ⟨⟨t, e1, h.ext e⟩, Rows.ext e hr⟩
  | [], _ :: _, h => h.elim
  | _ :: _, [], h => h.elim
theorem Rows.len {K : PySem.W.Frag} {H : Hp} : ∀ {xs : List V} {rs : List (List Str)}, Rows K H xs rs → xs.length = rs.length
  | [], [], _ => rfl
  | _ :: _, _ :: _, ⟨_, hr⟩ => congrArg (· + 1) (Rows.len hr)
  | [], _ :: _, h => h.elim
  | _ :: _, [], h => h.elim
theorem Rows.app {K : PySem.W.Frag} {H : Hp} : ∀ {xs ys : List V} {rs ss : List (List Str)}, Rows K H xs rs → Rows K H ys ss → Rows K H (xs ++ ys) (rs ++ ss)
  | [], _, [], _, _, h => h
  | _ :: _, _, _ :: _, _, ⟨h1, h2⟩, h => ⟨h1, Rows.app h2 h⟩
  | [], _, _ :: _, _, h, _ => h.elim
  | _ :: _, _, [], _, h, _ => h.elim
theorem Rows.at_ {K : PySem.W.Frag} {H : Hp} : ∀ {xs : List V} {rs : List (List Str)} {i : Nat} {x : V}, Rows K H xs rs → xs[i]? = some x → ∃ t r, x = .ref t ∧ SqT K H t (r.map V.str) ∧ rs[i]? = some r
  | _ :: _, r :: _, 0, _, ⟨⟨t, e1, h⟩, _⟩, e => by
    injection e with e
    subst e
    exact ⟨t, r, e1, h, rfl⟩
  | _ :: xs, _ :: rs, i + 1, x, ⟨_, h⟩, e => Rows.at_ (xs := xs) (rs := rs) h e
  | [], [], _, _, _, e => by cases e
  | [], _ :: _, _, _, h, _ => h.elim
  | _ :: _, [], _, _, h, _ => h.elim
/-- a list of rows -/
def RowsAt (K : PySem.W.Frag) (H : Hp) (l : Addr) (rs : List (List Str)) : Prop := ∃ xs, H l = some (.lst xs) ∧ Rows K H xs rs
theorem RowsAt.ext {K : PySem.W.Frag} {H H' : Hp} {l : Addr} {rs : List (List Str)} (h : RowsAt K H l rs) (e : Ext H H') : RowsAt K H' l rs := by
  obtain ⟨xs, h1, h2⟩ := h
  exact ⟨xs, e _ _ h1, h2.ext e⟩
theorem Rows.upd {K : PySem.W.Frag} {H : Hp} {l : Addr} {ys zs : List V} (hl : H l = some (.lst ys)) : ∀ {xs : List V} {rs : List (List Str)}, Rows K H xs rs → Rows K (L2.upd H l (.lst zs)) xs rs
  | [], [], _ => True.intro
  | _ :: _, _ :: _, ⟨⟨t, e1, h⟩, hr⟩ => ⟨⟨t, e1, sqT_upd h hl⟩, Rows.upd hl hr⟩
  | [], _ :: _, h => h.elim
  | _ :: _, [], h => h.elim
def agS (fo : List Str) (w c d : Str) : List (List Str) := if w = "below" then [["not", c, d]] else if w = "not" then [["below", c, d]] else (([(c, d), (d, c)] : List (Str × Str)).filter fun p => decide (p.2 ∈ fo)).map fun p => ["not", p.1, p.2]
/-- the same of a fact as it stands -/
def agF (fo th : List Str) (w a b : Str) : List (List Str) := match toldS (fo ++ th) w a b with
  | [w, c, d] => agS fo w c d
  | _ => []
end My

namespace My
open PySem PySem.Spec PyProof.Rows L2
/-- list(a) of a list or a tuple -/
def rLstS (K : PySem.W.Frag) : List V → Hp → VK → Prop := fun xs H Q => ∃ a zs, xs = [.ref a] ∧ SeqAt2 K H a zs ∧ ∀ l, H l = none → Q (.ref l) (L2.upd H l (.lst zs))
theorem call_lstS {X : Cx} : CallR X (.type "list") (rLstS X.K) := by
  intro pins s σ H xs us Q I rv h
  obtain ⟨a, zs, rfl, sq, q⟩ := h
  exact call_list_of pins s σ H _ us Q I rv ⟨a, zs, rfl, sq, q⟩
/-! ### dicts with text keys -/
abbrev Dic : Type := List (Str × V)
def kd (d : Dic) : List (Key × V) := d.map fun p => (Sum.inr p.1, p.2)
def getD (d : Dic) (z : Str) : Option V := (d.find? fun p => decide (p.1 = z)).map (·.2)
theorem val_kd (z : Str) : ∀ d : Dic, valV (kd d) (Sum.inr z) = getD d z
  | [] => rfl
  | (y, v) :: d => by
    have ih := val_kd z d
    unfold valV getD kd at *
    rw [List.map_cons, List.find?_cons, List.find?_cons]
    by_cases e : y = z
    · subst e
      simp
    · have e2 : ¬ ((Sum.inr y : Key) = Sum.inr z) := fun h => e (by injection h)
      simp only [e, e2, decide_false]
      exact ih
def setD (d : Dic) (z : Str) (v : V) : Dic := if (d.any fun p => decide (p.1 = z)) = true then d.map fun p => if p.1 = z then (p.1, v) else p else d ++ [(z, v)]
theorem any_kd (z : Str) (d : Dic) : ((kd d).any fun kv => decide (kv.1 = Sum.inr z)) = d.any fun p => decide (p.1 = z) := by
  unfold kd
  rw [List.any_map]
  congr 1
  funext p
  show decide ((Sum.inr p.1 : Key) = Sum.inr z) = decide (p.1 = z)
  by_cases e : p.1 = z
  · rw [decide_eq_true e, decide_eq_true (by rw [e])]
  · rw [decide_eq_false e, decide_eq_false fun h => e (by injection h)]
theorem put_kd (d : Dic) (z : Str) (v : V) : putK (kd d) (Sum.inr z) v = kd (setD d z v) := by
  unfold putK setD
  rw [any_kd]
  by_cases h : (d.any fun p => decide (p.1 = z)) = true
  · rw [if_pos h, if_pos h]
    unfold kd
    rw [List.map_map, List.map_map]
    refine List.map_congr_left fun p _ => ?_
    show (if (Sum.inr p.1 : Key) = Sum.inr z then ((Sum.inr p.1 : Key), v) else (Sum.inr p.1, p.2)) = _
    by_cases e : p.1 = z
    · rw [if_pos (by rw [e])]
      simp [e]
    · rw [if_neg fun h => e (by injection h)]
      simp [e]
  · rw [if_neg h, if_neg h]
    unfold kd
    rw [List.map_append]
    rfl
theorem setD_len (d : Dic) (z : Str) (v : V) : (setD d z v).length ≤ d.length + 1 := by
  unfold setD
  split
  · rw [List.length_map]
    exact Nat.le_succ _
  · rw [List.length_append]
    exact Nat.le_refl _
theorem setD_mem {d : Dic} {z : Str} {v : V} {p : Str × V} (h : p ∈ setD d z v) : p ∈ d ∨ p.2 = v := by
  unfold setD at h
  split at h
  · obtain ⟨q, hq, e⟩ := List.mem_map.mp h
    by_cases c : q.1 = z
    · rw [if_pos c] at e
      exact .inr (by rw [← e])
    · rw [if_neg c] at e
      exact .inl (e ▸ hq)
  · rcases List.mem_append.mp h with h | h
    · exact .inl h
    · rw [List.mem_singleton.mp h]
      exact .inr rfl
theorem getD_mem {d : Dic} {z : Str} {v : V} (h : getD d z = some v) : ∃ p, p ∈ d ∧ p.2 = v := by
  unfold getD at h
  cases e : d.find? fun p => decide (p.1 = z) with
  | none => rw [e] at h; cases h
  | some p =>
    rw [e] at h
    injection h with h
    exact ⟨p, List.mem_of_find?_eq_some e, h⟩
/-- the worths: None or folders -/
def DicOk (fo : List Str) (d : Dic) : Prop := ∀ p, p ∈ d → p.2 = .non ∨ ∃ z, z ∈ fo ∧ p.2 = .str z
def Opt (fo : List Str) (v : V) : Prop := v = .non ∨ ∃ z, z ∈ fo ∧ v = .str z
theorem getD_opt {fo : List Str} {d : Dic} (h : DicOk fo d) (z : Str) : Opt fo ((getD d z).getD .non) := by
  cases e : getD d z with
  | none => exact .inl rfl
  | some v =>
    obtain ⟨p, hp, e2⟩ := getD_mem e
    rw [← e2]
    exact h p hp
def stepV (d : Dic) : V → V
  | .str z => (getD d z).getD .non
  | v => v
theorem step_opt {fo : List Str} {d : Dic} (h : DicOk fo d) {v : V} (hv : Opt fo v) : Opt fo (stepV d v) := by
  rcases hv with rfl | ⟨z, _, rfl⟩
  · exact .inl rfl
  · exact getD_opt h z
/-! ### rows as data -/
def rowsD (rs : List (List Str)) : PyData := .list (rs.map fun r => .tuple (r.map PyData.str))
def OkR (rs : List (List Str)) : Prop := ∀ r, r ∈ rs → OkS r
theorem rows_dp {K : PySem.W.Frag} {H : Hp} : ∀ {xs : List V} {rs : List (List Str)}, Rows K H xs rs → DpAll K H xs (rs.map fun r => PyData.tuple (r.map PyData.str))
  | [], [], _ => .nil
  | _ :: _, r :: _, ⟨⟨t, e, h⟩, hr⟩ => by
    subst e
    exact .cons (.tup h (dpAll_str r)) (rows_dp hr)
  | [], _ :: _, h => h.elim
  | _ :: _, [], h => h.elim
theorem rows_shaped {rs : List (List Str)} (h : OkR rs) : SeqAt.shaped (rowsD rs) = true := shaped_ds _ fun d hd => by
  obtain ⟨r, hr, rfl⟩ := List.mem_map.mp hd
  exact flat_tup r (h r hr)
theorem eqvAll_rows : ∀ rs ss : List (List Str), PyData.eqvAll (rs.map fun r => PyData.tuple (r.map PyData.str)) (ss.map fun r => PyData.tuple (r.map PyData.str)) = decide (rs = ss)
  | [], [] => rfl
  | [], _ :: _ => rfl
  | _ :: _, [] => rfl
  | r :: rs, s :: ss => by
    show (PyData.eqv (.tuple (r.map PyData.str)) (.tuple (s.map PyData.str)) && PyData.eqvAll (rs.map fun r => PyData.tuple (r.map PyData.str)) (ss.map fun r => PyData.tuple (r.map PyData.str))) = _
    rw [eqvAll_rows rs ss, eqv_strT]
    by_cases h : r = s
    · subst h
      simp
    · simp [h]
theorem eqv_rows (rs ss : List (List Str)) : PyData.eqv (rowsD rs) (rowsD ss) = decide (rs = ss) := eqvAll_rows rs ss
def Three (rs : List (List Str)) : Prop := ∀ r, r ∈ rs → ∃ w a b, r = [w, a, b]
theorem filter_all {α : Type} (p : α → Bool) : ∀ xs : List α, decide (xs.filter (fun x => !p x) = ([] : List α)) = xs.all p
  | [] => rfl
  | x :: xs => by
    have ih := filter_all p xs
    rw [List.filter_cons, List.all_cons]
    cases h : p x with
    | true => simpa using ih
    | false => simp
theorem kd_len (d : Dic) : (kd d).length = d.length := List.length_map _
theorem ext_none {H H' : Hp} {p : Addr} (e : Ext H H') (h : H' p = none) : H p = none := by
  cases hh : H p with
  | none => rfl
  | some u => exact absurd (e p u hh) (by rw [h]; exact fun z => nomatch z)
theorem strs_at {zs : List Str} {i : Nat} {v : V} (h : (zs.map V.str)[i]? = some v) : ∃ z, zs[i]? = some z ∧ v = .str z := by
  rw [List.getElem?_map] at h
  cases e : zs[i]? with
  | none => rw [e] at h; cases h
  | some z =>
    rw [e] at h
    injection h with h
    exact ⟨z, rfl, h.symm⟩
/-! ### lines in the order of the house -/
theorem ord_app (a b : Str) (xs ys : List Str) : ordS (xs ++ ys) a b = ordS xs a b ++ ordS ys a b := List.filter_append ..
theorem ord_none {ns : List Str} {a b : Str} (ha : a ∉ ns) (hb : b ∉ ns) : ordS ns a b = [] := by
  unfold ordS
  rw [List.filter_eq_nil_iff]
  intro k hk
  have h1 : k ≠ a := fun e => ha (e ▸ hk)
  have h2 : k ≠ b := fun e => hb (e ▸ hk)
  simp [h1, h2]
theorem ord_comm (ns : List Str) (a b : Str) : ordS ns a b = ordS ns b a := by
  unfold ordS
  congr 1
  funext n
  rw [Bool.or_comm]
theorem ord_lt : ∀ {ns : List Str} {a b : Str} {i j : Nat}, ns.Nodup → ns[i]? = some a → ns[j]? = some b → i < j → ordS ns a b = [a, b]
  | n :: ns, a, b, 0, j + 1, nd, ha, hb, _ => by
    obtain ⟨nn, nd'⟩ := List.nodup_cons.mp nd
    injection ha with ha
    subst ha
    have hb' : b ∈ ns := List.mem_of_getElem? hb
    have nb : n ≠ b := fun e => nn (e ▸ hb')
    obtain ⟨c, d, e, h⟩ := ord_two nd List.mem_cons_self (List.mem_cons_of_mem _ hb') nb
    have e0 := e
    unfold ordS at e
    rw [List.filter_cons, if_pos (by simp)] at e
    injection e with e1 e2
    rw [e0]
    rcases h with ⟨h1, h2⟩ | ⟨h1, h2⟩
    · rw [h1, h2]
    · exact absurd (e1.trans h1) nb
  | n :: ns, a, b, i + 1, j + 1, nd, ha, hb, h => by
    obtain ⟨nn, nd'⟩ := List.nodup_cons.mp nd
    have ha' : a ∈ ns := List.mem_of_getElem? (i := i) ha
    have hb' : b ∈ ns := List.mem_of_getElem? (i := j) hb
    have h1 : n ≠ a := fun e => nn (e ▸ ha')
    have h2 : n ≠ b := fun e => nn (e ▸ hb')
    have ih := ord_lt (ns := ns) (i := i) (j := j) nd' ha hb (Nat.lt_of_succ_lt_succ h)
    unfold ordS at ih ⊢
    rw [List.filter_cons, ih]
    simp [h1, h2]
theorem agF_line {fo th : List Str} {a b c d : Str} (h : ordS (fo ++ th) a b = [c, d]) : agF fo th "line" a b = (([(c, d), (d, c)] : List (Str × Str)).filter fun p => decide (p.2 ∈ fo)).map fun p => [("not" : Str), p.1, p.2] := by
  unfold agF toldS
  rw [if_pos rfl, h]
  show agS fo "line" c d = _
  unfold agS
  rw [if_neg (by decide), if_neg (by decide)]
theorem agF_other {fo th : List Str} {w a b : Str} (h : w ≠ "line") : agF fo th w a b = agS fo w a b := by
  unfold agF toldS
  rw [if_neg h]
theorem strs_idx {ns : List Str} {j : Nat} {z : Str} (nd : ns.Nodup) (h : ns[j]? = some z) : ∀ (m : Nat) (z' : V), m < j → (ns.map V.str)[m]? = some z' → eqV z' (.str z) = false := fun m z' hm e => by
  obtain ⟨y, hy, rfl⟩ := strs_at e
  cases hh : eqV (.str y) (.str z) with
  | false => rfl
  | true =>
    have e2 : (V.str z) = .str y := eqV_strE hh
    injection e2 with e2
    subst e2
    obtain ⟨h1, e1⟩ := List.getElem?_eq_some_iff.mp h
    obtain ⟨h2, e3⟩ := List.getElem?_eq_some_iff.mp hy
    have := (List.getElem_inj nd).mp (e1.trans e3.symm)
    omega
theorem ag_three {fo th : List Str} {w a b : Str} (nd : (fo ++ th).Nodup) (h : IsF fo th w a b) : ∀ r, r ∈ agF fo th w a b → ∃ w2 a2 b2, r = [w2, a2, b2] ∧ w2 ∈ wordsS ∧ a2 ∈ fo ++ th ∧ b2 ∈ fo ++ th := fun r hr => by
  obtain ⟨c, d, et, hcd⟩ := told_three nd h
  have hc : c ∈ fo ++ th := by
    rcases hcd with ⟨rfl, rfl⟩ | ⟨_, rfl, rfl⟩
    · exact h.2.1
    · exact h.2.2.1
  have hd : d ∈ fo ++ th := by
    rcases hcd with ⟨rfl, rfl⟩ | ⟨_, rfl, rfl⟩
    · exact h.2.2.1
    · exact h.2.1
  unfold agF at hr
  rw [et] at hr
  have hr : r ∈ agS fo w c d := hr
  unfold agS at hr
  split at hr
  · rw [List.mem_singleton.mp hr]
    exact ⟨_, _, _, rfl, by decide, hc, hd⟩
  · split at hr
    · rw [List.mem_singleton.mp hr]
      exact ⟨_, _, _, rfl, by decide, hc, hd⟩
    · obtain ⟨p, hp, rfl⟩ := List.mem_map.mp hr
      have hp := (List.mem_filter.mp hp).1
      rcases List.mem_cons.mp hp with rfl | hp
      · exact ⟨_, _, _, rfl, by decide, hc, hd⟩
      · rw [List.mem_singleton.mp hp]
        exact ⟨_, _, _, rfl, by decide, hd, hc⟩
theorem ag_len {fo th : List Str} {w a b : Str} (nd : (fo ++ th).Nodup) (h : IsF fo th w a b) : (agF fo th w a b).length ≤ 2 := by
  obtain ⟨c, d, et, _⟩ := told_three nd h
  unfold agF
  rw [et]
  show (agS fo w c d).length ≤ 2
  unfold agS
  split
  · exact Nat.le_of_ble_eq_true rfl
  · split
    · exact Nat.le_of_ble_eq_true rfl
    · rw [List.length_map]
      exact Nat.le_trans (List.length_filter_le _ _) (Nat.le_of_ble_eq_true rfl)
theorem sqT_butL {K : PySem.W.Frag} {H H' : Hp} {p t : Addr} {ys xs : List V} (hp : H p = some (.lst ys)) (b : But H H' p) (h : SqT K H t xs) : SqT K H' t xs := by
  rcases h with (h | ⟨o, h⟩) | h
  · exact .inl (.inl (b _ _ (ne_of h hp (fun z => nomatch z)) h))
  · exact .inl (.inr ⟨o, b _ _ (ne_of h hp (fun z => nomatch z)) h⟩)
  · exact .inr h
theorem Rows.butL {K : PySem.W.Frag} {H H' : Hp} {p : Addr} {ys : List V} (hp : H p = some (.lst ys)) (b : But H H' p) : ∀ {xs : List V} {rs : List (List Str)}, Rows K H xs rs → Rows K H' xs rs
  | [], [], _ => True.intro
  | _ :: _, _ :: _, ⟨⟨t, e1, h⟩, hr⟩ => ⟨⟨t, e1, sqT_butL hp b h⟩, Rows.butL hp b hr⟩
  | [], _ :: _, h => h.elim
  | _ :: _, [], h => h.elim
theorem hou_butL {H H' : Hp} {K : PySem.W.Frag} {C h p : Addr} {fo th : List Str} {ys : List V} (hp : H p = some (.lst ys)) (b : But H H' p) (hh : Hou H K C h fo th) : Hou H' K C h fo th := by
  obtain ⟨⟨dx, fs, f, t, n, h1, h2, h3, h4, h5, h6, h7⟩, k⟩ := hh
  exact ⟨⟨dx, fs, f, t, n, b _ _ (ne_of h1 hp (fun z => nomatch z)) h1, h2, h3, h4, sqT_butL hp b h5, sqT_butL hp b h6, sqT_butL hp b h7⟩, k⟩
theorem Pool.lst {H : Hp} {p : Addr} {n : Int} (h : Pool H p n) : ∃ ys, H p = some (.lst ys) := by
  obtain ⟨g, m, c, h, _⟩ := h
  exact ⟨_, h⟩
theorem ext_but' {H H1 H2 : Hp} {p : Addr} (x : Ext H H1) (h : H p = none) (b : But H1 H2 p) : Ext H H2 := fun a u e => b a u (ne_of_none e h) (x a u e)
theorem cutV_takeA {xs : List V} {k : Nat} : cutV xs none (some ((k : Nat) : Int)) = xs.take k := by
  unfold cutV
  rw [HT.sIx_none, HT.sIx_nat, Nat.sub_zero, List.drop_zero]
  rcases Nat.le_total k xs.length with h | h
  · rw [Nat.min_eq_left h]
  · rw [Nat.min_eq_right h, List.take_of_length_le (Nat.le_refl _), List.take_of_length_le h]
/-! ### what is no fact -/
theorem no_kit {K : PySem.W.Frag} {H : Hp} {fo th : List Str} {x : V} {a : String} (h : TyX K H x (.type a)) (h1 : kitB a "list" = some false) (h2 : kitB a "tuple" = some false) : FactOf K H fo th x false := .inl ⟨rfl, _, h, kit_no h1 h2⟩
theorem no_len {K : PySem.W.Frag} {H : Hp} {fo th : List Str} {a : Addr} {xs : List V} (h : SeqAt2 K H a xs) (n : xs.length ≠ 3) : FactOf K H fo th (.ref a) false := .inr (.inl ⟨rfl, a, xs, rfl, h, n⟩)
theorem no_fact {K : PySem.W.Frag} {H : Hp} {fo th : List Str} {a : Addr} {w o p : V} (h : SeqAt2 K H a [w, o, p]) (h1 : Itm K H w) (h2 : Itm K H o) (h3 : Itm K H p) (e : factB fo th w o p = false) : FactOf K H fo th (.ref a) false := .inr (.inr ⟨a, w, o, p, rfl, h, h1, h2, h3, e.symm⟩)
theorem fb_w {fo th : List Str} {w o p : V} (h : inV w (wordsS.map V.str) = false) : factB fo th w o p = false := by
  unfold factB
  rw [h, Bool.false_and]
theorem fb_o {fo th : List Str} {w o p : V} (h : inV o ((fo ++ th).map V.str) = false) : factB fo th w o p = false := by
  unfold factB
  rw [h, Bool.false_and, Bool.and_false]
theorem fb_p {fo th : List Str} {w o p : V} (h : inV p ((fo ++ th).map V.str) = false) : factB fo th w o p = false := by
  unfold factB
  rw [h, Bool.false_and, Bool.and_false, Bool.and_false]
theorem fb_eq {fo th : List Str} {w o : V} : factB fo th w o o = false := by
  unfold factB
  rw [decide_eq_true (rfl : o = o)]
  simp
theorem fb_fo {fo th : List Str} {w o p : V} (hw : w ≠ .str "line") (h : inV p (fo.map V.str) = false) : factB fo th w o p = false := by
  unfold factB
  rw [h, decide_eq_false hw]
  simp
theorem inV_not {z : Str} {zs : List Str} (h : z ∉ zs) : inV (.str z) (zs.map V.str) = false := by
  rw [inV_str]
  exact decide_eq_false h
theorem inV_non (zs : List Str) : inV .non (zs.map V.str) = false := inV_no (fun _ => rfl) zs
/-- a fact under any L that tells what lies below what -/
def holdsG (L : Str → Str → Bool) (w a b : Str) : Bool := if w = "below" then L a b else if w = "not" then !L a b else L a b || L b a
def holdsGR (L : Str → Str → Bool) : List Str → Bool
  | [w, a, b] => holdsG L w a b
  | _ => true
theorem ag_allG {fo th : List Str} {L : Str → Str → Bool} {w a b : Str} (hL : ∀ x y, y ∉ fo → L x y = false) (nd : (fo ++ th).Nodup) (h : IsF fo th w a b) : (agF fo th w a b).all (holdsGR L) = !holdsG L w a b := by
  have hn : ∀ x y, holdsG L "not" x y = !L x y := fun x y => by
    unfold holdsG
    rw [if_neg (by decide), if_pos rfl]
  by_cases e1 : w = "below"
  · subst e1
    rw [agF_other (by decide)]
    show (holdsG L "not" a b && true) = !holdsG L "below" a b
    rw [hn, Bool.and_true]
    rfl
  by_cases e2 : w = "not"
  · subst e2
    rw [agF_other (by decide), hn, Bool.not_not]
    show (holdsG L "below" a b && true) = L a b
    rw [Bool.and_true]
    rfl
  obtain rfl : w = "line" := by
    have z := h.1
    unfold wordsS at z
    simp at z
    rcases z with z | z | z
    · exact absurd z e1
    · exact absurd z e2
    · exact z
  obtain ⟨c, e, ho, hh⟩ := ord_two nd h.2.1 h.2.2.1 h.2.2.2.1
  rw [agF_line ho]
  have one : ∀ x y : Str, ((([(x, y)] : List (Str × Str)).filter fun p => decide (p.2 ∈ fo)).map fun p => [("not" : Str), p.1, p.2]).all (holdsGR L) = !L x y := fun x y => by
    by_cases m : y ∈ fo
    · rw [List.filter_cons, if_pos (decide_eq_true m)]
      show (holdsG L "not" x y && true) = _
      rw [hn, Bool.and_true]
    · rw [List.filter_cons, if_neg (show ¬ decide ((x, y).2 ∈ fo) = true from fun z => m (of_decide_eq_true z)), hL x y m]
      rfl
  have two : ((([(c, e), (e, c)] : List (Str × Str)).filter fun p => decide (p.2 ∈ fo)).map fun p => [("not" : Str), p.1, p.2]).all (holdsGR L) = (!L c e && !L e c) := by
    rw [← one c e, ← one e c, ← List.all_append, ← List.map_append, ← List.filter_append]
    rfl
  rw [two]
  have hb : holdsG L "line" a b = (L a b || L b a) := by
    unfold holdsG
    rw [if_neg (by decide), if_neg (by decide)]
  rw [hb]
  rcases hh with ⟨rfl, rfl⟩ | ⟨rfl, rfl⟩
  · cases L c e <;> cases L e c <;> rfl
  · cases L c e <;> cases L e c <;> rfl
theorem isF_swap {fo th : List Str} {a b : Str} (h : IsF fo th "line" a b) : IsF fo th "line" b a := ⟨by decide, h.2.2.1, h.2.1, fun e => h.2.2.2.1 e.symm, .inl rfl⟩
theorem wordsOk : ∀ z ∈ wordsS, PyData.strOk z = true := by decide +kernel
end My

namespace L2
open PySem PySem.Spec PyProof.Rows
theorem u65 {k : Nat} {A : Around} (h : Room k A) : A.units + 65 < cLine := by
  have := h.un
  omega
theorem PI.or {X : Cx} {tg e : Expr} {w1 w2 : TI} (h : PI X tg e w1) (h' : PI X tg e w2) : PI X tg e (fun σ H R => w1 σ H R ∨ w2 σ H R) :=
  ⟨fun pins s σ H R I q => q.elim (h.run pins s σ H R I) (h'.run pins s σ H R I)⟩
theorem pi_seqS {X : Cx} {tg l : Expr} {tl : TE} (h : PE X l tl) : PI X tg l (fun σ H R => iList X.K tl σ H R ∨ iTup X.K tl σ H R) := PI.or (pi_list h) (pi_tup h)
end L2
namespace My
open PySem PySem.Spec PyProof.Rows L2
/-! ### facts in a list -/
/-- the first thing that is no fact -/
def firstF (bs : List Bool) : Option Nat := (List.range bs.length).find? fun i => bs[i]? == some false
theorem first_none {bs : List Bool} (h : ∀ i, i < bs.length → bs[i]? = some true) : firstF bs = none := List.find?_range_eq_none.mpr fun i hi => by rw [h i hi]; rfl
theorem first_some {bs : List Bool} {i : Nat} (h : bs[i]? = some false) (h2 : ∀ j, j < i → bs[j]? = some true) : firstF bs = some i := by
  have hi : i < bs.length := (List.getElem?_eq_some_iff.mp h).1
  exact List.find?_range_eq_some.mpr ⟨by rw [h]; rfl, List.mem_range.mpr hi, fun j hj => by rw [h2 j hj]; rfl⟩
/-- whether each of the things is a fact -/
def FactsOf (K : PySem.W.Frag) (H : Hp) (fo th : List Str) (xs : List V) (bs : List Bool) : Prop := xs.length = bs.length ∧ ∀ (i : Nat) (x : V), xs[i]? = some x → ∃ b, bs[i]? = some b ∧ FactOf K H fo th x b
theorem FactsOf.ext {K : PySem.W.Frag} {H H' : Hp} {fo th : List Str} {xs : List V} {bs : List Bool} (h : FactsOf K H fo th xs bs) (e : Ext H H') : FactsOf K H' fo th xs bs := ⟨h.1, fun i x hx => by
  obtain ⟨b, h1, h2⟩ := h.2 i x hx
  exact ⟨b, h1, h2.ext e⟩⟩
/-- what is passed as a list of facts: no list, or things -/
def Passed (K : PySem.W.Frag) (H : Hp) (fo th : List Str) (x : V) (o : Option Nat) : Prop := (o = some 0 ∧ ∃ t, TyX K H x t ∧ PySem.W.kitAny K t [.type "list", .type "tuple"] = some false) ∨
  ∃ a xs bs, x = .ref a ∧ SeqAt2 K H a xs ∧ FactsOf K H fo th xs bs ∧ o = firstF bs
theorem Passed.ext {K : PySem.W.Frag} {H H' : Hp} {fo th : List Str} {x : V} {o : Option Nat} (h : Passed K H fo th x o) (e : Ext H H') : Passed K H' fo th x o := by
  rcases h with ⟨h0, t, h1, h2⟩ | ⟨a, xs, bs, h1, h2, h3, h4⟩
  · exact .inl ⟨h0, t, h1.ext e, h2⟩
  · exact .inr ⟨a, xs, bs, h1, h2.ext e, h3.ext e, h4⟩
def spWrongFact (K : PySem.W.Frag) (C : Addr) : Sp := fun vs H Q _ => ∃ h x fo th o, vs = [.ref h, x] ∧ Hou H K C h fo th ∧ Passed K H fo th x o ∧ ∀ H', Ext H H' → Q (optV o) H'
/-! ### facts as they are told -/
def toldR (ns : List Str) : List Str → List Str
  | [w, a, b] => toldS ns w a b
  | r => r
def onceR (rs : List (List Str)) : List (List Str) := rs.foldl (fun acc r => if r ∈ acc then acc else acc ++ [r]) []
theorem once_snoc (rs : List (List Str)) (r : List Str) : onceR (rs ++ [r]) = if r ∈ onceR rs then onceR rs else onceR rs ++ [r] := by
  unfold onceR
  rw [List.foldl_append]
  rfl
/-- rows of texts, each a list or a tuple -/
def Raws (K : PySem.W.Frag) (H : Hp) (xs : List V) (rs : List (List Str)) : Prop := xs.length = rs.length ∧ ∀ (i : Nat) (x : V), xs[i]? = some x → ∃ (t : Addr) (r : List Str), x = .ref t ∧ rs[i]? = some r ∧ SeqAt2 K H t (r.map V.str)
theorem Raws.ext {K : PySem.W.Frag} {H H' : Hp} {xs : List V} {rs : List (List Str)} (h : Raws K H xs rs) (e : Ext H H') : Raws K H' xs rs := ⟨h.1, fun i x hx => by
  obtain ⟨t, r, h1, h2, h3⟩ := h.2 i x hx
  exact ⟨t, r, h1, h2, h3.ext e⟩⟩
def FactR (fo th : List Str) (rs : List (List Str)) : Prop := ∀ r, r ∈ rs → ∃ w a b, r = [w, a, b] ∧ IsF fo th w a b
theorem fold_mem : ∀ (rs acc : List (List Str)) (r : List Str), r ∈ rs.foldl (fun acc r => if r ∈ acc then acc else acc ++ [r]) acc → r ∈ acc ∨ r ∈ rs
  | [], _, _, h => .inl h
  | x :: rs, acc, r, h => by
    rcases fold_mem rs _ r h with h | h
    · have h : r ∈ (if x ∈ acc then acc else acc ++ [x]) := h
      split at h
      · exact .inl h
      · rcases List.mem_append.mp h with h | h
        · exact .inl h
        · exact .inr (by rw [List.mem_singleton.mp h]; exact List.mem_cons_self)
    · exact .inr (List.mem_cons_of_mem _ h)
theorem once_mem {rs : List (List Str)} {r : List Str} (h : r ∈ onceR rs) : r ∈ rs := (fold_mem rs [] r h).resolve_left fun z => by cases z
theorem once_len : ∀ (rs acc : List (List Str)), (rs.foldl (fun acc r => if r ∈ acc then acc else acc ++ [r]) acc).length ≤ acc.length + rs.length
  | [], _ => Nat.le_refl _
  | x :: rs, acc => by
    refine Nat.le_trans (once_len rs _) ?_
    show (if x ∈ acc then acc else acc ++ [x]).length + rs.length ≤ _
    split
    · rw [List.length_cons]; omega
    · rw [List.length_append, List.length_cons, List.length_cons, List.length_nil]; omega
theorem any_rows (r : List Str) : ∀ rs : List (List Str), ((rs.map fun r => PyData.tuple (r.map PyData.str)).any fun z => PyData.eqv z (.tuple (r.map PyData.str))) = decide (r ∈ rs)
  | [] => rfl
  | s :: rs => by
    rw [List.map_cons, List.any_cons, any_rows r rs, eqv_strT]
    by_cases h : r = s
    · subst h
      simp
    · have h' : ¬ s = r := fun e => h e.symm
      simp [h, h']
/-- told rows: three texts each -/
def Told (ns : List Str) (rs : List (List Str)) : Prop := ∀ r, r ∈ rs → ∃ w a b, r = [w, a, b] ∧ w ∈ wordsS ∧ a ∈ ns ∧ b ∈ ns
theorem told_ok {fo th : List Str} (nd : (fo ++ th).Nodup) {rs : List (List Str)} (h : FactR fo th rs) : Told (fo ++ th) (rs.map (toldR (fo ++ th))) := fun r hr => by
  obtain ⟨x, hx, rfl⟩ := List.mem_map.mp hr
  obtain ⟨w, a, b, rfl, isf⟩ := h x hx
  obtain ⟨c, d, e, hcd⟩ := told_three nd isf
  refine ⟨w, c, d, e, isf.1, ?_, ?_⟩
  · rcases hcd with ⟨rfl, _⟩ | ⟨_, rfl, _⟩
    · exact isf.2.1
    · exact isf.2.2.1
  · rcases hcd with ⟨_, rfl⟩ | ⟨_, _, rfl⟩
    · exact isf.2.2.1
    · exact isf.2.1
def spEachOnce (K : PySem.W.Frag) (C : Addr) : Sp := fun vs H Q _ => ∃ h x fo th xs rs, vs = [.ref h, .ref x] ∧ Hou H K C h fo th ∧ (fo ++ th).Nodup ∧ (fo ++ th).length < sizeLine ∧ (∀ z, z ∈ fo ++ th → PyData.strOk z = true) ∧ SeqAt2 K H x xs ∧ Raws K H xs rs ∧ FactR fo th rs ∧ rs.length < 1000 ∧
  ∀ t ys H', Ext H H' → SqT K H' t ys → Rows K H' ys (onceR (rs.map (toldR (fo ++ th)))) → Q (.ref t) H'
abbrev nm_wrong_fact : List Str := ["house", "facts", "at", "thing"]
theorem sc_wrong_fact : FnScope nm_wrong_fact ["house", "facts"] (defScope s_wrong_fact) := ⟨rfl, rfl, rfl, by decide +kernel, rfl, by decide +kernel, by decide +kernel⟩
abbrev nm_each_once : List Str := ["house", "facts", "rows", "fact", "row"]
theorem sc_each_once : FnScope nm_each_once ["house", "facts"] (defScope s_each_once) := ⟨rfl, rfl, rfl, by decide +kernel, rfl, by decide +kernel, by decide +kernel⟩
section
variable {P : Program} {w : World} {K : PySem.W.Frag} {mg : Str → Option Value} {base : Heap} {f C CB : Addr} {fd : FuncData}
theorem ok_wrongFact (Fn : FnP K "wrong_fact" s_wrong_fact f fd) (his_list : Has P w K mg base 1 "is_list" ["thing"] (spIsList K)) (his_fact : Has P w K mg base 5 "is_fact" ["house", "thing"] (spIsFact K C)) (gB_enumerate : mg "enumerate" = none) :
    FnOk P w K mg base CX0 6 f fd ["house", "facts"] (spWrongFact K C) := by
  refine Fn.ok sc_wrong_fact (fun vs H Q E h => ?_) (fun cdv A outer s H vs Q E hr h => ⟨_, PSs.nox
    (pss_cons (ps_if (pt_not (pt_val (pe_has his_list (hr.mono (by decide)) (pa_cons (pv 1) pa_nil)))) (pss_one (ps_ret pe_int)) pss_nil)
      (pss_cons (ps_for PassesOwn.never rfl (pi_enumS (by rfl) gB_enumerate (pa_cons (pv 1) pa_nil)) (pg_tup rfl (pgs_cons (pg_name (i := 2) sc_wrong_fact.nd rfl (Or.inl rfl)) (pgs_cons (pg_name (i := 3) sc_wrong_fact.nd rfl (Or.inl rfl)) pgs_nil)))
      (pss_one (ps_if (pt_not (pt_val (pe_has his_fact (hr.mono (by decide)) (pa_cons (pv 0) (pa_cons (pv 3) pa_nil))))) (pss_one (ps_ret (pv 2))) pss_nil)))
      (pss_one (ps_ret pe_non)))), ?_⟩)
  · obtain ⟨h, x, fo, th, o, rfl, _⟩ := h
    rfl
  · obtain ⟨h, x, fo, th, o, rfl, hou, hp, q⟩ := h
    rcases hp with ⟨rfl, t, ty, kt⟩ | ⟨a, xs, bs, rfl, sq, fs, rfl⟩
    · exact ⟨_, rfl, x, t, false, rfl, ty, kt, fun H1 x1 => ⟨false, rfl, q H1 x1⟩⟩
    · obtain ⟨t, ty, kt⟩ := seq_kit sq
      refine ⟨_, rfl, _, t, true, rfl, ty, kt, fun H1 x1 => ⟨true, rfl, ?_⟩⟩
      have sq1 := sq.ext x1
      refine ⟨_, rfl, a, xs, rfl, ?_⟩
      rcases sq1 with sq1 | sq1
      · refine .inl ⟨sq1, ?_⟩
        refine for_it (walk_enum (xs := xs)) (fun i σ H' => Ext H1 H' ∧ (∃ u v, σ = [some (.ref h), some (.ref a), u, v]) ∧ ∀ j, j < i → bs[j]? = some true) ⟨Ext.rfl', ⟨none, none, rfl⟩, fun j hj => absurd hj (Nat.not_lt_zero _)⟩ (fun i σ H' _ p => sq1.ext p.1) ?_ ?_
        · intro i x σ H2 H3 hi p y
          obtain ⟨x2, ⟨u, v, rfl⟩, hb⟩ := p
          obtain ⟨T, y1, y2, rfl, hT, rfl, e1, e2⟩ := y
          cases e1
          have e2 : xs[i]? = some y2 := e2
          have x3 : Ext H1 (upd H2 T (.tup [.int i, y2])) := x2.upd' hT
          refine ⟨T, _, rfl, SqT.of upd_same, rfl, _, _, rfl, _, _, rfl, rfl, ?_⟩
          obtain ⟨b, hbi, fb⟩ := fs.2 i y2 e2
          refine ⟨_, rfl, _, rfl, h, y2, fo, th, b, rfl, hou.ext (x1.trans x3), fb.ext (x1.trans x3), fun H4 x4 => ⟨b, rfl, ?_⟩⟩
          cases b with
          | true =>
            refine ⟨x3.trans x4, ⟨_, _, rfl⟩, fun j hj => ?_⟩
            rcases Nat.lt_or_eq_of_le (Nat.le_of_lt_succ hj) with z | z
            · exact hb j z
            · rw [z]; exact hbi
          | false =>
            rw [first_some hbi hb] at q
            exact ⟨_, rfl, q H4 (x1.trans (x3.trans x4))⟩
        · intro σ H2 p
          rw [first_none (fun i hi => p.2.2 i (by rw [fs.1]; exact hi))] at q
          exact q H2 (x1.trans p.1)
      · refine .inr ⟨sq1, ?_⟩
        refine for_it (walk_enumT (xs := xs)) (fun i σ H' => Ext H1 H' ∧ (∃ u v, σ = [some (.ref h), some (.ref a), u, v]) ∧ ∀ j, j < i → bs[j]? = some true) ⟨Ext.rfl', ⟨none, none, rfl⟩, fun j hj => absurd hj (Nat.not_lt_zero _)⟩ (fun i σ H' _ p => sq1.ext p.1) ?_ ?_
        · intro i x σ H2 H3 hi p y
          obtain ⟨x2, ⟨u, v, rfl⟩, hb⟩ := p
          obtain ⟨T, y1, y2, rfl, hT, rfl, e1, e2⟩ := y
          cases e1
          have e2 : xs[i]? = some y2 := e2
          have x3 : Ext H1 (upd H2 T (.tup [.int i, y2])) := x2.upd' hT
          refine ⟨T, _, rfl, SqT.of upd_same, rfl, _, _, rfl, _, _, rfl, rfl, ?_⟩
          obtain ⟨b, hbi, fb⟩ := fs.2 i y2 e2
          refine ⟨_, rfl, _, rfl, h, y2, fo, th, b, rfl, hou.ext (x1.trans x3), fb.ext (x1.trans x3), fun H4 x4 => ⟨b, rfl, ?_⟩⟩
          cases b with
          | true =>
            refine ⟨x3.trans x4, ⟨_, _, rfl⟩, fun j hj => ?_⟩
            rcases Nat.lt_or_eq_of_le (Nat.le_of_lt_succ hj) with z | z
            · exact hb j z
            · rw [z]; exact hbi
          | false =>
            rw [first_some hbi hb] at q
            exact ⟨_, rfl, q H4 (x1.trans (x3.trans x4))⟩
        · intro σ H2 p
          rw [first_none (fun i hi => p.2.2 i (by rw [fs.1]; exact hi))] at q
          exact q H2 (x1.trans p.1)
theorem ok_eachOnce (Fn : FnP K "each_once" s_each_once f fd) (has_told : Has P w K mg base 1 "as_told" ["house", "fact"] (spAsTold K C)) (gB_tuple : mg "tuple" = none) : FnOk P w K mg base CX0 2 f fd ["house", "facts"] (spEachOnce K C) := by
  refine Fn.ok sc_each_once (fun vs H Q E h => ?_) (fun cdv A outer s H vs Q E hr h => ⟨_, PSs.nox
    (pss_cons (ps_set (i := 2) sc_each_once.nd rfl (Or.inl rfl) (pe_lst pa_nil))
      (pss_cons (ps_for PassesOwn.never rfl (pi_seqS (pv 1)) (pg_name (i := 3) sc_each_once.nd rfl (Or.inl rfl))
      (pss_cons (ps_set (i := 4) sc_each_once.nd rfl (Or.inl rfl) (pe_has has_told (hr.mono (by decide)) (pa_cons (pv 0) (pa_cons (pv 3) pa_nil))))
      (pss_one (ps_if (pt_cmpR (op_notInD (u65 hr)) (pv 4) (pv 2) (by rfl)) (pss_one (ps_expr (pe_bm PySem.F.plainAttrs_list PySem.F.slot_list_append PySem.F.type_list_append mt_append (pv 2) (pa_cons (pv 4) pa_nil)))) pss_nil))))
      (pss_one (ps_ret (pe_callTy call_tup (by rfl) gB_tuple (by decide +kernel) (pa_cons (pv 2) pa_nil)))))), ?_⟩)
  · obtain ⟨h, x, fo, th, xs, rs, rfl, _⟩ := h
    rfl
  · obtain ⟨h, x, fo, th, xs, rs, rfl, hou, nd, hz, zok, sq, raw, fr, len, q⟩ := h
    refine ⟨Nat.zero_le _, fun l hl => ?_⟩
    obtain ⟨H1, hH1⟩ : ∃ H1, H1 = upd H l (.lst []) := ⟨_, rfl⟩
    rw [← hH1]
    have x1 : Ext H H1 := by
      rw [hH1]
      exact Ext.upd hl
    have l1 : H1 l = some (.lst []) := by rw [hH1, upd_same]
    have tok := told_ok nd fr
    have okr : ∀ ws : List (List Str), (∀ r, r ∈ ws → r ∈ rs.map (toldR (fo ++ th))) → OkR ws := fun ws hw r hr z hz => by
      obtain ⟨w, a, b, rfl, h1, h2, h3⟩ := tok r (hw r hr)
      simp at hz
      rcases hz with rfl | rfl | rfl
      · exact wordsOk _ h1
      · exact zok _ h2
      · exact zok _ h3
    rcases sq with sq | sq
    · refine .inl ⟨_, rfl, x, rfl, ⟨_, sq.ext x1⟩, for_list (K := K) (a := x) (xs := xs) (fun i σ H' => Ext H H' ∧ ∃ u v ys, σ = [some (.ref h), some (.ref x), some (.ref l), u, v] ∧ H' l = some (.lst ys) ∧ ys.length ≤ i ∧ Rows K H' ys (onceR ((rs.take i).map (toldR (fo ++ th))))) ?_ ?_ ?_ ?_⟩
      · exact ⟨x1, none, none, [], rfl, l1, Nat.zero_le _, True.intro⟩
      · rintro i σ H' _ ⟨x', _⟩
        exact sq.ext x'
      · intro i v σ H2 hv P2
        obtain ⟨x2, u, v', ys, rfl, l2, len2, r2⟩ := P2
        obtain ⟨t, r, rfl, hr, sqr⟩ := raw.2 i v hv
        obtain ⟨wd, a, b, rfl, isf⟩ := fr r (List.mem_of_getElem? hr)
        have il : i < rs.length := (List.getElem?_eq_some_iff.mp hr).1
        have tk : (rs.take (i + 1)).map (toldR (fo ++ th)) = (rs.take i).map (toldR (fo ++ th)) ++ [toldS (fo ++ th) wd a b] := by
          rw [List.take_add_one, hr, List.map_append]
          rfl
        obtain ⟨row, hrow⟩ : ∃ row, row = toldS (fo ++ th) wd a b := ⟨_, rfl⟩
        rw [← hrow] at tk
        obtain ⟨old, hold⟩ : ∃ old, old = (rs.take i).map (toldR (fo ++ th)) := ⟨_, rfl⟩
        rw [← hold] at tk r2
        have sub : ∀ r, r ∈ old ++ [row] → r ∈ rs.map (toldR (fo ++ th)) := fun r hr' => by
          rw [← tk] at hr'
          obtain ⟨y, hy, rfl⟩ := List.mem_map.mp hr'
          exact List.mem_map.mpr ⟨y, List.mem_of_mem_take hy, rfl⟩
        refine ⟨_, rfl, _, rfl, h, t, fo, th, wd, a, b, rfl, hou.ext x2, nd, hz, isf, sqr.ext x2, fun tt H3 x3 htt => ?_⟩
        rw [← hrow] at htt
        have ok1 := okr [row] fun r hr' => sub r (List.mem_append_right _ hr')
        have ok2 := okr (onceR old) fun r hr' => sub r (List.mem_append_left _ (once_mem hr'))
        have l3 := x3 _ _ l2
        have r3 := r2.ext x3
        refine ⟨_, rfl, _, rfl, .tuple (row.map PyData.str), _, .tup (SqT.of htt) (dpAll_str row), .lst (SqL.of l3) (rows_dp r3), shaped_strT row (ok1 row List.mem_cons_self), rows_shaped ok2, _, rfl, ?_⟩
        rw [any_rows]
        rw [tk, once_snoc]
        refine ite2 (fun c => ?_) fun c => ?_
        · have c' : row ∉ onceR old := by simpa using c
          rw [if_neg c']
          refine ⟨_, rfl, .inl ⟨rfl, _, .inl (.inl l3)⟩, _, rfl, l, _, _, rfl, rfl, l3, by rw [sizeLine_eq]; omega, ?_⟩
          exact ⟨(x2.trans x3).over hl, _, _, _, rfl, upd_same, by rw [List.length_append]; exact Nat.succ_le_succ len2, Rows.upd l3 (Rows.app r3 ⟨⟨tt, rfl, SqT.of htt⟩, True.intro⟩)⟩
        · have c' : row ∈ onceR old := by simpa using c
          rw [if_pos c']
          exact ⟨x2.trans x3, _, _, ys, rfl, l3, by omega, r3⟩
      · rintro σ H2 ⟨x2, u, v', ys, rfl, l2, len2, r2⟩
        rw [raw.1, List.take_length] at r2
        refine ⟨_, rfl, l, _, rfl, .inl (SqL.of l2), fun t H3 x3 st => ?_⟩
        exact q t ys H3 (x2.trans x3) st (r2.ext x3)
    · refine .inr ⟨_, rfl, x, rfl, ⟨_, sq.ext x1⟩, for_tup (K := K) (a := x) (xs := xs) (fun i σ H' => Ext H H' ∧ ∃ u v ys, σ = [some (.ref h), some (.ref x), some (.ref l), u, v] ∧ H' l = some (.lst ys) ∧ ys.length ≤ i ∧ Rows K H' ys (onceR ((rs.take i).map (toldR (fo ++ th))))) ?_ ?_ ?_ ?_⟩
      · exact ⟨x1, none, none, [], rfl, l1, Nat.zero_le _, True.intro⟩
      · rintro i σ H' _ ⟨x', _⟩
        exact sq.ext x'
      · intro i v σ H2 hv P2
        obtain ⟨x2, u, v', ys, rfl, l2, len2, r2⟩ := P2
        obtain ⟨t, r, rfl, hr, sqr⟩ := raw.2 i v hv
        obtain ⟨wd, a, b, rfl, isf⟩ := fr r (List.mem_of_getElem? hr)
        have il : i < rs.length := (List.getElem?_eq_some_iff.mp hr).1
        have tk : (rs.take (i + 1)).map (toldR (fo ++ th)) = (rs.take i).map (toldR (fo ++ th)) ++ [toldS (fo ++ th) wd a b] := by
          rw [List.take_add_one, hr, List.map_append]
          rfl
        obtain ⟨row, hrow⟩ : ∃ row, row = toldS (fo ++ th) wd a b := ⟨_, rfl⟩
        rw [← hrow] at tk
        obtain ⟨old, hold⟩ : ∃ old, old = (rs.take i).map (toldR (fo ++ th)) := ⟨_, rfl⟩
        rw [← hold] at tk r2
        have sub : ∀ r, r ∈ old ++ [row] → r ∈ rs.map (toldR (fo ++ th)) := fun r hr' => by
          rw [← tk] at hr'
          obtain ⟨y, hy, rfl⟩ := List.mem_map.mp hr'
          exact List.mem_map.mpr ⟨y, List.mem_of_mem_take hy, rfl⟩
        refine ⟨_, rfl, _, rfl, h, t, fo, th, wd, a, b, rfl, hou.ext x2, nd, hz, isf, sqr.ext x2, fun tt H3 x3 htt => ?_⟩
        rw [← hrow] at htt
        have ok1 := okr [row] fun r hr' => sub r (List.mem_append_right _ hr')
        have ok2 := okr (onceR old) fun r hr' => sub r (List.mem_append_left _ (once_mem hr'))
        have l3 := x3 _ _ l2
        have r3 := r2.ext x3
        refine ⟨_, rfl, _, rfl, .tuple (row.map PyData.str), _, .tup (SqT.of htt) (dpAll_str row), .lst (SqL.of l3) (rows_dp r3), shaped_strT row (ok1 row List.mem_cons_self), rows_shaped ok2, _, rfl, ?_⟩
        rw [any_rows]
        rw [tk, once_snoc]
        refine ite2 (fun c => ?_) fun c => ?_
        · have c' : row ∉ onceR old := by simpa using c
          rw [if_neg c']
          refine ⟨_, rfl, .inl ⟨rfl, _, .inl (.inl l3)⟩, _, rfl, l, _, _, rfl, rfl, l3, by rw [sizeLine_eq]; omega, ?_⟩
          exact ⟨(x2.trans x3).over hl, _, _, _, rfl, upd_same, by rw [List.length_append]; exact Nat.succ_le_succ len2, Rows.upd l3 (Rows.app r3 ⟨⟨tt, rfl, SqT.of htt⟩, True.intro⟩)⟩
        · have c' : row ∈ onceR old := by simpa using c
          rw [if_pos c']
          exact ⟨x2.trans x3, _, _, ys, rfl, l3, by omega, r3⟩
      · rintro σ H2 ⟨x2, u, v', ys, rfl, l2, len2, r2⟩
        rw [raw.1, List.take_length] at r2
        refine ⟨_, rfl, l, _, rfl, .inl (SqL.of l2), fun t H3 x3 st => ?_⟩
        exact q t ys H3 (x2.trans x3) st (r2.ext x3)
end
end My

namespace My
open PySem PySem.Spec PyProof.Rows L2
/-! ### groups without a top, in words of lists -/
/-- two nodes are joined by a fact -/
def Jn (rs : List (List Str)) (x y : Str) : Prop := ∃ w, w ≠ ("not" : Str) ∧ ([w, x, y] ∈ rs ∨ [w, y, x] ∈ rs)
theorem Jn.symm {rs : List (List Str)} {x y : Str} (h : Jn rs x y) : Jn rs y x := by
  obtain ⟨w, h1, h2⟩ := h
  exact ⟨w, h1, h2.symm⟩
/-- a node is barred by another one -/
def Bars (rs : List (List Str)) (z o : Str) : Prop := [("not" : Str), o, z] ∈ rs ∨ [("below" : Str), z, o] ∈ rs
def Clo (rs : List (List Str)) (zs : List Str) (q : Str → Prop) : Prop := (∀ z, zs.head? = some z → q z) ∧ ∀ x, x ∈ zs → ∀ y, y ∈ zs → q x → Jn rs x y → q y
/-- those that one comes to -/
def Rch (rs : List (List Str)) (zs : List Str) (p : Str → Prop) : Prop := Clo rs zs p ∧ ∀ q, Clo rs zs q → ∀ x, x ∈ zs → p x → q x
def Joined (rs : List (List Str)) (zs : List Str) : Prop := ∀ q, Clo rs zs q → ∀ z, z ∈ zs → q z
def Topless (fo : List Str) (rs : List (List Str)) (zs : List Str) : Prop := Joined rs zs ∧ ∀ z, z ∈ zs → z ∈ fo → ∃ o, o ∈ zs ∧ Bars rs z o
theorem rch_joined {rs : List (List Str)} {zs : List Str} {p : Str → Prop} (h : Rch rs zs p) : (∀ z, z ∈ zs → p z) ↔ Joined rs zs :=
  ⟨fun k q hq z hz => h.2 q hq z hz (k z hz), fun k z hz => k p h.1 z hz⟩
theorem topless_iff {fo : List Str} {rs rs' : List (List Str)} {zs : List Str} (j : ∀ x y, Jn rs x y ↔ Jn rs' x y) (b : ∀ x y, Bars rs x y ↔ Bars rs' x y) : Topless fo rs zs ↔ Topless fo rs' zs := by
  have e1 : Jn rs = Jn rs' := by
    funext x y
    exact propext (j x y)
  have e2 : Bars rs = Bars rs' := by
    funext x y
    exact propext (b x y)
  unfold Topless Joined Clo
  rw [e1, e2]
/-! the program's steps and bars -/
def stp1 (n : Str) (r : List Str) : List Str := match r with
  | [w, a, b] => if w = "not" then [] else (if a = n then [b] else []) ++ (if b = n then [a] else [])
  | _ => []
def stpS (rs : List (List Str)) (n : Str) : List Str := rs.flatMap (stp1 n)
theorem mem_stp {rs : List (List Str)} {x y : Str} (h3 : ∀ r, r ∈ rs → ∃ w a b, r = [w, a, b]) : y ∈ stpS rs x ↔ Jn rs x y := by
  unfold stpS
  rw [List.mem_flatMap]
  constructor
  · rintro ⟨r, hr, hy⟩
    obtain ⟨w, a, b, rfl⟩ := h3 r hr
    unfold stp1 at hy
    by_cases c : w = "not"
    · simp [c] at hy
    · simp only [c, if_false, List.mem_append] at hy
      rcases hy with hy | hy
      · by_cases c2 : a = x
        · simp [c2] at hy
          exact ⟨w, c, .inl (by rw [hy, ← c2]; exact hr)⟩
        · simp [c2] at hy
      · by_cases c2 : b = x
        · simp [c2] at hy
          exact ⟨w, c, .inr (by rw [hy, ← c2]; exact hr)⟩
        · simp [c2] at hy
  · rintro ⟨w, c, h | h⟩
    · exact ⟨_, h, by simp [stp1, c]⟩
    · exact ⟨_, h, by simp [stp1, c]⟩
def bar1 (n : Str) (r : List Str) : List Str := match r with
  | [w, a, b] => (if w = "not" ∧ b = n then [a] else []) ++ (if w = "below" ∧ a = n then [b] else [])
  | _ => []
def barS (rs : List (List Str)) (n : Str) : List Str := rs.flatMap (bar1 n)
theorem mem_bar {rs : List (List Str)} {x y : Str} (h3 : ∀ r, r ∈ rs → ∃ w a b, r = [w, a, b]) : y ∈ barS rs x ↔ Bars rs x y := by
  unfold barS
  rw [List.mem_flatMap]
  constructor
  · rintro ⟨r, hr, hy⟩
    obtain ⟨w, a, b, rfl⟩ := h3 r hr
    simp only [bar1, List.mem_append] at hy
    rcases hy with hy | hy
    · split at hy
      · next c => 
        rw [List.mem_singleton] at hy
        exact .inl (by rw [hy, ← c.2, ← c.1]; exact hr)
      · cases hy
    · split at hy
      · next c => 
        rw [List.mem_singleton] at hy
        exact .inr (by rw [hy, ← c.2, ← c.1]; exact hr)
      · cases hy
  · rintro (h | h)
    · exact ⟨_, h, by simp [bar1]⟩
    · exact ⟨_, h, by simp [bar1]⟩
theorem stp_snoc (rs : List (List Str)) (r : List Str) (n : Str) : stpS (rs ++ [r]) n = stpS rs n ++ stp1 n r := by
  unfold stpS
  rw [List.flatMap_append]
  simp
theorem bar_snoc (rs : List (List Str)) (r : List Str) (n : Str) : barS (rs ++ [r]) n = barS rs n ++ bar1 n r := by
  unfold barS
  rw [List.flatMap_append]
  simp
theorem stp1_len (n : Str) (r : List Str) : (stp1 n r).length ≤ 2 := by
  unfold stp1
  split
  · split
    · exact Nat.zero_le _
    · rw [List.length_append]
      split <;> split <;> simp
  · exact Nat.zero_le _
theorem bar1_len (n : Str) (r : List Str) : (bar1 n r).length ≤ 2 := by
  unfold bar1
  split
  · rw [List.length_append]
    split <;> split <;> simp
  · exact Nat.zero_le _
theorem stp_len (rs : List (List Str)) (n : Str) : (stpS rs n).length ≤ 2 * rs.length := by
  induction rs with
  | nil => exact Nat.le_refl _
  | cons r rs ih =>
    unfold stpS at ih ⊢
    rw [List.flatMap_cons, List.length_append, List.length_cons]
    have := stp1_len n r
    omega
theorem bar_len (rs : List (List Str)) (n : Str) : (barS rs n).length ≤ 2 * rs.length := by
  induction rs with
  | nil => exact Nat.le_refl _
  | cons r rs ih =>
    unfold barS at ih ⊢
    rw [List.flatMap_cons, List.length_append, List.length_cons]
    have := bar1_len n r
    omega
/-! the program's going -/
/-- where the going is: those found, those found anew -/
structure Going (rs : List (List Str)) (zs fd mo : List Str) : Prop where
  nd : (fd ++ mo).Nodup
  sub : ∀ x, x ∈ fd ++ mo → x ∈ zs
  st : ∀ z, zs.head? = some z → z ∈ fd ++ mo
  cl : ∀ x, x ∈ fd → ∀ y, y ∈ zs → Jn rs x y → y ∈ fd ++ mo
  le : ∀ q, Clo rs zs q → ∀ x, x ∈ fd ++ mo → q x
theorem Going.start {rs : List (List Str)} {zs : List Str} {z : Str} (h : zs.head? = some z) : Going rs zs [] [z] :=
  ⟨by simp, fun x hx => by rw [List.nil_append, List.mem_singleton] at hx; rw [hx]; exact List.mem_of_head? h, fun y hy => by rw [h] at hy; injection hy with e; rw [e]; simp,
   fun x hx => (by cases hx), fun q hq x hx => by rw [List.nil_append, List.mem_singleton] at hx; rw [hx]; exact hq.1 z h⟩
theorem Going.step {rs : List (List Str)} {zs fd mo mo' : List Str} (h : Going rs zs fd mo) (nd : mo'.Nodup) (mm : ∀ n, n ∈ mo' ↔ n ∈ zs ∧ n ∉ fd ++ mo ∧ ∃ m, m ∈ fd ++ mo ∧ Jn rs n m) : Going rs zs (fd ++ mo) mo' := by
  refine ⟨?_, ?_, ?_, ?_, ?_⟩
  · rw [List.nodup_append]
    refine ⟨h.nd, ?_, fun a ha b hb e' => ?_⟩
    · exact nd
    · subst e'
      exact ((mm a).mp hb).2.1 ha
  · intro x hx
    rcases List.mem_append.mp hx with k | k
    · exact h.sub x k
    · exact ((mm x).mp k).1
  · intro z hz
    exact List.mem_append_left _ (h.st z hz)
  · intro x hx y hy j
    by_cases c : y ∈ fd ++ mo
    · exact List.mem_append_left _ c
    · exact List.mem_append_right _ ((mm y).mpr ⟨hy, c, x, hx, j.symm⟩)
  · intro q hq x hx
    rcases List.mem_append.mp hx with k | k
    · exact h.le q hq x k
    · obtain ⟨hx', _, m, hm, j⟩ := (mm x).mp k
      exact hq.2 m (h.sub m hm) x hx' (h.le q hq m hm) j.symm
theorem Going.done {rs : List (List Str)} {zs fd : List Str} (h : Going rs zs fd []) : Rch rs zs (· ∈ fd) := by
  obtain ⟨h1, h2, h3, h4, h5⟩ := h
  rw [List.append_nil] at h1 h2 h3 h4 h5
  exact ⟨⟨h3, fun x _ y hy hx j => h4 x hx y hy j⟩, fun q hq x _ hx => h5 q hq x hx⟩
theorem nodup_sub_len : ∀ {ys zs : List Str}, ys.Nodup → (∀ x, x ∈ ys → x ∈ zs) → ys.length ≤ zs.length
  | [], _, _, _ => Nat.zero_le _
  | y :: ys, zs, nd, h => by
    obtain ⟨n, nd'⟩ := List.nodup_cons.mp nd
    have hy := h y List.mem_cons_self
    have := nodup_sub_len (zs := zs.erase y) nd' fun x hx => (List.mem_erase_of_ne fun e => n (by rw [← e]; exact hx)).mpr (h x (List.mem_cons_of_mem _ hx))
    rw [List.length_erase_of_mem hy] at this
    have := List.length_pos_of_mem hy
    rw [List.length_cons]
    omega
/-- a part is joined -/
theorem part_joined {rs : List (List Str)} {zs : List Str} {p : Str → Prop} [DecidablePred p] (h : Rch rs zs p) : Joined rs (zs.filter fun z => decide (p z)) := by
  intro q hq z hz
  rw [List.mem_filter, decide_eq_true_iff] at hz
  have key : Clo rs zs fun x => p x ∧ (x ∈ zs → q x) := by
    refine ⟨fun x hx => ⟨h.1.1 x hx, fun _ => hq.1 x ?_⟩, fun x hx y hy hp j => ?_⟩
    · cases zs with
      | nil => cases hx
      | cons z0 zs =>
        injection hx with e
        subst e
        rw [List.filter_cons, if_pos (decide_eq_true (h.1.1 z0 rfl))]
        rfl
    · have py := h.1.2 x hx y hy hp.1 j
      refine ⟨py, fun _ => hq.2 x ?_ y ?_ (hp.2 hx) j⟩
      · rw [List.mem_filter, decide_eq_true_iff]
        exact ⟨hx, hp.1⟩
      · rw [List.mem_filter, decide_eq_true_iff]
        exact ⟨hy, py⟩
  exact (h.2 _ key z hz.1 hz.2).2 hz.1
/-! the law's going -/
def rlx (zs R : List Str) (r : List Str) : List Str := match r with
  | [w, a, b] => if a ∈ zs ∧ b ∈ zs ∧ w ≠ "not" then
      (let R1 := if a ∈ R ∧ b ∉ R then R ++ [b] else R
       if b ∈ R1 ∧ a ∉ R1 then R1 ++ [a] else R1)
    else R
  | _ => R
theorem rlx_mono {zs R : List Str} {r : List Str} : ∃ t, rlx zs R r = R ++ t := by
  unfold rlx
  split
  · split
    · dsimp only
      split <;> split
      · exact ⟨_, List.append_assoc _ _ _⟩
      · exact ⟨_, rfl⟩
      · exact ⟨_, rfl⟩
      · exact ⟨[], (List.append_nil _).symm⟩
    · exact ⟨[], (List.append_nil _).symm⟩
  · exact ⟨[], (List.append_nil _).symm⟩
theorem fold_mono {zs : List Str} : ∀ {rs : List (List Str)} {R : List Str}, ∃ t, rs.foldl (rlx zs) R = R ++ t
  | [], R => ⟨[], (List.append_nil _).symm⟩
  | r :: rs, R => by
    obtain ⟨t1, h1⟩ := rlx_mono (zs := zs) (R := R) (r := r)
    obtain ⟨t2, h2⟩ := fold_mono (zs := zs) (rs := rs) (R := rlx zs R r)
    refine ⟨t1 ++ t2, ?_⟩
    rw [List.foldl_cons, h2, h1, List.append_assoc]
/-- what is reached so far -/
structure Rea (rs : List (List Str)) (zs R : List Str) : Prop where
  nd : R.Nodup
  sub : ∀ x, x ∈ R → x ∈ zs
  st : ∀ z, zs.head? = some z → z ∈ R
  le : ∀ q, Clo rs zs q → ∀ x, x ∈ R → q x
theorem Rea.snoc {rs : List (List Str)} {zs R : List Str} {x y : Str} (h : Rea rs zs R) (hx : x ∈ R) (hy : y ∈ zs) (n : y ∉ R) (j : Jn rs x y) : Rea rs zs (R ++ [y]) := by
  refine ⟨?_, ?_, fun z hz => List.mem_append_left _ (h.st z hz), ?_⟩
  · rw [List.nodup_append]
    refine ⟨h.nd, by simp, fun a ha b hb e => ?_⟩
    rw [List.mem_singleton] at hb
    exact n (by rw [← hb, ← e]; exact ha)
  · intro a ha
    rcases List.mem_append.mp ha with k | k
    · exact h.sub a k
    · rw [List.mem_singleton] at k
      rw [k]
      exact hy
  · intro q hq a ha
    rcases List.mem_append.mp ha with k | k
    · exact h.le q hq a k
    · rw [List.mem_singleton] at k
      rw [k]
      exact hq.2 x (h.sub x hx) y hy (h.le q hq x hx) j
theorem Rea.rlx {rs : List (List Str)} {zs R r : List Str} (h : Rea rs zs R) (hr : r ∈ rs) : Rea rs zs (rlx zs R r) := by
  unfold My.rlx
  split
  · next w a b =>
    split
    · next c =>
      obtain ⟨ca, cb, cw⟩ := c
      have j : Jn rs a b := ⟨w, cw, .inl hr⟩
      dsimp only
      by_cases c1 : a ∈ R ∧ b ∉ R
      · rw [if_pos c1]
        have h1 := h.snoc c1.1 cb c1.2 j
        by_cases c2 : b ∈ R ++ [b] ∧ a ∉ R ++ [b]
        · exact absurd (List.mem_append_left _ c1.1) c2.2
        · rw [if_neg c2]
          exact h1
      · rw [if_neg c1]
        by_cases c2 : b ∈ R ∧ a ∉ R
        · rw [if_pos c2]
          exact h.snoc c2.1 ca c2.2 j.symm
        · rw [if_neg c2]
          exact h
    · exact h
  · exact h
theorem Rea.fold {rs : List (List Str)} {zs : List Str} : ∀ {ts : List (List Str)} {R : List Str}, Rea rs zs R → (∀ r, r ∈ ts → r ∈ rs) → Rea rs zs (ts.foldl (My.rlx zs) R)
  | [], R, h, _ => h
  | t :: ts, R, h, hs => by
    rw [List.foldl_cons]
    exact Rea.fold (Rea.rlx h (hs t List.mem_cons_self)) fun r hr => hs r (List.mem_cons_of_mem _ hr)
theorem rlx_stay {zs R : List Str} {w a b : Str} (h : (My.rlx zs R [w, a, b]).length = R.length) (ha : a ∈ zs) (hb : b ∈ zs) (hw : w ≠ "not") : a ∈ R ↔ b ∈ R := by
  unfold rlx at h
  dsimp only at h
  rw [if_pos ⟨ha, hb, hw⟩] at h
  by_cases c1 : a ∈ R ∧ b ∉ R
  · rw [if_pos c1] at h
    split at h <;> simp at h
  · rw [if_neg c1] at h
    by_cases c2 : b ∈ R ∧ a ∉ R
    · rw [if_pos c2] at h
      simp at h
    · constructor
      · intro k
        exact Classical.byContradiction fun n => c1 ⟨k, n⟩
      · intro k
        exact Classical.byContradiction fun n => c2 ⟨k, n⟩
theorem fold_stay {zs : List Str} : ∀ {ts : List (List Str)} {R : List Str}, (ts.foldl (My.rlx zs) R).length = R.length → ∀ w a b, [w, a, b] ∈ ts → a ∈ zs → b ∈ zs → w ≠ "not" → (a ∈ R ↔ b ∈ R)
  | [], R, _, w, a, b, h, _, _, _ => by cases h
  | t :: ts, R, h, w, a, b, hm, ha, hb, hw => by
    obtain ⟨t1, h1⟩ := rlx_mono (zs := zs) (R := R) (r := t)
    obtain ⟨t2, h2⟩ := fold_mono (zs := zs) (rs := ts) (R := rlx zs R t)
    rw [List.foldl_cons] at h
    have e : (rlx zs R t).length = R.length := by
      rw [h2, h1, List.length_append, List.length_append] at h
      rw [h1, List.length_append]
      omega
    have e' : rlx zs R t = R := by
      rw [h1, List.length_append] at e
      have : t1 = [] := List.eq_nil_of_length_eq_zero (by omega)
      rw [h1, this, List.append_nil]
    rcases List.mem_cons.mp hm with k | k
    · exact rlx_stay (by rw [k]; exact e) ha hb hw
    · rw [e'] at h
      exact fold_stay h w a b k ha hb hw
def closedR (rs : List (List Str)) (zs R : List Str) : Prop := ∀ x, x ∈ zs → ∀ y, y ∈ zs → x ∈ R → Jn rs x y → y ∈ R
theorem fold_closed {rs : List (List Str)} {zs R : List Str} (h : (rs.foldl (My.rlx zs) R).length = R.length) : closedR rs zs R := by
  rintro x hx y hy hR ⟨w, hw, k | k⟩
  · exact (fold_stay h w x y k hx hy hw).mp hR
  · exact (fold_stay h w y x k hy hx hw).mpr hR
theorem rlx_closed {rs : List (List Str)} {zs R r : List Str} (h : closedR rs zs R) (hr : r ∈ rs) : My.rlx zs R r = R := by
  unfold rlx
  split
  · next w a b =>
    split
    · next c =>
      obtain ⟨ca, cb, cw⟩ := c
      have j : Jn rs a b := ⟨w, cw, .inl hr⟩
      dsimp only
      have n1 : ¬ (a ∈ R ∧ b ∉ R) := fun k => k.2 (h a ca b cb k.1 j)
      have n2 : ¬ (b ∈ R ∧ a ∉ R) := fun k => k.2 (h b cb a ca k.1 j.symm)
      rw [if_neg n1, if_neg n2]
    · rfl
  · rfl
theorem fold_closed_eq {rs : List (List Str)} {zs R : List Str} (h : closedR rs zs R) : ∀ {ts : List (List Str)}, (∀ r, r ∈ ts → r ∈ rs) → ts.foldl (My.rlx zs) R = R
  | [], _ => rfl
  | t :: ts, hs => by
    rw [List.foldl_cons, rlx_closed h (hs t List.mem_cons_self)]
    exact fold_closed_eq h fun r hr => hs r (List.mem_cons_of_mem _ hr)
/-- so many rounds -/
def rnds (rs : List (List Str)) (zs R : List Str) : Nat → List Str
  | 0 => R
  | k + 1 => rs.foldl (My.rlx zs) (rnds rs zs R k)
theorem rnds_ok {rs : List (List Str)} {zs R : List Str} (h : Rea rs zs R) (h1 : 1 ≤ R.length) : ∀ k, Rea rs zs (rnds rs zs R k) ∧ (closedR rs zs (rnds rs zs R k) ∨ k + 1 ≤ (rnds rs zs R k).length)
  | 0 => ⟨h, .inr h1⟩
  | k + 1 => by
    obtain ⟨i1, i2⟩ := rnds_ok h h1 k
    refine ⟨i1.fold fun r hr => hr, ?_⟩
    show closedR rs zs (rs.foldl (My.rlx zs) (rnds rs zs R k)) ∨ k + 1 + 1 ≤ (rs.foldl (My.rlx zs) (rnds rs zs R k)).length
    by_cases c : closedR rs zs (rnds rs zs R k)
    · rw [fold_closed_eq c fun r hr => hr]
      exact .inl c
    · obtain ⟨t, ht⟩ := fold_mono (zs := zs) (rs := rs) (R := rnds rs zs R k)
      have n : ¬ (rs.foldl (My.rlx zs) (rnds rs zs R k)).length = (rnds rs zs R k).length := fun e => c (fold_closed e)
      have := i2.resolve_left c
      rw [ht, List.length_append] at n ⊢
      exact .inr (by omega)
theorem rnds_end {rs : List (List Str)} {zs : List Str} {z : Str} (nd : zs.Nodup) (h0 : zs.head? = some z) : Rea rs zs (rnds rs zs [z] zs.length) ∧ Rch rs zs (· ∈ rnds rs zs [z] zs.length) := by
  have h : Rea rs zs [z] := ⟨by simp, fun x hx => by rw [List.mem_singleton] at hx; rw [hx]; exact List.mem_of_head? h0, fun y hy => by rw [h0] at hy; injection hy with e; rw [e]; simp, fun q hq x hx => by rw [List.mem_singleton] at hx; rw [hx]; exact hq.1 z h0⟩
  obtain ⟨i1, i2⟩ := rnds_ok h (Nat.le_refl 1) zs.length
  have cl : closedR rs zs (rnds rs zs [z] zs.length) := i2.resolve_right fun k => by
    have := nodup_sub_len i1.nd i1.sub
    omega
  exact ⟨i1, ⟨i1.st, cl⟩, fun q hq x _ hx => i1.le q hq x hx⟩
theorem rnds_joined {rs : List (List Str)} {zs : List Str} {z : Str} (nd : zs.Nodup) (h0 : zs.head? = some z) : (rnds rs zs [z] zs.length).length = zs.length ↔ Joined rs zs := by
  obtain ⟨h1, h2⟩ := rnds_end (rs := rs) nd h0
  rw [← rch_joined h2]
  constructor
  · intro e x hx
    refine Classical.byContradiction fun n => ?_
    have := nodup_sub_len (zs := zs.erase x) h1.nd fun y hy => (List.mem_erase_of_ne fun e => n (by rw [← e]; exact hy)).mpr (h1.sub y hy)
    rw [List.length_erase_of_mem hx] at this
    have := List.length_pos_of_mem hx
    omega
  · intro k
    exact Nat.le_antisymm (nodup_sub_len h1.nd h1.sub) (nodup_sub_len nd k)
theorem filter_len_iff {zs : List Str} {p : Str → Bool} : (zs.filter p).length = zs.length ↔ ∀ z, z ∈ zs → p z = true := List.length_filter_eq_length_iff
end My

namespace L2
open PySem PySem.Spec PyProof.Rows
/-- x in a tuple of data -/
def rInDT (K : PySem.W.Frag) : R2 := fun x y H Q => ∃ d ds, Dp K H x d ∧ Dp K H y (.tuple ds) ∧ SeqAt.shaped d = true ∧ SeqAt.shaped (.tuple ds) = true ∧ Q (.bl (ds.any fun z => PyData.eqv z d)) H
theorem op_inDT {X : Cx} (hu : X.A.units + 65 < cLine) : OpR X (compareOp .In) (rInDT X.K) := by
  intro pins s σ H x y v u Q I rx ry h
  obtain ⟨d, ds, h1, h2, s1, s2, q⟩ := h
  obtain ⟨as, ra⟩ := Dp.reads I d x v h1 rx
  obtain ⟨bs, rb⟩ := Dp.reads I _ y u h2 ry
  have c1 := Bool.and_eq_true_iff.mp s1
  have c2 := Bool.and_eq_true_iff.mp s2
  have e1 : d.depth ≤ 64 := of_decide_eq_true c1.2
  refine SeqAt.in_tuple_reads rb ra c2.1 c1.1 ?_ ⟨.bl _, H, I, rfl, q⟩
  have := Nat.min_le_right (PyData.depthAll ds) d.depth
  omega
end L2
namespace My
open PySem PySem.Spec PyProof.Rows L2
/-! ### the class Facts -/
structure FacC (K : PySem.W.Frag) (C : Addr) : Prop where
  cl : Cls K C
  nh : NoAttr K C "house"
  nr : NoAttr K C "rows"
  ha : PySem.W.findIn K (.ref C) "__class__" = some (some (.builtin "object.__class__"))
  hn : PySem.W.specialIn K (.builtin "object.__class__") "__get__" = some (some (.builtin "getset_descriptor.__get__"))
  htk : PySem.W.takesIn K (.builtin "object.__class__") = some true
  hm : PySem.W.mroIn K C (.type "object") = some true
def rowsT (rs : List (List Str)) : PyData := .tuple (rs.map fun r => .tuple (r.map PyData.str))
theorem rowsT_shaped {rs : List (List Str)} (h : OkR rs) : SeqAt.shaped (rowsT rs) = true := rows_shaped h
theorem eqv_rowsT (rs ss : List (List Str)) : PyData.eqv (rowsT rs) (rowsT ss) = decide (rs = ss) := eqvAll_rows rs ss
/-- the methods that are no fields -/
def facM : List Str := ["told", "without"]
/-- facts stand at a -/
def FacAt (H : Hp) (K : PySem.W.Frag) (CF C a : Addr) (fo th : List Str) (rows : List (List Str)) : Prop := ∃ dx fs h r ys, H a = some (.ins CF dx fs) ∧ fs.lookup ("house" : Str) = some (V.ref h) ∧ fs.lookup ("rows" : Str) = some (V.ref r) ∧
  Hou H K C h fo th ∧ SqT K H r ys ∧ Rows K H ys rows ∧ OkR rows ∧ ∀ m, m ∈ facM → fs.lookup m = none
theorem FacAt.ext {H H' : Hp} {K : PySem.W.Frag} {CF C a : Addr} {fo th : List Str} {rows : List (List Str)} (h : FacAt H K CF C a fo th rows) (e : Ext H H') : FacAt H' K CF C a fo th rows := by
  obtain ⟨dx, fs, ho, r, ys, h1, h2, h3, h4, h5, h6, h7, h8⟩ := h
  exact ⟨dx, fs, ho, r, ys, e _ _ h1, h2, h3, h4.ext e, h5.ext e, h6.ext e, h7, h8⟩
theorem FacAt.ins {H : Hp} {K : PySem.W.Frag} {CF C a : Addr} {fo th : List Str} {rows : List (List Str)} (h : FacAt H K CF C a fo th rows) : ∃ dx fs, H a = some (.ins CF dx fs) := by
  obtain ⟨dx, fs, ho, r, ys, h1, _⟩ := h
  exact ⟨dx, fs, h1⟩
theorem tyF {K : PySem.W.Frag} {H : Hp} {CF C a : Addr} {fo th : List Str} {rows : List (List Str)} (T : FacC K CF) (h : FacAt H K CF C a fo th rows) : TyX K H (.ref a) (.ref CF) := by
  obtain ⟨dx, fs, e⟩ := h.ins
  exact .base (.ins e T.cl T.ha T.hn T.htk T.hm)
theorem Rows.but {K : PySem.W.Frag} {H H' : Hp} {a C dx : Addr} {fs : List (Str × V)} (b : But H H' a) (ha : H a = some (.ins C dx fs)) : ∀ {xs : List V} {rs : List (List Str)}, Rows K H xs rs → Rows K H' xs rs
  | [], [], _ => True.intro
  | _ :: _, _ :: _, ⟨⟨t, e1, h⟩, hr⟩ => ⟨⟨t, e1, sqT_but h b ha⟩, Rows.but b ha hr⟩
  | [], _ :: _, h => h.elim
  | _ :: _, [], h => h.elim
theorem seq_but {K : PySem.W.Frag} {H H' : Hp} {a C dx f : Addr} {fs : List (Str × V)} {xs : List V} (h : SeqAt2 K H f xs) (b : But H H' a) (ha : H a = some (.ins C dx fs)) : SeqAt2 K H' f xs := h.elim (fun z => .inl (sqL_but z b ha)) fun z => .inr (sqT_but z b ha)
theorem Raws.but {K : PySem.W.Frag} {H H' : Hp} {a C dx : Addr} {fs : List (Str × V)} {xs : List V} {rs : List (List Str)} (h : Raws K H xs rs) (b : But H H' a) (ha : H a = some (.ins C dx fs)) : Raws K H' xs rs := ⟨h.1, fun i x hx => by
  obtain ⟨t, r, h1, h2, h3⟩ := h.2 i x hx
  exact ⟨t, r, h1, h2, seq_but h3 b ha⟩⟩
/-- the house of facts stays when the facts are written -/
theorem hou_but {K : PySem.W.Frag} {H H' : Hp} {a C CF dx h : Addr} {fs : List (Str × V)} {fo th : List Str} (hh : Hou H K C h fo th) (b : But H H' a) (ha : H a = some (.ins CF dx fs)) (ne : h ≠ a) : Hou H' K C h fo th := by
  obtain ⟨⟨dx', fs', f, t, n, h1, h2, h3, h4, h5, h6, h7⟩, k⟩ := hh
  exact ⟨⟨dx', fs', f, t, n, b _ _ ne h1, h2, h3, h4, sqT_but h5 b ha, sqT_but h6 b ha, sqT_but h7 b ha⟩, k⟩
def spFInit (K : PySem.W.Frag) (CF C CB : Addr) : Sp := fun vs H Q E => ∃ a dx h x fo th, vs = [.ref a, .ref h, x] ∧ H a = some (.ins CF dx []) ∧ h ≠ a ∧ Hou H K C h fo th ∧ (fo ++ th).Nodup ∧ (fo ++ th).length < sizeLine ∧ (∀ z, z ∈ fo ++ th → PyData.strOk z = true) ∧
  ((∃ i : Nat, Passed K H fo th x (some i) ∧ ∀ d H', Ext H H' → H d = none → H' d = some (.xd [(("index" : Str), V.int (i : Nat))]) → E (.ref CB) (some d) H') ∨
  (∃ p xs rs, x = .ref p ∧ SeqAt2 K H p xs ∧ Raws K H xs rs ∧ FactR fo th rs ∧ rs.length < 1000 ∧ ∀ H', But H H' a → FacAt H' K CF C a fo th (onceR (rs.map (toldR (fo ++ th)))) → Q .non H'))
theorem raws_facts {K : PySem.W.Frag} {H : Hp} {fo th : List Str} {xs : List V} {rs : List (List Str)} (h : Raws K H xs rs) (fr : FactR fo th rs) : FactsOf K H fo th xs (List.replicate xs.length true) := ⟨by rw [List.length_replicate], fun i x hx => by
  obtain ⟨t, r, rfl, hr, sq⟩ := h.2 i x hx
  obtain ⟨w, a, b, rfl, isf⟩ := fr r (List.mem_of_getElem? hr)
  exact ⟨true, by rw [List.getElem?_replicate, if_pos (List.getElem?_eq_some_iff.mp hx).1], .inr (.inr ⟨t, _, _, _, rfl, sq, .inl rfl, .inl rfl, .inl rfl, (is_fact isf).symm⟩)⟩⟩
theorem raws_passed {K : PySem.W.Frag} {H : Hp} {fo th : List Str} {p : Addr} {xs : List V} {rs : List (List Str)} (sq : SeqAt2 K H p xs) (h : Raws K H xs rs) (fr : FactR fo th rs) : Passed K H fo th (.ref p) none :=
  .inr ⟨p, xs, _, rfl, sq, raws_facts h fr, (first_none fun i hi => by rw [List.length_replicate] at hi; rw [List.getElem?_replicate, if_pos hi]).symm⟩
def spTold (K : PySem.W.Frag) (CF C : Addr) : Sp := fun vs H Q _ => ∃ a fo th rows, vs = [.ref a] ∧ FacAt H K CF C a fo th rows ∧ ∀ l ys H', Ext H H' → H l = none → H' l = some (.lst ys) → Rows K H' ys rows → Q (.ref l) H'
def spFLen (K : PySem.W.Frag) (CF C : Addr) : Sp := fun vs H Q _ => ∃ a fo th rows, vs = [.ref a] ∧ FacAt H K CF C a fo th rows ∧ Q (.int (rows.length : Nat)) H
def spFEq (K : PySem.W.Frag) (CF C : Addr) : Sp := fun vs H Q _ => ∃ a fo th rows y, vs = [.ref a, y] ∧ FacAt H K CF C a fo th rows ∧ ((∃ t, TyX K H y t ∧ PySem.W.kitOne K t (.ref CF) = some false ∧ Q (.bl false) H) ∨
  ∃ b fo2 th2 rows2, y = .ref b ∧ FacAt H K CF C b fo2 th2 rows2 ∧ ∀ H', Ext H H' → Q (.bl (decide (fo = fo2) && (decide (th = th2) && decide (rows = rows2)))) H')
/-- whether a thing is one of the facts -/
def spFHas (K : PySem.W.Frag) (CF C : Addr) : Sp := fun vs H Q _ => ∃ a fo th rows y, vs = [.ref a, y] ∧ FacAt H K CF C a fo th rows ∧ (fo ++ th).Nodup ∧ (fo ++ th).length < sizeLine ∧ (∀ z, z ∈ fo ++ th → PyData.strOk z = true) ∧
  ((FactOf K H fo th y false ∧ ∀ H', Ext H H' → Q (.bl false) H') ∨ ∃ r w c d, y = .ref r ∧ SeqAt2 K H r [.str w, .str c, .str d] ∧ IsF fo th w c d ∧ ∀ H', Ext H H' → Q (.bl (decide (toldS (fo ++ th) w c d ∈ rows))) H')
abbrev nm_Facts_init : List Str := ["self", "house", "facts", "at"]
theorem sc_Facts_init : FnScope nm_Facts_init ["self", "house", "facts"] (defScope s_Facts_init) := ⟨rfl, rfl, rfl, by decide +kernel, rfl, by decide +kernel, by decide +kernel⟩
abbrev nm_Facts_told : List Str := ["self"]
theorem sc_Facts_told : FnScope nm_Facts_told ["self"] (defScope s_Facts_told) := ⟨rfl, rfl, rfl, by decide +kernel, rfl, by decide +kernel, by decide +kernel⟩
abbrev nm_Facts_len : List Str := ["self"]
theorem sc_Facts_len : FnScope nm_Facts_len ["self"] (defScope s_Facts_len) := ⟨rfl, rfl, rfl, by decide +kernel, rfl, by decide +kernel, by decide +kernel⟩
abbrev nm_Facts_contains : List Str := ["self", "x"]
theorem sc_Facts_contains : FnScope nm_Facts_contains ["self", "x"] (defScope s_Facts_contains) := ⟨rfl, rfl, rfl, by decide +kernel, rfl, by decide +kernel, by decide +kernel⟩
abbrev nm_Facts_iter : List Str := ["self"]
theorem sc_Facts_iter : FnScope nm_Facts_iter ["self"] (defScope s_Facts_iter) := ⟨rfl, rfl, rfl, by decide +kernel, rfl, by decide +kernel, by decide +kernel⟩
abbrev nm_Facts_eq : List Str := ["self", "other"]
theorem sc_Facts_eq : FnScope nm_Facts_eq ["self", "other"] (defScope s_Facts_eq) := ⟨rfl, rfl, rfl, by decide +kernel, rfl, by decide +kernel, by decide +kernel⟩
section
variable {P : Program} {w : World} {K : PySem.W.Frag} {mg : Str → Option Value} {base : Heap} {f C CB CF CBH : Addr} {fd : FuncData} {dvs : List V}
theorem ok_fInit (Fn : FunD K "__init__" "Facts.__init__" (defArgs s_Facts_init) (defBody s_Facts_init) (defScope s_Facts_init) dvs [] f fd) (T : FacC K CF) (hwrong_fact : Has P w K mg base 6 "wrong_fact" ["house", "facts"] (spWrongFact K C)) (heach_once : Has P w K mg base 2 "each_once" ["house", "facts"] (spEachOnce K C)) (EB : Er P w K mg base "BadFact" "index" CB) :
    FnOk P w K mg base (L2.CX P w) 7 f fd ["self", "house", "facts"] (spFInit K CF C CB) := by
  obtain ⟨fI, fdI, TB, FB, bB, _⟩ := EB
  refine Fn.ok sc_Facts_init (fun vs H Q E h => ?_) (fun cdv A outer s H vs Q E hr h => ⟨_,
    (pss_cons (ps_set (i := 3) sc_Facts_init.nd rfl (Or.inl rfl) (pe_has hwrong_fact (hr.mono (by decide)) (pa_cons (pv 1) (pa_cons (pv 2) pa_nil))))
      (pss_cons (ps_if (pt_cmpR op_notN (pv 3) pe_non (nomark _)) (pss_one (ps_raise rfl (takes_of rfl rfl rfl rfl) (pmk_oex TB.oex TB.iC TB.tI FB (hr.mono (by decide)) bB .nil pass0 (by rfl) TB.gl (pa_cons (pv 3) pa_nil)))) pss_nil)
      (pss_cons (ps_fld (pv 0) (pv 1) rfl)
      (pss_one (ps_fld (pv 0) (pe_has heach_once (hr.mono (by decide)) (pa_cons (pv 1) (pa_cons (pv 2) pa_nil))) rfl))))), ?_⟩)
  · obtain ⟨a, dx, h, x, fo, th, rfl, _⟩ := h
    rfl
  · obtain ⟨a, dx, h, x, fo, th, rfl, ha, nha, hou, nd, hz, zok, hh⟩ := h
    rcases hh with ⟨i, pa, qE⟩ | ⟨p, xs, rs, rfl, sq, raw, fr, len, qN⟩
    · refine ⟨_, rfl, _, rfl, h, x, fo, th, some i, rfl, hou, pa, fun H1 x1 => ?_⟩
      refine ⟨_, rfl, rfl, _, rfl, ?_⟩
      refine iteT ?_
      refine ⟨_, rfl, Nat.le_of_ble_eq_true rfl, fun e he => ?_⟩
      refine ⟨e, _, rfl, upd_same, fun d hd ne => ⟨rfl, d, [("index", optV (some i))], upd_same, ?_, ?_, ?_⟩⟩
      · rw [upd_ne ne, upd_same]
      · rw [upd_ne ne] at hd
        exact hd
      · rw [upd_ne ne] at hd
        refine qE d _ (fun b u k => ?_) ?_ upd_same
        · have k1 := x1 b u k
          rw [upd_ne (ne_of_none k1 hd), del_ne (ne_of_none k1 he), upd_ne (ne_of_none k1 he), upd_ne (ne_of_none k1 hd), upd_ne (ne_of_none k1 he)]
          exact k1
        · exact ext_none x1 hd
    · refine ⟨_, rfl, _, rfl, h, _, fo, th, none, rfl, hou, raws_passed sq raw fr, fun H1 x1 => ?_⟩
      refine ⟨_, rfl, rfl, _, rfl, ?_⟩
      refine iteF ?_
      refine ⟨_, rfl, _, rfl, a, CF, dx, _, rfl, x1 _ _ ha, T.cl, T.nh, Nat.le_of_ble_eq_true rfl, ?_⟩
      obtain ⟨H2, hH2⟩ : ∃ H2, H2 = L2.upd H1 a (.ins CF dx (putF "house" (.ref h) [])) := ⟨_, rfl⟩
      rw [← hH2]
      have a2 : H2 a = some (.ins CF dx (putF "house" (.ref h) [])) := by rw [hH2, upd_same]
      have b2 : But H1 H2 a := by
        rw [hH2]
        exact But.upd (ext_but Ext.rfl')
      have a1 := x1 _ _ ha
      have hou2 := hou_but (hou.ext x1) b2 a1 nha
      refine ⟨_, rfl, _, rfl, h, p, fo, th, xs, rs, rfl, hou2, nd, hz, zok, seq_but (sq.ext x1) b2 a1, (raw.ext x1).but b2 a1, fr, len, fun t ys H3 x3 st r3 => ?_⟩
      refine ⟨_, rfl, a, CF, dx, _, rfl, x3 _ _ a2, T.cl, T.nr, Nat.le_of_ble_eq_true rfl, ?_⟩
      obtain ⟨H4, hH4⟩ : ∃ H4, H4 = L2.upd H3 a (.ins CF dx (putF "rows" (.ref t) (putF "house" (.ref h) []))) := ⟨_, rfl⟩
      rw [← hH4]
      have a4 : H4 a = some (.ins CF dx (putF "rows" (.ref t) (putF "house" (.ref h) []))) := by rw [hH4, upd_same]
      have b4 : But H3 H4 a := by
        rw [hH4]
        exact But.upd (ext_but Ext.rfl')
      have a3 := x3 _ _ a2
      have tok := told_ok nd fr
      refine qN H4 (((ext_but x1).trans b2).trans ((ext_but x3).trans b4)) ⟨dx, _, h, t, ys, a4, rfl, rfl, hou_but (hou2.ext x3) b4 a3 nha, sqT_but st b4 a3, r3.but b4 a3, fun r hr z hz => ?_, fun m hm => by
        unfold facM at hm
        simp at hm
        rcases hm with rfl | rfl <;> rfl⟩
      obtain ⟨w, a, b, rfl, h1, h2, h3⟩ := tok r (once_mem hr)
      simp at hz
      rcases hz with rfl | rfl | rfl
      · exact wordsOk _ h1
      · exact zok _ h2
      · exact zok _ h3
theorem ok_told (Fn : FunD K "told" "Facts.told" (defArgs s_Facts_told) (defBody s_Facts_told) (defScope s_Facts_told) [] [] f fd) (T : FacC K CF) (gB_list : mg "list" = none) : FnOk P w K mg base CX0 1 f fd ["self"] (spTold K CF C) := by
  refine Fn.ok sc_Facts_told (fun vs H Q E h => ?_) (fun cdv A outer s H vs Q E hr h => ⟨_, PSs.nox
    (pss_one (ps_ret (pe_callTy call_lstS (by rfl) gB_list (by decide +kernel) (pa_cons (pe_fld (pv 0) rfl) pa_nil)))), ?_⟩)
  · obtain ⟨a, fo, th, rows, rfl, _⟩ := h
    rfl
  · obtain ⟨a, fo, th, rows, rfl, ⟨dx, fs, h, r, ys, h1, h2, h3, h4, h5, h6, h7, h8⟩, q⟩ := h
    exact ⟨_, rfl, a, CF, dx, fs, _, rfl, h1, T.cl, T.nr, h3, r, ys, rfl, .inr h5, fun l hl => q l ys _ (Ext.upd hl) hl upd_same (h6.ext (Ext.upd hl))⟩
theorem ok_fLen (Fn : FunD K "__len__" "Facts.__len__" (defArgs s_Facts_len) (defBody s_Facts_len) (defScope s_Facts_len) [] [] f fd) (T : FacC K CF) (gB_len : mg "len" = none) : FnOk P w K mg base CX0 1 f fd ["self"] (spFLen K CF C) := by
  refine Fn.ok sc_Facts_len (fun vs H Q E h => ?_) (fun cdv A outer s H vs Q E hr h => ⟨_, PSs.nox
    (pss_one (ps_ret (pe_callB call_len (by rfl) gB_len boot_len (pa_cons (pe_fld (pv 0) rfl) pa_nil)))), ?_⟩)
  · obtain ⟨a, fo, th, rows, rfl, _⟩ := h
    rfl
  · obtain ⟨a, fo, th, rows, rfl, ⟨dx, fs, h, r, ys, h1, h2, h3, h4, h5, h6, h7, h8⟩, q⟩ := h
    refine ⟨_, rfl, a, CF, dx, fs, _, rfl, h1, T.cl, T.nr, h3, _, _, rfl, .inr ⟨_, h5, rfl⟩, ?_⟩
    rw [h6.len]
    exact q
theorem ok_fIter (Fn : FunD K "__iter__" "Facts.__iter__" (defArgs s_Facts_iter) (defBody s_Facts_iter) (defScope s_Facts_iter) [] [] f fd) (T : FacC K CF) (gI : mg "iter" = none) : FnOk P w K mg base CX0 1 f fd ["self"] (spIter K CF "rows" base.objs.size) := by
  refine Fn.ok sc_Facts_iter (fun vs H Q E h => ?_) (fun cdv A outer s H vs Q E hr h => ⟨_, PSs.nox (pss_one (ps_ret (pe_callB call_iterT (by rfl) gI boot_iter (pa_cons (pe_fld (pv 0) rfl) pa_nil)))), ?_⟩)
  · obtain ⟨a, _, _, _, _, rfl, _⟩ := h
    rfl
  · obtain ⟨a, dx, fs, l, zs, rfl, h1, h2, h3, q⟩ := h
    exact ⟨_, rfl, a, CF, dx, fs, _, rfl, h1, T.cl, T.nr, h2, l, zs, rfl, h3, q⟩
theorem ok_fEq (Fn : FunD K "__eq__" "Facts.__eq__" (defArgs s_Facts_eq) (defBody s_Facts_eq) (defScope s_Facts_eq) [] [] f fd) (T : FacC K CF) (Z : HouseTxt P w K mg C CBH) (gI : mg "isinstance" = none) (gF : mg "Facts" = some (.ref CF)) (kF : PySem.W.kitOne K (.ref CF) (.ref CF) = some true) :
    FnOk P w K mg base CX0 2 f fd ["self", "other"] (spFEq K CF C) := by
  refine Fn.ok sc_Facts_eq (fun vs H Q E h => ?_) (fun cdv A outer s H vs Q E hr h => ⟨_, PSs.nox (pss_one (ps_ret
    (pe_and (pe_callB call_isi (by rfl) gI boot_isinstance (pa_cons (pv 1) (pa_cons (pe_glob (v := .ref CF) (by rfl) gF rfl) pa_nil)))
    (pe_and (pe_cmpR (op_eqO (EI := E0) (hr.mono (by decide)) Z.mE (Z.E _) Z.bE pass0) (pe_fld (pv 0) rfl) (pe_fld (pv 1) rfl) (nomark _))
    (pe_one (pe_cmpR (op_eqD hr.units) (pe_fld (pv 0) rfl) (pe_fld (pv 1) rfl) (nomark _))))))), ?_⟩)
  · obtain ⟨a, _, _, _, _, rfl, _⟩ := h
    rfl
  · obtain ⟨a, fo, th, rows, y, rfl, fa, h⟩ := h
    rcases h with ⟨t, ty, kt, q⟩ | ⟨b, fo2, th2, rows2, rfl, fb, q⟩
    · exact ⟨_, rfl, y, .ref CF, t, .ref CF, false, rfl, .own CF, ty, kt, false, rfl, q⟩
    · refine ⟨_, rfl, .ref b, .ref CF, .ref CF, .ref CF, true, rfl, .own CF, tyF T fb, kF, true, rfl, ?_⟩
      refine iteT ?_
      obtain ⟨dx, fs, h, r, ys, h1, h2, h3, h4, h5, h6, h7, h8⟩ := fa
      obtain ⟨dx', fs', h', r', ys', g1, g2, g3, g4, g5, g6, g7, g8⟩ := fb
      obtain ⟨hx, hfs, hins⟩ := h4.ins
      refine ⟨_, rfl, a, CF, dx, fs, _, rfl, h1, T.cl, T.nh, h2, _, rfl, b, CF, dx', fs', _, rfl, g1, T.cl, T.nh, g2, h, hx, hfs, .ref C, rfl, hins, tyH Z.T g4, by simp [PySem.W.notFirst], h, fo, th, _, rfl, h4, .inr ⟨h', fo2, th2, rfl, g4, _, rfl, _, rfl, ?_⟩⟩
      refine ite2 (fun e => ?_) fun e => ?_
      · obtain ⟨e1, e2⟩ := Bool.and_eq_true_iff.mp e
        refine ⟨_, rfl, a, CF, dx, fs, _, rfl, h1, T.cl, T.nr, h3, _, rfl, b, CF, dx', fs', _, rfl, g1, T.cl, T.nr, g3, rowsT rows, rowsT rows2, .tup h5 (rows_dp h6), .tup g5 (rows_dp g6), rowsT_shaped h7, rowsT_shaped g7, ?_⟩
        rw [eqv_rowsT]
        have z := q H Ext.rfl'
        rw [e1, e2, Bool.true_and, Bool.true_and] at z
        exact z
      · have z := q H Ext.rfl'
        have e' : (decide (fo = fo2) && (decide (th = th2) && decide (rows = rows2))) = false := by
          have e2 : (decide (fo = fo2) && decide (th = th2)) = false := by
            cases hh : (decide (fo = fo2) && decide (th = th2)) with
            | false => rfl
            | true => exact absurd hh e
          rw [← Bool.and_assoc, e2, Bool.false_and]
        rw [e'] at z
        have e3 : (decide (fo = fo2) && decide (th = th2)) = false := by
          cases hh : (decide (fo = fo2) && decide (th = th2)) with
          | false => rfl
          | true => exact absurd hh e
        exact z
theorem ok_fHas (Fn : FunD K "__contains__" "Facts.__contains__" (defArgs s_Facts_contains) (defBody s_Facts_contains) (defScope s_Facts_contains) [] [] f fd) (T : FacC K CF) (his_fact : Has P w K mg base 5 "is_fact" ["house", "thing"] (spIsFact K C)) (has_told : Has P w K mg base 1 "as_told" ["house", "fact"] (spAsTold K C)) :
    FnOk P w K mg base CX0 6 f fd ["self", "x"] (spFHas K CF C) := by
  refine Fn.ok sc_Facts_contains (fun vs H Q E h => ?_) (fun cdv A outer s H vs Q E hr h => ⟨_, PSs.nox (pss_one (ps_ret
    (pe_and (pe_has his_fact (hr.mono (by decide)) (pa_cons (pe_fld (pv 0) rfl) (pa_cons (pv 1) pa_nil)))
    (pe_one (pe_cmpR (op_inDT (u65 hr)) (pe_has has_told (hr.mono (by decide)) (pa_cons (pe_fld (pv 0) rfl) (pa_cons (pv 1) pa_nil))) (pe_fld (pv 0) rfl) (by rfl)))))), ?_⟩)
  · obtain ⟨a, _, _, _, _, rfl, _⟩ := h
    rfl
  · obtain ⟨a, fo, th, rows, y, rfl, ⟨dx, fs, h, r, ys, h1, h2, h3, h4, h5, h6, h7, h8⟩, nd, hz, zok, hh⟩ := h
    rcases hh with ⟨fx, q⟩ | ⟨rr, wd, c, d, rfl, sq, isf, q⟩
    · exact ⟨_, rfl, a, CF, dx, fs, _, rfl, h1, T.cl, T.nh, h2, _, rfl, h, y, fo, th, false, rfl, h4, fx, fun H1 x1 => ⟨false, rfl, q H1 x1⟩⟩
    · refine ⟨_, rfl, a, CF, dx, fs, _, rfl, h1, T.cl, T.nh, h2, _, rfl, h, _, fo, th, true, rfl, h4, .inr (.inr ⟨rr, _, _, _, rfl, sq, .inl rfl, .inl rfl, .inl rfl, (is_fact isf).symm⟩), fun H1 x1 => ⟨true, rfl, ?_⟩⟩
      refine iteT ?_
      refine ⟨_, rfl, a, CF, dx, fs, _, rfl, x1 _ _ h1, T.cl, T.nh, h2, _, rfl, h, rr, fo, th, wd, c, d, rfl, h4.ext x1, nd, hz, isf, sq.ext x1, fun t H2 x2 ht => ?_⟩
      obtain ⟨e1, e2, et, hcd⟩ := told_three nd isf
      have okt : OkS (toldS (fo ++ th) wd c d) := fun z hz' => by
        rw [et] at hz'
        simp at hz'
        rcases hz' with rfl | rfl | rfl
        · exact wordsOk _ isf.1
        · rcases hcd with ⟨rfl, _⟩ | ⟨_, rfl, _⟩
          · exact zok _ isf.2.1
          · exact zok _ isf.2.2.1
        · rcases hcd with ⟨_, rfl⟩ | ⟨_, _, rfl⟩
          · exact zok _ isf.2.2.1
          · exact zok _ isf.2.1
      refine ⟨_, rfl, a, CF, dx, fs, _, rfl, (x1.trans x2) _ _ h1, T.cl, T.nr, h3, .tuple ((toldS (fo ++ th) wd c d).map PyData.str), _, .tup (SqT.of ht) (dpAll_str _), .tup (h5.ext (x1.trans x2)) (rows_dp (h6.ext (x1.trans x2))), shaped_strT _ okt, rowsT_shaped h7, ?_⟩
      rw [any_rows]
      exact q H2 (x1.trans x2)
end
end My

namespace L2
open PySem PySem.Spec PyProof.Rows
theorem slK {X : Cx} {r : PySem.W.Frag → V → Option Int → Option Int → Hp → VK → Prop} {K : PySem.W.Frag} (e : X.K = K) (h : SlR X (r X.K)) : SlR X (r K) := e ▸ h
end L2
namespace My
open PySem PySem.Spec PyProof.Rows L2
/-- a fact as it is told -/
def IsT (fo th : List Str) (w a b : Str) : Prop := IsF fo th w a b ∧ toldS (fo ++ th) w a b = [w, a, b]
/-- what else is needed of the class Facts -/
structure FacTxt (P : Program) (w : World) (K : PySem.W.Frag) (mg : Str → Option Value) (CF C CB : Addr) where
  T : FacC K CF
  gF : mg "Facts" = some (.ref CF)
  kFF : PySem.W.kitOne K (.ref CF) (.ref CF) = some true
  ne : PySem.W.findIn K (.ref CF) "__ne__" = some (some (.builtin "object.__ne__"))
  nb : ∀ T, T ∈ ["NoneType", "list", "tuple", "int", "str"] → PySem.W.notFirst K CF (.type T) = true ∧ PySem.W.kitOne K (.type T) (.ref CF) = some false
  kSeq : PySem.W.kitAny K (.ref CF) [.type "list", .type "tuple"] = some false
  fI : Addr
  fdI : FuncData
  M : Mk K CF fI
  I : ∀ base, FnOk P w K mg base (L2.CX P w) 7 fI fdI ["self", "house", "facts"] (spFInit K CF C CB)
  bI : Binds K fdI ["self", "house", "facts"] []
  uD : Value
  bD : Binds K fdI ["self", "house", "facts"] [uD]
  aD : Addr
  eD : uD = .ref aD
  tD : ∀ H, SqT K H aD []
  fT : Addr
  fdT : FuncData
  mT : Meth K CF "told" fT
  To : ∀ base, FnOk P w K mg base CX0 1 fT fdT ["self"] (spTold K CF C)
  bT : Binds K fdT ["self"] []
  fL : Addr
  fdL : FuncData
  mL : OwnM K CF "__len__" fL
  L : ∀ base, FnOk P w K mg base CX0 1 fL fdL ["self"] (spFLen K CF C)
  bL : Binds K fdL ["self"] []
  fS : Addr
  fdS : FuncData
  mS : OwnM K CF "__contains__" fS
  S : ∀ base, FnOk P w K mg base CX0 6 fS fdS ["self", "x"] (spFHas K CF C)
  bS : Binds K fdS ["self", "x"] []
  fW : Addr
  fdW : FuncData
  mW : OwnM K CF "__iter__" fW
  W : ∀ base : Heap, FnOk P w K mg base CX0 1 fW fdW ["self"] (spIter K CF "rows" base.objs.size)
  bW : Binds K fdW ["self"] []
  fE : Addr
  fdE : FuncData
  mE : OwnM K CF "__eq__" fE
  E : ∀ base, FnOk P w K mg base CX0 2 fE fdE ["self", "other"] (spFEq K CF C)
  bE : Binds K fdE ["self", "other"] []
theorem FacTxt.vD {P : Program} {w : World} {K : PySem.W.Frag} {mg : Str → Option Value} {CF C CB : Addr} (Z : FacTxt P w K mg CF C CB) : Vals [V.ref Z.aD] [Z.uD] := .cons Z.eD .nil
/-! ### rows as data, deeper -/
theorem canLay_dn (m : Nat) : ∀ ds : List PyData, (∀ d, d ∈ ds → d.canLay0 = true ∧ d.depth ≤ m) → PyData.canLayAll0 ds = true ∧ PyData.depthAll ds ≤ m
  | [], _ => ⟨rfl, Nat.zero_le _⟩
  | d :: ds, h => by
    obtain ⟨h1, h2⟩ := canLay_dn m ds fun x hx => h x (List.mem_cons_of_mem _ hx)
    obtain ⟨h3, h4⟩ := h d List.mem_cons_self
    refine ⟨?_, Nat.max_le.mpr ⟨h4, h2⟩⟩
    show (d.canLay0 && PyData.canLayAll0 ds) = true
    rw [h1, h3]
    rfl
theorem shaped_dn {m : Nat} (hm : m ≤ 63) (ds : List PyData) (h : ∀ d, d ∈ ds → d.canLay0 = true ∧ d.depth ≤ m) : SeqAt.shaped (.list ds) = true := by
  obtain ⟨h1, h2⟩ := canLay_dn m ds h
  refine Bool.and_eq_true_iff.mpr ⟨h1, decide_eq_true ?_⟩
  show PyData.depthAll ds + 1 ≤ 64
  omega
theorem rowsD_lay {rs : List (List Str)} (h : OkR rs) : (rowsD rs).canLay0 = true ∧ (rowsD rs).depth ≤ 3 := by
  obtain ⟨h1, h2⟩ := canLay_dn 2 (rs.map fun r => .tuple (r.map PyData.str)) fun d hd => by
    obtain ⟨r, hr, rfl⟩ := List.mem_map.mp hd
    exact flat_tup r (h r hr)
  exact ⟨h1, Nat.succ_le_succ h2⟩
/-- told rows -/
def TR (fo th : List Str) (rs : List (List Str)) : Prop := ∀ r, r ∈ rs → ∃ w a b, r = [w, a, b] ∧ IsT fo th w a b
theorem TR.fact {fo th : List Str} {rs : List (List Str)} (h : TR fo th rs) : FactR fo th rs := fun r hr => by
  obtain ⟨w, a, b, e, i⟩ := h r hr
  exact ⟨w, a, b, e, i.1⟩
theorem TR.told {fo th : List Str} {rs : List (List Str)} (h : TR fo th rs) : rs.map (toldR (fo ++ th)) = rs := by
  conv => rhs; rw [← List.map_id rs]
  refine List.map_congr_left fun r hr => ?_
  obtain ⟨w, a, b, rfl, i⟩ := h r hr
  exact i.2
theorem TR.ok {fo th : List Str} {rs : List (List Str)} (h : TR fo th rs) (zok : ∀ z, z ∈ fo ++ th → PyData.strOk z = true) : OkR rs := fun r hr z hz => by
  obtain ⟨w, a, b, rfl, i⟩ := h r hr
  simp at hz
  rcases hz with rfl | rfl | rfl
  · exact wordsOk _ i.1.1
  · exact zok _ i.1.2.1
  · exact zok _ i.1.2.2.1
theorem TR.sub {fo th : List Str} {rs ss : List (List Str)} (h : TR fo th rs) (s : ∀ r, r ∈ ss → r ∈ rs) : TR fo th ss := fun r hr => h r (s r hr)
theorem once_fold : ∀ rs acc : List (List Str), (acc ++ rs).Nodup → rs.foldl (fun acc r => if r ∈ acc then acc else acc ++ [r]) acc = acc ++ rs
  | [], acc, _ => (List.append_nil acc).symm
  | r :: rs, acc, nd => by
    have nr : r ∉ acc := fun m => (List.nodup_append.mp nd).2.2 r m r List.mem_cons_self rfl
    rw [List.foldl_cons, if_neg nr, once_fold rs (acc ++ [r]) (by rw [List.append_assoc]; exact nd), List.append_assoc]
    rfl
theorem once_nd {rs : List (List Str)} (nd : rs.Nodup) : onceR rs = rs := once_fold rs [] nd
theorem Rows.raws {K : PySem.W.Frag} {H : Hp} {xs : List V} {rs : List (List Str)} (h : Rows K H xs rs) : Raws K H xs rs := ⟨h.len, fun i x hx => by
  obtain ⟨t, r, e, s, hr⟩ := h.at_ hx
  exact ⟨t, r, e, hr, .inr s⟩⟩
/-- Facts(..) of facts -/
theorem mkF {K : PySem.W.Frag} {CF C CB h p x' dx : Addr} {H : Hp} {fo th : List Str} {xs : List V} {rs : List (List Str)} {R : Hp → Prop} {E : XK} (hou : Hou H K C h fo th) (nd : (fo ++ th).Nodup) (sz : (fo ++ th).length < sizeLine) (zok : ∀ z, z ∈ fo ++ th → PyData.strOk z = true)
    (sq : SeqAt2 K H p xs) (raw : Raws K H xs rs) (fr : FactR fo th rs) (len : rs.length < 1000) (h1 : H x' = none) (h2 : H dx = none) (h3 : dx ≠ x') (q : ∀ H', Ext H H' → FacAt H' K CF C x' fo th (onceR (rs.map (toldR (fo ++ th)))) → R H') :
    spFInit K CF C CB [.ref x', .ref h, .ref p] (L2.upd (L2.upd H dx (.own x')) x' (.ins CF dx [])) (fun v H2 => v = .non ∧ R H2) E := by
  have xn : Ext H (L2.upd (L2.upd H dx (.own x')) x' (.ins CF dx [])) := fun c u k => by
    rw [upd_ne (ne_of_none k h1), upd_ne (ne_of_none k h2)]
    exact k
  obtain ⟨hx, hfs, hins⟩ := hou.ins
  exact ⟨x', dx, h, _, fo, th, rfl, upd_same, ne_of_none hins h1, hou.ext xn, nd, sz, zok, .inr ⟨p, xs, rs, rfl, sq.ext xn, raw.ext xn, fr, len, fun H' b fa => ⟨rfl, q H' (fun c u k => b c u (ne_of_none k h1) (xn c u k)) fa⟩⟩⟩
end My

namespace L2
open PySem PySem.Spec PyProof.Rows
/-- for .. in enumerate(list or tuple) -/
theorem for_enumS {K : PySem.W.Frag} {a : Addr} {xs : List V} {H : Hp} (sq : SqL K H a xs ∨ SqT K H a xs) {g : TG} {tb : TS} {D : Ends} {σ : St} (Pv : Nat → St → Hp → Prop) (h0 : Pv 0 σ H) (hG : ∀ i σ H', i ≤ xs.length → Pv i σ H' → ∀ b u, H b = some u → H' b = some u)
    (hs : ∀ i y σ H' T, i < xs.length → Pv i σ H' → xs[i]? = some y → H' T = none → g (.ref T) σ (upd H' T (.tup [.int (i : Nat), y])) fun σ2 H2 => tb { D with nx := Pv (i + 1), ct := Pv (i + 1), bk := D.nx } σ2 H2) (hd : ∀ σ H, Pv xs.length σ H → D.nx σ H) :
    (SqL K H a xs ∧ ∃ W : Nat → Nat → St → Hp → Prop, (∃ m, W 0 m σ H) ∧ ∀ i m σ H, W i m σ H →
      ((Ite K a).stop i H ∧ D.nx σ H) ∨ ((Ite K a).go i H ∧ ∃ N : St → Hp → Prop, (∀ σ' H', N σ' H' → ∃ m', m' < m ∧ W (i + 1) m' σ' H') ∧ ∀ x H', (Ite K a).yld i H x H' → g x σ H' fun σ2 H2 => tb { D with nx := N, ct := N, bk := D.nx } σ2 H2)) ∨
    (SqT K H a xs ∧ ∃ W : Nat → Nat → St → Hp → Prop, (∃ m, W 0 m σ H) ∧ ∀ i m σ H, W i m σ H →
      ((IteT K a).stop i H ∧ D.nx σ H) ∨ ((IteT K a).go i H ∧ ∃ N : St → Hp → Prop, (∀ σ' H', N σ' H' → ∃ m', m' < m ∧ W (i + 1) m' σ' H') ∧ ∀ x H', (IteT K a).yld i H x H' → g x σ H' fun σ2 H2 => tb { D with nx := N, ct := N, bk := D.nx } σ2 H2)) := by
  rcases sq with sq | sq
  · refine .inl ⟨sq, for_it (walk_enum (xs := xs)) Pv h0 (fun i σ H' hi p => SqL.ext sq (hG i σ H' hi p)) (fun i x σ H' H'' hi p y => ?_) hd⟩
    obtain ⟨T, y1, y2, rfl, hT, rfl, e1, e2⟩ := y
    cases e1
    exact hs i y2 σ H' T hi p e2 hT
  · refine .inr ⟨sq, for_it (walk_enumT (xs := xs)) Pv h0 (fun i σ H' hi p => SqT.ext sq (hG i σ H' hi p)) (fun i x σ H' H'' hi p y => ?_) hd⟩
    obtain ⟨T, y1, y2, rfl, hT, rfl, e1, e2⟩ := y
    cases e1
    exact hs i y2 σ H' T hi p e2 hT
/-- [.. for .. in enumerate(list or tuple) ..] -/
theorem lc_enumS {K : PySem.W.Frag} {a : Addr} {xs : List V} {H : Hp} (sq : SqL K H a xs ∨ SqT K H a xs) {g : TG} {tt : TT} {te : TE} {vs : List Nat} {σ : St} {D : Addr} {Qd : Hp → Prop} (hD : H D = none) (Pv : Nat → Hp → Prop) (h0 : Pv 0 (upd H D (.lst []))) (hG : ∀ i H', i ≤ xs.length → Pv i H' → ∀ b u, H b = some u → H' b = some u)
    (hs : ∀ i y H' T, i < xs.length → Pv i H' → xs[i]? = some y → H' T = none → g (.ref T) (wipe σ vs) (upd H' T (.tup [.int (i : Nat), y])) fun σ2 H2 => wipe σ2 vs = wipe σ vs ∧ tt σ2 H2 fun b H3 =>
      if b = true then te σ2 H3 fun y H4 => ∃ acc, H4 D = some (.lst acc) ∧ acc.length < sizeLine ∧ Pv (i + 1) (upd H4 D (.lst (acc ++ [y]))) else Pv (i + 1) H3) (hd : ∀ H, Pv xs.length H → Qd H) :
    (∃ W : Nat → Nat → Hp → Prop, (∃ m, W 0 m (upd H D (.lst []))) ∧ ∀ i m H, W i m H →
      ((Ite K a).stop i H ∧ Qd H) ∨ ((Ite K a).go i H ∧ ∃ Nx : Hp → Prop, (∀ H', Nx H' → ∃ m', m' < m ∧ W (i + 1) m' H') ∧ ∀ x H', (Ite K a).yld i H x H' → g x (wipe σ vs) H' fun σ2 H2 => wipe σ2 vs = wipe σ vs ∧ tt σ2 H2 fun b H3 =>
        if b = true then te σ2 H3 fun y H4 => ∃ acc, H4 D = some (.lst acc) ∧ acc.length < sizeLine ∧ Nx (upd H4 D (.lst (acc ++ [y]))) else Nx H3)) ∨
    (∃ W : Nat → Nat → Hp → Prop, (∃ m, W 0 m (upd H D (.lst []))) ∧ ∀ i m H, W i m H →
      ((IteT K a).stop i H ∧ Qd H) ∨ ((IteT K a).go i H ∧ ∃ Nx : Hp → Prop, (∀ H', Nx H' → ∃ m', m' < m ∧ W (i + 1) m' H') ∧ ∀ x H', (IteT K a).yld i H x H' → g x (wipe σ vs) H' fun σ2 H2 => wipe σ2 vs = wipe σ vs ∧ tt σ2 H2 fun b H3 =>
        if b = true then te σ2 H3 fun y H4 => ∃ acc, H4 D = some (.lst acc) ∧ acc.length < sizeLine ∧ Nx (upd H4 D (.lst (acc ++ [y]))) else Nx H3)) := by
  rcases sq with sq | sq
  · refine .inl (lc_it (walk_enum (xs := xs)) Pv h0 (fun i H' hi p => SqL.ext sq (hG i H' hi p)) (fun i x H' H'' hi p y => ?_) hd)
    obtain ⟨T, y1, y2, rfl, hT, rfl, e1, e2⟩ := y
    cases e1
    exact hs i y2 H' T hi p e2 hT
  · refine .inr (lc_it (walk_enumT (xs := xs)) Pv h0 (fun i H' hi p => SqT.ext sq (hG i H' hi p)) (fun i x H' H'' hi p y => ?_) hd)
    obtain ⟨T, y1, y2, rfl, hT, rfl, e1, e2⟩ := y
    cases e1
    exact hs i y2 H' T hi p e2 hT
end L2

namespace L2
open PySem PySem.Spec PyProof.Rows
section
variable {X : Cx}
/-- *a, b, .. -/
theorem pgs_star {e : Expr} {es : List Expr} {t : TG} {u : TGs} {sp : Pos} (h1 : PG X e t) (h2 : PGs X es u)
    (hs : (assignEach (.Starred e sp :: es) X.env).map (·.2) = assign e X.env :: (assignEach es X.env).map (·.2) := by rfl) : PGs X (.Starred e sp :: es) (gCons t u) := by
  refine ⟨fun pins s σ H vs us Q I r h => ?_⟩
  obtain ⟨v, vr, e1, h⟩ := h
  subst e1
  cases r with
  | cons r rr =>
    rw [hs]
    refine assignInOrder_cons (thn (h1.run pins s σ H _ _ _ I r h) fun _ s1 ⟨σ1, H1, I1, q1⟩ => ?_)
    exact h2.run pins s1 σ1 H1 _ _ Q I1 rr q1
/-- a, *b, c = list -/
def gStar (K : PySem.W.Frag) (n i : Nat) (t : TGs) : TG := fun v σ H Q => ∃ a xs, v = .ref a ∧ SqL K H a xs ∧ n ≤ xs.length + 1 ∧ xs.length ≤ 16384 ∧
  ∀ D, H D = none → t (xs.take i ++ [.ref D] ++ (xs.drop i).drop (xs.length + 1 - n)) σ (upd H D (.lst ((xs.drop i).take (xs.length + 1 - n)))) Q
theorem pg_starL {es : List Expr} {k : Nat} {t : TGs} {n i : Nat} {pos : Pos} (hc : X.calm = true) (h : PGs X es t)
    (hn : (assignEach es X.env).length = n := by rfl) (hst : (assignEach es X.env).findIdx? (·.1) = some i := by rfl) (hi : i < n := by decide) : PG X (.Tuple es k pos) (gStar X.K n i t) := by
  refine ⟨fun pins s σ H v u Q I r hw => ?_⟩
  obtain ⟨a, xs, e1, hq, hl, hz', hw⟩ := hw
  subst e1
  cases r
  obtain ⟨its, rv, pl, hz⟩ := I.list hq
  have hlen := rv.length
  have hl' : s.heap.IsList a its.toArray := by
    obtain ⟨o, m, e, c, d, q⟩ := pl
    exact ⟨o, e, c, m, q⟩
  rw [PyProof.Rows.assign_Tuple]
  refine wpAny_bind (wpAny_standAt ?_)
  unfold unpack
  rw [hn, hst]
  have hlt : a ≠ s.heap.objs.size := by obtain ⟨o, ho, _⟩ := hl'; exact Nat.ne_of_lt (Heap.lt_size ho)
  have hll : a < s.heap.objs.size := by obtain ⟨o, ho, _⟩ := hl'; exact Heap.lt_size ho
  have hsz : its.toArray.size = xs.length := by simp [hlen]
  have hh := I.ok.hd hc
  refine wpAny_bind (wpAny_holding ?_)
  unfold unpackItems
  refine wpAny_bind ?_
  unfold notIterableAtAll
  refine wpAny_bind (wpAny_specialOf hl'.typeIs PySem.F.slot_list_iter.lookup ?_)
  refine wpAny_pure ?_
  simp only [Bool.false_eq_true, if_false]
  refine wpAny_bind (wpAny_holding (wpAny_pyIter_list hl' ?_))
  refine wpAny_bind (wpAny_holding (PySem.W.kun_draw hlt i 0 _ _ ⟨_, Heap.get?_push_size _ rfl, rfl, rfl⟩ (hl'.push _) (by omega) fun h₁ hit₁ hs₁ => ?_))
  have hl₁ : h₁.IsList a its.toArray := (hl'.push _).extBut hs₁.extBut hlt
  rw [Nat.zero_add] at hit₁
  have hit₁' := hit₁
  obtain ⟨oi, hoi, _⟩ := hit₁'
  have hl₁' := hl₁
  obtain ⟨ol, hol, _⟩ := hl₁'
  rw [List.drop_zero]
  have hfl : (its.toArray.toList.take i).length = i := by rw [List.length_take, Array.length_toList]; omega
  rw [if_neg (show ¬ ((its.toArray.toList.take i).length < i) by rw [hfl]; omega)]
  refine wpAny_bind (wpAny_holding (PySem.W.kun_collect (s := { s with heap := h₁ }) (T := "list_iterator") (.inr (.inr (.inl rfl))) (Walks.list (A := X.A.in1) hh s.heap.objs.size a hlt its.toArray) (fun j u st => st.1.typeIs) (k := i) (by omega) ⟨hit₁, hl₁⟩ (Heap.lt_size hoi) (Heap.lt_size hol) (fun h₂ tk hk => ?_) (by rw [sizeLine_eq]; omega)))
  have hrl : (its.toArray.toList.drop i).length = its.toArray.size - i := by rw [List.length_drop, Array.length_toList]
  have hmid : (its.toArray.toList.drop i).length - (n - 1 - i) = its.toArray.size + 1 - n := by rw [hrl]; omega
  show wpAny _ _ (if (its.toArray.toList.drop i).length < n - 1 - i then _ else _) _ _ _
  rw [if_neg (by rw [hrl]; omega)]
  show wpAny _ _ (newList ((its.toArray.toList.drop i).take ((its.toArray.toList.drop i).length - (n - 1 - i))) >>= fun d => pure (its.toArray.toList.take i ++ [d] ++ (its.toArray.toList.drop i).drop ((its.toArray.toList.drop i).length - (n - 1 - i)))) _ _ _
  rw [hmid]
  have he : ∀ b o, s.heap.get? b = some o → h₂.get? b = some o := fun b o e => by
    have hb := Nat.ne_of_lt (Heap.lt_size e)
    exact hk b o hb (hs₁.extBut b o hb (Heap.get?_push_of_some _ e))
  have I2 : Inv X pins σ H { s with heap := h₂, toks := tk } := I.kept (t' := tk) he
  refine wpAny_bind (wpAny_newList ?_ (by rw [List.length_take, hrl, sizeLine_eq]; omega))
  have hf : H h₂.objs.size = none := I2.hok.fresh (Nat.le_refl _)
  have et : its.toArray.toList = its := by simp
  have rmid : Vals ((xs.drop i).take (xs.length + 1 - n)) ((its.drop i).take (xs.length + 1 - n)) := (rv.drop i).take _
  have ml : ((xs.drop i).take (xs.length + 1 - n)).length ≤ sizeLine := by rw [List.length_take, List.length_drop, sizeLine_eq]; omega
  have I3 : Inv X pins σ (upd H h₂.objs.size (.lst ((xs.drop i).take (xs.length + 1 - n)))) { s with heap := h₂.push { cls := .type "list", data := .seq ((its.toArray.toList.drop i).take (its.toArray.size + 1 - n)).toArray }, toks := tk } := by
    refine I2.laid (t' := tk) (fun b u e => Heap.get?_push_of_some _ e) (Nat.le_refl _) ?_
    rw [hsz, et]
    exact ⟨ml, _, 0, rmid, Heap.get?_push_size _ rfl⟩
  refine wpAny_pure ?_
  refine h.run pins _ σ _ _ _ Q I3 ?_ (hw _ hf)
  rw [hsz, et]
  refine Vals.append (Vals.append (rv.take i) (.cons rfl .nil)) ?_
  exact (rv.drop i).drop _
end
end L2

namespace L2
open PySem PySem.Spec PyProof.Rows
/-! ### enumerate(list, k) -/
def IteF (K : PySem.W.Frag) (a : Addr) (k₀ : Int) : It :=
  ⟨fun i H => ∃ (xs : List V) (x : V), SqL K H a xs ∧ xs[i]? = some x, fun i H v H' => ∃ T x, v = .ref T ∧ H T = none ∧ H' = upd H T (.tup [.int (k₀ + (i : Nat)), x]) ∧ ∀ xs, SqL K H a xs → xs[i]? = some x, fun i H => ∃ xs : List V, SqL K H a xs ∧ xs.length = i⟩
theorem enumL_ne {h : Heap} {e it l : Addr} {i : Int} {old : Value} {items : Array Value} (he : IsEnum h e it i old) (hl : h.IsList l items) : l ≠ e := fun z => by
  obtain ⟨o, ho, _, n, hd⟩ := hl
  rw [z, he] at ho
  cases ho
  cases hd
theorem iterL_ne {h : Heap} {it l : Addr} {i : Nat} {items : Array Value} (hi : h.IsListIter it l i) (hl : h.IsList l items) : l ≠ it := fun z => by
  obtain ⟨o, ho, _, n, hd⟩ := hl
  obtain ⟨o2, ho2, _, hd2⟩ := hi
  rw [z, ho2] at ho
  cases ho
  rw [hd2] at hd
  cases hd
theorem turn_enumF {P : Program} {w : World} {K : PySem.W.Frag} {elts : List Expr} {kk : Nat} {tpos : Pos} (k₀ : Int) (a e it : Addr) :
    Turn P w K (.Tuple elts kk tpos) (IteF K a k₀) [e, it] e (fun i h => (∃ old, IsEnum h e it (k₀ + ((i : Nat) : Int)) old) ∧ h.IsListIter it a i ∧ e ≠ it) where
  mem := List.mem_cons_self
  obj := fun i h st b hb => by
    obtain ⟨⟨old, he⟩, ⟨o, ho, hc, hd⟩, _⟩ := st
    rcases List.mem_cons.mp hb with rfl | hb
    · exact ⟨_, he, fun v q => nomatch q⟩
    · rw [List.mem_singleton.mp hb]
      exact ⟨o, ho, fun v q => by rw [hd] at q; cases q⟩
  keep := fun i h h' st k => ⟨st.1.elim fun old z => ⟨old, k e List.mem_cons_self _ z⟩, st.2.1.at fun o q => k it (List.mem_cons_of_mem _ List.mem_cons_self) o q, st.2.2⟩
  item := by
    intro X hP hw hK hc i pins s σ H E I hf st hg
    subst hP hw hK
    obtain ⟨⟨old, he⟩, hit, hne⟩ := st
    obtain ⟨xs, x, hq, hx⟩ := hg
    obtain ⟨its, rv, p, hz⟩ := I.list hq
    obtain ⟨u, hu, ru⟩ := rv.get hx
    have pt : s.heap.IsList a its.toArray := p.isList
    have hel : e < s.heap.objs.size := Heap.lt_size he
    have hlen : i < its.toArray.size := by
      rw [List.size_toArray]
      exact (List.getElem?_eq_some_iff.mp hu).1
    refine wpAny_pyNext_enum_itemC (Draws.list (A := X.A.in1) (I.ok.hd hc) it a (iterL_ne hit pt) its.toArray) he ⟨hit, pt⟩ hlen hne (by
      intro z
      rcases List.mem_cons.mp z with z | z
      · exact hne z
      · exact enumL_ne he pt (List.mem_singleton.mp z).symm) fun y h' tk hy ho hit' hT hsz hk => ?_
    have ey : y = u := by
      rw [List.getElem?_toArray, hu] at hy
      exact (Option.some.inj hy).symm
    subst ey
    refine ⟨_, rfl, wpAny_letOwnedTupleGo_enum (s := { s with heap := h', toks := tk + 1 }) ho fun h'' he' sb => ?_⟩
    have hT2 : h''.get? s.heap.objs.size = some { cls := .type "tuple", data := .seq #[.int (k₀ + i) tk, y] } := (sb.2 _ (Nat.ne_of_gt hel)).trans hT
    have new : ObjOk X.prog X.w (upd H s.heap.objs.size (.tup [.int (k₀ + (i : Nat)), x])) h'' s.heap.objs.size (.tup [.int (k₀ + (i : Nat)), x]) :=
      ⟨Nat.le_of_ble_eq_true rfl, [.int (k₀ + i) tk, y], .cons ⟨_, rfl⟩ (.cons ru .nil), ⟨_, hT2, rfl, _, rfl⟩⟩
    have I1 : Inv X pins σ (upd H s.heap.objs.size (.tup [.int (k₀ + (i : Nat)), x])) { s with heap := h'', toks := tk + 1 } :=
      I.turnedNew (ch := [e, it]) (fun b ob hb q => (sb.2 b (fun z => hb (by simp [z]))).trans (hk b ob (fun z => hb (by simp [z])) (fun z => hb (by simp [z])) q)) hf (Nat.le_refl _) new
    have hfr : H s.heap.objs.size = none := I.hok.fresh (Nat.le_refl _)
    refine ⟨.ref s.heap.objs.size, _, I1, rfl, ⟨_, x, rfl, hfr, rfl, fun ys hy => by rw [I.list_inj hy hq]; exact hx⟩, ⟨⟨y, ?_⟩, hit'.1.at fun o q => (sb.2 it (Ne.symm hne)).trans q, hne⟩, fun b hb => ?_⟩
    · have e1 : k₀ + ((i + 1 : Nat) : Int) = k₀ + (i : Int) + 1 := by omega
      rw [e1]
      exact he'
    · have bl : b < s.heap.objs.size := by
        rcases List.mem_cons.mp hb with rfl | hb
        · exact hel
        · rw [List.mem_singleton.mp hb]
          obtain ⟨_, z, _⟩ := hit
          exact Heap.lt_size z
      rw [upd_ne (Nat.ne_of_lt bl)]
      exact (hf b hb).1
  done := by
    intro X hP hw hK hc i pins s σ H E I hf st hg
    subst hP hw hK
    obtain ⟨⟨old, he⟩, hit, hne⟩ := st
    obtain ⟨xs, hq, hx⟩ := hg
    obtain ⟨its, rv, p, hz⟩ := I.list hq
    obtain ⟨f0, f1, f2, f3, f4, f5⟩ := hf it (List.mem_cons_of_mem _ List.mem_cons_self)
    have pt : s.heap.IsList a its.toArray := p.isList
    have hn : its.toArray.size = i := by
      rw [List.size_toArray, ← rv.length]
      exact hx
    exact wpAny_pyNext_enum_endD (Draws.list (A := X.A.in1) (I.ok.hd hc) it a (iterL_ne hit pt) its.toArray) he (by rw [hn]; exact ⟨hit, pt⟩) fun h' eb => ⟨rfl, I.turned (t' := s.toks) (fun b o hb q => eb b o hb q) f0 f1 f3 f4 f5⟩
  self := fun A i s Q E st h => st.1.elim fun _ he => wpAny_pyIter_enum he h
def iEnumF (K : PySem.W.Frag) (ta : TA) : TI := fun σ H R => ta σ H fun vs H1 => ∃ (a : Addr) (xs : List V) (k₀ : Int), vs = [.ref a, .int k₀] ∧ -(2 ^ 63) ≤ k₀ ∧ k₀ < 2 ^ 63 ∧ SqL K H1 a xs ∧ R (IteF K a k₀) H1
theorem pi_enumF {X : Cx} {e1 e2 : Expr} {ta : TA} {p pos tpos : Pos} {elts : List Expr} {kk : Nat} (hg : Gl X "enumerate") (hm : X.mg "enumerate" = none) (ha : PA X [e1, e2] ta) (hs : starEach [e1, e2] X.env = [(false, eval e1 X.env), (false, eval e2 X.env)] := by rfl) (hs2 : starEach [e2] X.env = [(false, eval e2 X.env)] := by rfl) :
    PI X (.Tuple elts kk tpos) (.Call (.Name "enumerate" p) [e1, e2] [] pos) (iEnumF X.K ta) := by
  refine ⟨fun pins s σ H R I h => ?_⟩
  refine Call_ (ld_blt I hg hm boot_enumerate (PyProof.Rows.callWith_type1 (thn (ha.run pos pins s σ H _ I h) fun us s1 ⟨vs, H1, I1, r1, q1⟩ => ?_) (by rw [hs, hs2]) (by rw [hs2]; rfl)))
  obtain ⟨a, xs, k₀, rfl, k0, k1, hq, q⟩ := q1
  obtain ⟨u, v, rfl, ru, rv'⟩ := r1.two
  cases ru
  obtain ⟨tk, rfl⟩ := rv'
  have young : ∀ b, b ∈ [s1.heap.objs.size + 1, s1.heap.objs.size] → s1.heap.objs.size ≤ b := fun b hb => by
    rcases List.mem_cons.mp hb with z | z
    · rw [z]; exact Nat.le_add_right _ _
    · rw [List.mem_singleton.mp z]; exact Nat.le_refl _
  obtain ⟨its, rv, p', hz⟩ := I1.list hq
  refine enum_begins (begins_list a its.toArray) p'.isList k0 k1 fun h' he hit _ hk => wpAny_pyIter_enum he ?_
  exact ⟨s1.heap.objs.size + 1, [s1.heap.objs.size + 1, s1.heap.objs.size], _, _, H1, rfl, I1.kept (t' := s1.toks) hk, turn_enumF k₀ a (s1.heap.objs.size + 1) s1.heap.objs.size, ⟨⟨.none, by rw [show k₀ + ((0 : Nat) : Int) = k₀ by omega]; exact he⟩, ⟨_, hit, rfl, rfl⟩, Nat.succ_ne_self _⟩, fun b hb => I1.fpOk (young b hb) (I1.hok.fresh (young b hb)), q⟩
theorem walk_enumF {K : PySem.W.Frag} {a : Addr} {xs : List V} {k₀ : Int} : Walk (IteF K a k₀) xs.length (fun H => SqL K H a xs) (YPair (fun i => some (.int (k₀ + (i : Nat)))) (fun i => xs[i]?)) := by
  refine ⟨fun i _ hi q => ⟨xs, xs[i], q, by simp [hi]⟩, fun _ q => ⟨xs, q, rfl⟩, fun i H v H' _ q y => ?_⟩
  obtain ⟨T, x, h1, h2, h3, h4⟩ := y
  exact ⟨T, .int (k₀ + (i : Nat)), x, h1, h2, h3, rfl, h4 xs q⟩
end L2

namespace L2
open PySem PySem.Spec PyProof.Rows
section
variable {X : Cx}
/-- len of a dict that is read, maybe locked -/
theorem call_lenDR : CallR X (.builtin "len") (fun xs H Q => ∃ a kvs, xs = [V.ref a] ∧ Rd H a (.dK kvs) ∧ Q (.int kvs.length) H) := by
  intro pins s σ H xs us Q I r h
  obtain ⟨a, kvs, rfl, ha, q⟩ := h
  obtain ⟨u, rfl, ru⟩ := vals1 r
  cases ru
  exact d_len I ha fun t s' I' => ⟨.int kvs.length, H, I', ⟨t, rfl⟩, q⟩
/-- name = {..} on one line, the name a local -/
theorem ps_setDc {i : Nat} {y : Str} {py : Pos} {kx vx tg iter : Expr} {ifs : List Expr} {scope : Scope} {own : List (Str × Nat)} {pos spos : Pos} {wi : TI} {g : TG} {tt : TT} {tk tv : TE} (hc : X.calm = true) (hN : X.N.Nodup) (hy : X.N[i]? = some y) (hyl : X.env.scope.names.lookup y = some .local)
    (hsw : swapsWith (.DictComp kx vx [⟨tg, iter, ifs, 0⟩] scope pos) (some (.Name y py)) spos.line X.env = pure true) (hi : PI X tg iter wi) (ok : BlkOk X.N X.env.scope scope own)
    (hg : ∀ (s : Shared) (H : Hp) (C : Addr) (cl : List (Str × Addr)) (fp : List Addr), PG (X.blk s H scope (compEnvC scope cl C X.env) fp) tg g) (ht : ∀ (s : Shared) (H : Hp) (C : Addr) (cl : List (Str × Addr)) (fp : List Addr), PTs (X.blk s H scope (compEnvC scope cl C X.env) fp) ifs tt)
    (hk : ∀ (s : Shared) (H : Hp) (C : Addr) (cl : List (Str × Addr)) (fp : List Addr), PE (X.blk s H scope (compEnvC scope cl C X.env) fp) kx tk)
    (he : ∀ (s : Shared) (H : Hp) (C : Addr) (cl : List (Str × Addr)) (fp : List Addr), PE (X.blk s H scope (compEnvC scope cl C X.env) fp) vx tv) (hs : ∀ x, foldedSetIterable iter X.env x = pure x := by intro _; rfl) :
    PS X (.Assign [.Name y py] (.DictComp kx vx [⟨tg, iter, ifs, 0⟩] scope pos) spos) (tAsg (tDc wi g tt tk tv (own.map (·.2))) (gName i)) := by
  refine ⟨fun pins s σ H D I h => ?_⟩
  rw [exec_Assign_Name_used _ _ _ _ hsw]
  refine wpAny_bind (wpAny_standAt (wpAny_bind ?_))
  show wpAny _ X.A (do let _ ← comprehension (.DictComp kx vx [⟨tg, iter, ifs, 0⟩] scope pos) scope X.env (firstIterPos [⟨tg, iter, ifs, 0⟩] pos) newDict false (eval iter X.env) (some (assign (.Name y py) X.env))) _ _ s
  have h : tDc wi g tt tk tv (own.map (·.2)) σ H (fun x H1 => gName i x σ H1 D.nx) := h
  refine wpAny_bind (thn (dc_core (Qf := fun _ s' => SP X pins D .next s') hc hN I hi ok hg ht hk he hs h fun L C s' m H' I' q hn f => ?_) fun _ s' hq => wpAny_pure (wpAny_pure hq))
  show wpAny _ _ (assign (.Name y py) X.env (.ref L)) _ _ _
  refine wpAny_assign_Name (store_ok2 (v := V.ref L) I' hN hy (.inl hyl) rfl (fun s2 I2 ⟨a, sb, ha⟩ => ?_) (.inr hyl))
  obtain ⟨f0, f1, f2, f3, f4, f5⟩ := f
  have haC : C ≠ a := by
    rcases ha with z | z
    · rw [z]; exact f1
    · exact fun e => f4 y a z e.symm
  refine ⟨m, hn.sameBut sb haC, fun h3 sb3 => ?_⟩
  exact ⟨_, H', I2.turned (t' := s2.toks) (fun b o hb e => (sb3.2 b hb).trans e) f0 f1 f3 f4 f5, q⟩
theorem sw_trueD {kx vx : Expr} {gs : List Comprehension} {scope : Scope} {pos py : Pos} {y : Str} {l : Nat} {env : Env} (hk : env.scope.kind = .function) (hy : env.scope.names.lookup y = some .local) (hl : (py.line == pos.line) = true)
    (ha : (scope.names.any fun (n, k) => n == y && (k == .local || k == .cell)) = false) : swapsWith (.DictComp kx vx gs scope pos) (some (.Name y py)) l env = pure true := by
  have ky : env.kindOf y = some .local := hy
  have hb : env.blockKind = .function := by unfold Env.blockKind; rw [hk]; rfl
  unfold swapsWith
  simp only [hb, ky, ha, Expr.pos, hl]
  rfl
end
end L2

namespace L2
open PySem PySem.Spec PyProof.Rows
theorem piK {X : Cx} {tg l : Expr} {r : PySem.W.Frag → TI} {K : PySem.W.Frag} (e : X.K = K) (h : PI X tg l (r X.K)) : PI X tg l (r K) := e ▸ h
end L2
namespace My
open PySem PySem.Spec PyProof.Rows L2
/-- the names of a comprehension's block, seen from a block within -/
def relabelS (scope sc : Scope) : Scope := { scope with names := scope.names.map fun (n, k) => if (k == .free && sc.kind == .function && sc.names.lookup n == some .cell) then (n, .cell) else (n, k) }
theorem iteT' {c : Bool} {p q : Prop} (e : c = true) (h : p) : if c = true then p else q := by rw [if_pos e]; exact h
theorem iteF' {c : Bool} {p q : Prop} (e : c = false) (h : q) : if c = true then p else q := by rw [if_neg (by rw [e]; exact Bool.false_ne_true)]; exact h
theorem tor_pure {A B : TT} {σ : L2.St} {H : Hp} {a b : Bool} {Q : Bool → Hp → Prop} (ha : ∀ Q : Bool → Hp → Prop, Q a H → A σ H Q) (hb : ∀ Q : Bool → Hp → Prop, Q b H → B σ H Q) (q : Q (a || b) H) : tOr A B σ H Q := by
  refine ha _ ?_
  cases a with
  | true => exact q
  | false => exact hb _ q
theorem tand_pure {A B : TT} {σ : L2.St} {H : Hp} {a b : Bool} {Q : Bool → Hp → Prop} (ha : ∀ Q : Bool → Hp → Prop, Q a H → A σ H Q) (hb : ∀ Q : Bool → Hp → Prop, Q b H → B σ H Q) (q : Q (a && b) H) : tAnd A B σ H Q := by
  refine ha _ ?_
  cases a with
  | false => exact q
  | true => exact hb _ q
/-! ### sieves of lists of texts -/
/-- what a comprehension over texts does that only makes objects: those of p, told by h -/
theorem lc_selL {K : PySem.W.Frag} {a : Addr} {zs : List Str} {g : TG} {tt : TT} {te : TE} {vs : List Nat} {σ : L2.St} {H1 : Hp} {D : Addr} {Qd : Hp → Prop} (p : Str → Bool) (h : Str → V) (hD : H1 D = none) (sq : SqL K H1 a (zs.map V.str)) (len : zs.length < sizeLine)
    (hs : ∀ z H' (Z : V → Hp → Prop) (N : Hp → Prop), z ∈ zs → Ext H1 H' → (∀ H3, Ext H' H3 → p z = true → Z (h z) H3) → (∀ H3, Ext H' H3 → p z = false → N H3) → g (.str z) (wipe σ vs) H' fun σ2 H2 => wipe σ2 vs = wipe σ vs ∧ tt σ2 H2 fun b H3 => if b = true then te σ2 H3 Z else N H3)
    (hd : ∀ H', Ext H1 H' → H' D = some (.lst ((zs.filter p).map h)) → Qd H') :
    ∃ W : Nat → Nat → Hp → Prop, (∃ m, W 0 m (upd H1 D (.lst []))) ∧ ∀ i m H, W i m H →
      ((Itl K a).stop i H ∧ Qd H) ∨ ((Itl K a).go i H ∧ ∃ Nx : Hp → Prop, (∀ H', Nx H' → ∃ m', m' < m ∧ W (i + 1) m' H') ∧ ∀ x H', (Itl K a).yld i H x H' → g x (wipe σ vs) H' fun σ2 H2 => wipe σ2 vs = wipe σ vs ∧ tt σ2 H2 fun b H3 =>
        if b = true then te σ2 H3 fun y H4 => ∃ acc, H4 D = some (.lst acc) ∧ acc.length < sizeLine ∧ Nx (upd H4 D (.lst (acc ++ [y]))) else Nx H3) := by
  refine lc_list (K := K) (a := a) (xs := zs.map V.str) (fun k H' => Ext H1 H' ∧ H' D = some (.lst (((zs.take k).filter p).map h))) ⟨Ext.upd hD, upd_same⟩ (fun k H' _ w => sq.ext w.1) ?_ ?_
  · rintro i v H' hv ⟨x, d⟩
    obtain ⟨z, hz, rfl⟩ := strs_at hv
    have tk : zs.take (i + 1) = zs.take i ++ [z] := by
      rw [List.take_add_one, hz]
      rfl
    have zl := (List.getElem?_eq_some_iff.mp hz).1
    refine hs z H' _ _ (List.mem_of_getElem? hz) x (fun H3 x3 e => ?_) (fun H3 x3 e => ?_)
    · refine ⟨_, x3 _ _ d, ?_, (x.trans x3).over hD, ?_⟩
      · rw [List.length_map]
        refine Nat.lt_of_le_of_lt (List.length_filter_le _ _) ?_
        rw [List.length_take]
        omega
      · rw [upd_same, tk, List.filter_append, List.filter_cons, if_pos e, List.map_append]
        rfl
    · refine ⟨x.trans x3, ?_⟩
      rw [x3 _ _ d, tk, List.filter_append, List.filter_cons, if_neg (by rw [e]; exact Bool.false_ne_true), List.filter_nil, List.append_nil]
  · rintro H' ⟨x, d⟩
    rw [List.length_map, List.take_length] at d
    exact hd H' x d
theorem lc_selT {K : PySem.W.Frag} {a : Addr} {zs : List Str} {g : TG} {tt : TT} {te : TE} {vs : List Nat} {σ : L2.St} {H1 : Hp} {D : Addr} {Qd : Hp → Prop} (p : Str → Bool) (h : Str → V) (hD : H1 D = none) (sq : SqT K H1 a (zs.map V.str)) (len : zs.length < sizeLine)
    (hs : ∀ z H' (Z : V → Hp → Prop) (N : Hp → Prop), z ∈ zs → Ext H1 H' → (∀ H3, Ext H' H3 → p z = true → Z (h z) H3) → (∀ H3, Ext H' H3 → p z = false → N H3) → g (.str z) (wipe σ vs) H' fun σ2 H2 => wipe σ2 vs = wipe σ vs ∧ tt σ2 H2 fun b H3 => if b = true then te σ2 H3 Z else N H3)
    (hd : ∀ H', Ext H1 H' → H' D = some (.lst ((zs.filter p).map h)) → Qd H') :
    ∃ W : Nat → Nat → Hp → Prop, (∃ m, W 0 m (upd H1 D (.lst []))) ∧ ∀ i m H, W i m H →
      ((Itt K a).stop i H ∧ Qd H) ∨ ((Itt K a).go i H ∧ ∃ Nx : Hp → Prop, (∀ H', Nx H' → ∃ m', m' < m ∧ W (i + 1) m' H') ∧ ∀ x H', (Itt K a).yld i H x H' → g x (wipe σ vs) H' fun σ2 H2 => wipe σ2 vs = wipe σ vs ∧ tt σ2 H2 fun b H3 =>
        if b = true then te σ2 H3 fun y H4 => ∃ acc, H4 D = some (.lst acc) ∧ acc.length < sizeLine ∧ Nx (upd H4 D (.lst (acc ++ [y]))) else Nx H3) := by
  refine lc_tup (K := K) (a := a) (xs := zs.map V.str) (fun k H' => Ext H1 H' ∧ H' D = some (.lst (((zs.take k).filter p).map h))) ⟨Ext.upd hD, upd_same⟩ (fun k H' _ w => sq.ext w.1) ?_ ?_
  · rintro i v H' hv ⟨x, d⟩
    obtain ⟨z, hz, rfl⟩ := strs_at hv
    have tk : zs.take (i + 1) = zs.take i ++ [z] := by
      rw [List.take_add_one, hz]
      rfl
    have zl := (List.getElem?_eq_some_iff.mp hz).1
    refine hs z H' _ _ (List.mem_of_getElem? hz) x (fun H3 x3 e => ?_) (fun H3 x3 e => ?_)
    · refine ⟨_, x3 _ _ d, ?_, (x.trans x3).over hD, ?_⟩
      · rw [List.length_map]
        refine Nat.lt_of_le_of_lt (List.length_filter_le _ _) ?_
        rw [List.length_take]
        omega
      · rw [upd_same, tk, List.filter_append, List.filter_cons, if_pos e, List.map_append]
        rfl
    · refine ⟨x.trans x3, ?_⟩
      rw [x3 _ _ d, tk, List.filter_append, List.filter_cons, if_neg (by rw [e]; exact Bool.false_ne_true), List.filter_nil, List.append_nil]
  · rintro H' ⟨x, d⟩
    rw [List.length_map, List.take_length] at d
    exact hd H' x d
/-- over a list or a tuple that a local tells -/
theorem lc_seq {K : PySem.W.Frag} {i : Nat} {l : Addr} {zs : List Str} {g : TG} {tt : TT} {te : TE} {vs : List Nat} {σ : L2.St} {H1 : Hp} {Q : VK} (p : Str → Bool) (h : Str → V) (hv : σ[i]? = some (some (.ref l))) (sq : SeqAt2 K H1 l (zs.map V.str)) (len : zs.length < sizeLine)
    (hs : ∀ z H' (Z : V → Hp → Prop) (N : Hp → Prop), z ∈ zs → Ext H1 H' → (∀ H3, Ext H' H3 → p z = true → Z (h z) H3) → (∀ H3, Ext H' H3 → p z = false → N H3) → g (.str z) (wipe σ vs) H' fun σ2 H2 => wipe σ2 vs = wipe σ vs ∧ tt σ2 H2 fun b H3 => if b = true then te σ2 H3 Z else N H3)
    (hd : ∀ D H', H1 D = none → Ext H1 H' → H' D = some (.lst ((zs.filter p).map h)) → Q (.ref D) H') :
    tLc (fun σ H R => iList K (tVar i) σ H R ∨ iTup K (tVar i) σ H R) g tt te vs σ H1 Q := by
  rcases sq with sq | sq
  · exact .inl ⟨_, hv, l, rfl, ⟨_, sq⟩, fun D hD => lc_selL p h hD sq len hs fun H' x d => hd D H' hD x d⟩
  · exact .inr ⟨_, hv, l, rfl, ⟨_, sq⟩, fun D hD => lc_selT p h hD sq len hs fun H' x d => hd D H' hD x d⟩
theorem map_bl {zs : List Str} (b : Str → Bool) : (zs.filter fun _ => true).map (fun z => V.bl (b z)) = (zs.map b).map V.bl := by
  rw [List.map_map, List.filter_eq_self.mpr fun _ _ => rfl]
  rfl
theorem any_map {zs : List Str} (b : Str → Bool) : (zs.map b).any id = zs.any b := by
  rw [List.any_map]
  rfl
/-- truths of a list's items -/
theorem lc_boolL {K : PySem.W.Frag} {a : Addr} {zs : List Str} {g : TG} {tt : TT} {te : TE} {vs : List Nat} {σ : L2.St} {H1 : Hp} {D : Addr} {Qd : Hp → Prop} (b : Str → Bool) (hD : H1 D = none) (sq : SqL K H1 a (zs.map V.str)) (len : zs.length < sizeLine)
    (hs : ∀ z H' (Z : V → Hp → Prop) (N : Hp → Prop), z ∈ zs → Ext H1 H' → (∀ H3, Ext H' H3 → Z (.bl (b z)) H3) → g (.str z) (wipe σ vs) H' fun σ2 H2 => wipe σ2 vs = wipe σ vs ∧ tt σ2 H2 fun b H3 => if b = true then te σ2 H3 Z else N H3)
    (hd : ∀ H', Ext H1 H' → H' D = some (.lst ((zs.map b).map V.bl)) → Qd H') :
    ∃ W : Nat → Nat → Hp → Prop, (∃ m, W 0 m (upd H1 D (.lst []))) ∧ ∀ i m H, W i m H →
      ((Itl K a).stop i H ∧ Qd H) ∨ ((Itl K a).go i H ∧ ∃ Nx : Hp → Prop, (∀ H', Nx H' → ∃ m', m' < m ∧ W (i + 1) m' H') ∧ ∀ x H', (Itl K a).yld i H x H' → g x (wipe σ vs) H' fun σ2 H2 => wipe σ2 vs = wipe σ vs ∧ tt σ2 H2 fun b H3 =>
        if b = true then te σ2 H3 fun y H4 => ∃ acc, H4 D = some (.lst acc) ∧ acc.length < sizeLine ∧ Nx (upd H4 D (.lst (acc ++ [y]))) else Nx H3) :=
  lc_selL (fun _ => true) (fun z => .bl (b z)) hD sq len (fun z H' Z N hz x yes _ => hs z H' Z N hz x fun H3 x3 => yes H3 x3 rfl) fun H' x d => hd H' x (by rw [d, map_bl])
theorem lc_seqB {K : PySem.W.Frag} {i : Nat} {l : Addr} {zs : List Str} {g : TG} {tt : TT} {te : TE} {vs : List Nat} {σ : L2.St} {H1 : Hp} {Q : VK} (b : Str → Bool) (hv : σ[i]? = some (some (.ref l))) (sq : SeqAt2 K H1 l (zs.map V.str)) (len : zs.length < sizeLine)
    (hs : ∀ z H' (Z : V → Hp → Prop) (N : Hp → Prop), z ∈ zs → Ext H1 H' → (∀ H3, Ext H' H3 → Z (.bl (b z)) H3) → g (.str z) (wipe σ vs) H' fun σ2 H2 => wipe σ2 vs = wipe σ vs ∧ tt σ2 H2 fun b H3 => if b = true then te σ2 H3 Z else N H3)
    (hd : ∀ D H', H1 D = none → Ext H1 H' → H' D = some (.lst ((zs.map b).map V.bl)) → Q (.ref D) H') :
    tLc (fun σ H R => iList K (tVar i) σ H R ∨ iTup K (tVar i) σ H R) g tt te vs σ H1 Q :=
  lc_seq (fun _ => true) (fun z => .bl (b z)) hv sq len (fun z H' Z N hz x yes _ => hs z H' Z N hz x fun H3 x3 => yes H3 x3 rfl) fun D H' hD x d => hd D H' hD x (by rw [d, map_bl])
theorem ixs {K : PySem.W.Frag} {H : Hp} {l : Addr} {xs : List V} {i : Int} {v : V} {Q : VK} (s : SeqAt2 K H l xs) (a : atI xs i = some v) (q : Q v H) : rIxL K (.ref l) (.int i) H Q ∨ rIxT K (.ref l) (.int i) H Q :=
  s.elim (fun s => .inl ⟨l, xs, i, v, rfl, rfl, s, a, q⟩) fun s => .inr ⟨l, xs, i, v, rfl, rfl, s, a, q⟩
theorem seq2_ext {K : PySem.W.Frag} {H H' : Hp} {l : Addr} {xs : List V} (s : SeqAt2 K H l xs) (e : Ext H H') : SeqAt2 K H' l xs := s.elim (fun z => .inl (z.ext e)) fun z => .inr (z.ext e)
/-! ### dicts from texts to lists of texts -/
theorem set_newG {d : Dic} {z : Str} {v : V} (h : z ∉ d.map (·.1)) : setD d z v = d ++ [(z, v)] := by
  unfold setD
  have e : ¬ (d.any fun p => decide (p.1 = z)) = true := fun e => by
    obtain ⟨p, hp, e⟩ := List.any_eq_true.mp e
    exact h (List.mem_map.mpr ⟨p, hp, of_decide_eq_true e⟩)
  rw [if_neg e]
theorem getD_none {d : Dic} {z : Str} (h : z ∉ d.map (·.1)) : getD d z = none := by
  unfold getD
  rw [Option.map_eq_none_iff, List.find?_eq_none]
  intro p hp e
  exact h (List.mem_map.mpr ⟨p, hp, of_decide_eq_true e⟩)
theorem getD_app {d : Dic} {z y : Str} {v : V} (h : z ∉ d.map (·.1)) : getD (d ++ [(z, v)]) y = if z = y then some v else getD d y := by
  unfold getD
  rw [List.find?_append]
  by_cases e : z = y
  · subst e
    have : (d.find? fun p => decide (p.1 = z)) = none := by
      rw [List.find?_eq_none]
      intro p hp e
      exact h (List.mem_map.mpr ⟨p, hp, of_decide_eq_true e⟩)
    rw [this, if_pos rfl]
    simp
  · rw [if_neg e]
    simp [e]
theorem getD_key {d : Dic} {z : Str} {v : V} (h : getD d z = some v) : z ∈ d.map (·.1) := Classical.byContradiction fun n => by
  rw [getD_none n] at h
  cases h
/-- the dict d at D, its values lists: those of f for the keys ks -/
def GrpD (d : Dic) (H : Hp) (D : Addr) (ks : List Str) (f : Str → List Str) : Prop := H D = some (.dK (kd d)) ∧ d.map (·.1) = ks ∧ (∀ k, k ∈ ks → ∃ l, getD d k = some (.ref l) ∧ H l = some (.lst ((f k).map V.str))) ∧ ∀ k m l, getD d k = some (.ref l) → getD d m = some (.ref l) → k = m
def Grp (H : Hp) (D : Addr) (ks : List Str) (f : Str → List Str) : Prop := ∃ d, GrpD d H D ks f
theorem GrpD.ext {d : Dic} {H H' : Hp} {D : Addr} {ks : List Str} {f : Str → List Str} (h : GrpD d H D ks f) (e : Ext H H') : GrpD d H' D ks f := ⟨e _ _ h.1, h.2.1, fun k hk => by
  obtain ⟨l, h1, h2⟩ := h.2.2.1 k hk
  exact ⟨l, h1, e _ _ h2⟩, h.2.2.2⟩
theorem Grp.ext {H H' : Hp} {D : Addr} {ks : List Str} {f : Str → List Str} (h : Grp H D ks f) (e : Ext H H') : Grp H' D ks f := by
  obtain ⟨d, h⟩ := h
  exact ⟨d, h.ext e⟩
theorem GrpD.app {d : Dic} {H : Hp} {D : Addr} {ks : List Str} {f : Str → List Str} {k : Str} {l : Addr} {x : Str} (h : GrpD d H D ks f) (hl : getD d k = some (.ref l)) :
    GrpD d (L2.upd H l (.lst ((f k ++ [x]).map V.str))) D ks (fun n => if n = k then f n ++ [x] else f n) := by
  obtain ⟨h1, h2, h3, h4⟩ := h
  have hk : k ∈ ks := h2 ▸ getD_key hl
  obtain ⟨l', e1, e2⟩ := h3 k hk
  rw [hl] at e1
  injection e1 with e1
  injection e1 with e1
  subst e1
  have nD : D ≠ l := fun e => by
    rw [← e, h1] at e2
    cases e2
  refine ⟨by rw [upd_ne nD]; exact h1, h2, fun n hn => ?_, h4⟩
  by_cases e : n = k
  · subst e
    refine ⟨l, hl, ?_⟩
    dsimp only
    rw [upd_same, if_pos rfl]
  · obtain ⟨l', g1, g2⟩ := h3 n hn
    refine ⟨l', g1, ?_⟩
    dsimp only
    rw [if_neg e, upd_ne fun e' => e (h4 n k l (by rw [← e']; exact g1) hl)]
    exact g2
theorem GrpD.congr {d : Dic} {H : Hp} {D : Addr} {ks : List Str} {f g : Str → List Str} (h : GrpD d H D ks f) (e : ∀ k, k ∈ ks → f k = g k) : GrpD d H D ks g := ⟨h.1, h.2.1, fun k hk => by
  obtain ⟨l, h1, h2⟩ := h.2.2.1 k hk
  exact ⟨l, h1, by rw [← e k hk]; exact h2⟩, h.2.2.2⟩
theorem GrpD.get {d : Dic} {H : Hp} {D : Addr} {ks : List Str} {f : Str → List Str} (h : GrpD d H D ks f) {k : Str} (hk : k ∈ ks) : ∃ l, getD d k = some (.ref l) ∧ H l = some (.lst ((f k).map V.str)) := h.2.2.1 k hk
/-- looked up -/
theorem grp_get {H : Hp} {D : Addr} {ks : List Str} {f : Str → List Str} (h : Grp H D ks f) {k : Str} (hk : k ∈ ks) : ∃ l, DGet H D (.str k) (some (.ref l)) ∧ H l = some (.lst ((f k).map V.str)) := by
  obtain ⟨d, h1, h2, h3, h4⟩ := h
  obtain ⟨l, g1, g2⟩ := h3 k hk
  exact ⟨l, .inl ⟨_, Sum.inr k, .inl h1, rfl, by rw [val_kd, g1]⟩, g2⟩
theorem grp_has {H : Hp} {D : Addr} {ks : List Str} {f : Str → List Str} (h : Grp H D ks f) (k : Str) : ∃ o, DGet H D (.str k) o ∧ o.isSome = decide (k ∈ ks) := by
  obtain ⟨d, h1, h2, h3, h4⟩ := h
  refine ⟨getD d k, .inl ⟨_, Sum.inr k, .inl h1, rfl, (val_kd _ _).symm⟩, ?_⟩
  by_cases hk : k ∈ ks
  · obtain ⟨l, g1, g2⟩ := h3 k hk
    rw [g1, decide_eq_true hk]
    rfl
  · rw [getD_none (by rw [h2]; exact hk), decide_eq_false hk]
    rfl
end My

namespace My
open PySem PySem.Spec PyProof.Rows L2
def spSteps (K : PySem.W.Frag) (CF C : Addr) : Sp := fun vs H Q _ => ∃ a fo th rows, vs = [.ref a] ∧ FacAt H K CF C a fo th rows ∧ (fo ++ th).Nodup ∧ (fo ++ th).length < 1000 ∧ FactR fo th rows ∧ rows.length < 1000 ∧
  ∀ D H', Ext H H' → H D = none → Grp H' D (fo ++ th) (stpS rows) → Q (.ref D) H'
def spBars (K : PySem.W.Frag) (CF C : Addr) : Sp := fun vs H Q _ => ∃ a fo th rows, vs = [.ref a] ∧ FacAt H K CF C a fo th rows ∧ (fo ++ th).Nodup ∧ (fo ++ th).length < 1000 ∧ FactR fo th rows ∧ rows.length < 1000 ∧
  ∀ D H', Ext H H' → H D = none → Grp H' D fo (barS rows) → Q (.ref D) H'
/-- the lists made for the keys -/
def GrpN (H0 H : Hp) (D : Addr) (ks : List Str) : Prop := ∃ d, GrpD d H D ks (fun _ => []) ∧ (∀ k l, getD d k = some (.ref l) → H0 l = none)
theorem GrpN.nil {H : Hp} {D : Addr} : GrpN H (L2.upd H D (.dK [])) D [] := ⟨[], ⟨upd_same, rfl, (fun k hk => nomatch hk), (fun k m l hk => nomatch hk)⟩, (fun k l hk => nomatch hk)⟩
theorem GrpN.snoc {H0 H : Hp} {D l : Addr} {ks : List Str} {z : Str} (x : Ext H0 H) (h : GrpN H0 H D ks) (nz : z ∉ ks) (hl : H l = none) : ∃ d : Dic, H D = some (.dK (kd d)) ∧ d.length = ks.length ∧
    GrpN H0 (L2.upd (L2.upd H l (.lst [])) D (.dK (putK (kd d) (Sum.inr z) (.ref l)))) D (ks ++ [z]) := by
  obtain ⟨d, ⟨h1, h2, h3, h4⟩, h5⟩ := h
  have nd : z ∉ d.map (·.1) := by rw [h2]; exact nz
  have nlD : l ≠ D := fun e => by rw [e, h1] at hl; cases hl
  have gnew : ∀ k m, getD d k = some (.ref m) → m ≠ l := fun k m hk e => by
    have hk' : k ∈ ks := h2 ▸ getD_key hk
    obtain ⟨m', e1, e2⟩ := h3 k hk'
    rw [hk] at e1
    injection e1 with e1
    injection e1 with e1
    rw [← e1, e, hl] at e2
    cases e2
  refine ⟨d, h1, by rw [← h2, List.length_map], d ++ [(z, .ref l)], ⟨by rw [upd_same, put_kd, set_newG nd], by rw [List.map_append, h2]; rfl, fun k hk => ?_, fun k m l' hk hm => ?_⟩, fun k l' hk => ?_⟩
  · rw [getD_app nd]
    by_cases e : z = k
    · rw [if_pos e]
      exact ⟨l, rfl, by rw [upd_ne nlD, upd_same]; rfl⟩
    · rw [if_neg e]
      have hk' : k ∈ ks := (List.mem_append.mp hk).resolve_right fun m => e (List.mem_singleton.mp m).symm
      obtain ⟨m, e1, e2⟩ := h3 k hk'
      have nm := gnew k m e1
      have nD : m ≠ D := fun e => by rw [e, h1] at e2; cases e2
      exact ⟨m, e1, by rw [upd_ne nD, upd_ne nm]; exact e2⟩
  · rw [getD_app nd] at hk hm
    by_cases e : z = k
    · rw [if_pos e] at hk
      injection hk with hk
      injection hk with hk
      by_cases e' : z = m
      · exact e.symm.trans e'
      · rw [if_neg e'] at hm
        exact absurd hk.symm (gnew m l' hm)
    · rw [if_neg e] at hk
      by_cases e' : z = m
      · rw [if_pos e'] at hm
        injection hm with hm
        injection hm with hm
        exact absurd hm.symm (gnew k l' hk)
      · rw [if_neg e'] at hm
        exact h4 k m l' hk hm
  · rw [getD_app nd] at hk
    by_cases e : z = k
    · rw [if_pos e] at hk
      injection hk with hk
      injection hk with hk
      rw [← hk]
      exact ext_none x hl
    · rw [if_neg e] at hk
      exact h5 k l' hk
/-- within the loop over the facts -/
structure GLoop (K : PySem.W.Frag) (d : Dic) (H0 H : Hp) (D l : Addr) (ys : List V) (rows : List (List Str)) (ks : List Str) (f : Str → List Str) : Prop where
  x : Ext H0 H
  g : GrpD d H D ks f
  hl : H l = some (.lst ys)
  r : Rows K H ys rows
  n0 : ∀ k m, getD d k = some (.ref m) → H0 m = none
  nl : ∀ k, getD d k ≠ some (.ref l)
theorem GLoop.app {K : PySem.W.Frag} {d : Dic} {H0 H : Hp} {D l m : Addr} {ys : List V} {rows : List (List Str)} {ks : List Str} {f : Str → List Str} {k x : Str} (h : GLoop K d H0 H D l ys rows ks f) (hm : getD d k = some (.ref m)) (hx : H m = some (.lst ((f k).map V.str))) :
    GLoop K d H0 (L2.upd H m (.lst ((f k).map V.str ++ [.str x]))) D l ys rows ks (fun n => if n = k then f n ++ [x] else f n) := by
  have e : (f k).map V.str ++ [V.str x] = (f k ++ [x]).map V.str := by rw [List.map_append]; rfl
  rw [e]
  refine ⟨h.x.over (h.n0 k m hm), h.g.app hm, ?_, h.r.upd hx, h.n0, h.nl⟩
  rw [upd_ne fun e => h.nl k (by rw [e]; exact hm)]
  exact h.hl
theorem GLoop.congr {K : PySem.W.Frag} {d : Dic} {H0 H : Hp} {D l : Addr} {ys : List V} {rows : List (List Str)} {ks : List Str} {f g : Str → List Str} (h : GLoop K d H0 H D l ys rows ks f) (e : ∀ n, n ∈ ks → f n = g n) : GLoop K d H0 H D l ys rows ks g := ⟨h.x, h.g.congr e, h.hl, h.r, h.n0, h.nl⟩
abbrev nm_steps_of : List Str := ["facts", "steps", "word", "one", "other", "node"]
theorem sc_steps_of : FnScope nm_steps_of ["facts"] (defScope s_steps_of) := ⟨rfl, rfl, rfl, by decide +kernel, rfl, by decide +kernel, by decide +kernel⟩
abbrev nm_bars_of : List Str := ["facts", "bars", "word", "one", "other", "folder"]
theorem sc_bars_of : FnScope nm_bars_of ["facts"] (defScope s_bars_of) := ⟨rfl, rfl, rfl, by decide +kernel, rfl, by decide +kernel, by decide +kernel⟩
section
variable {P : Program} {w : World} {K : PySem.W.Frag} {mg : Str → Option Value} {base : Heap} {f C CB CF : Addr} {fd : FuncData}
theorem ok_steps (Fn : FnP K "steps_of" s_steps_of f fd) (F : FacTxt P w K mg CF C CB) {CBH : Addr} (Z : HouseTxt P w K mg C CBH) : FnOk P w K mg base CX0 2 f fd ["facts"] (spSteps K CF C) := by
  refine Fn.ok sc_steps_of (fun vs H Q E h => ?_) (fun cdv A outer s H vs Q E hr h => ⟨_, PSs.nox
    (pss_cons (ps_setDc (i := 1) (own := [("node", 5)]) (g := (gName 5)) (tt := tYes) rfl sc_steps_of.nd rfl rfl (sw_trueD rfl rfl rfl (by decide +kernel)) (pi_tup (pe_fld (pe_fld (pv 0) rfl) rfl)) (blkOk_by (N := nm_steps_of) (sc := defScope s_steps_of) (by decide +kernel)) (fun _ _ _ _ _ => (pg_name (i := 5) sc_steps_of.nd rfl (Or.inl rfl))) (fun _ _ _ _ _ => pts_nil) (fun _ _ _ _ _ => (pv 5)) (fun _ _ _ _ _ => (pe_lst pa_nil)))
      (pss_cons (ps_for PassesOwn.never rfl (pi_list (pe_meth0 (pv 0) F.T.cl F.mT (F.To _) (hr.mono (by decide)) F.bT .nil pass0)) (pg_tup rfl (pgs_cons (pg_name (i := 2) sc_steps_of.nd rfl (Or.inl rfl)) (pgs_cons (pg_name (i := 3) sc_steps_of.nd rfl (Or.inl rfl)) (pgs_cons (pg_name (i := 4) sc_steps_of.nd rfl (Or.inl rfl)) pgs_nil))))
      (pss_one (ps_if (pt_cmpR op_ne (pv 2) pe_str (nomark _)) (pss_cons (ps_expr (pe_bm PySem.F.plainAttrs_list PySem.F.slot_list_append PySem.F.type_list_append mt_append (pe_dget (hu_of hr) (pv 1) (pv 3) (fun _ _ => rfl)) (pa_cons (pv 4) pa_nil)))
      (pss_one (ps_expr (pe_bm PySem.F.plainAttrs_list PySem.F.slot_list_append PySem.F.type_list_append mt_append (pe_dget (hu_of hr) (pv 1) (pv 4) (fun _ _ => rfl)) (pa_cons (pv 3) pa_nil))))) pss_nil)))
      (pss_one (ps_ret (pv 1))))), ?_⟩)
  · obtain ⟨a, fo, th, rows, rfl, _⟩ := h
    rfl
  · obtain ⟨a, fo, th, rows, rfl, fa, nd, len, fr, rl, q⟩ := h
    have fa0 := fa
    obtain ⟨dx, fs, h, r, ys, h1, h2, h3, h4, h5, h6, h7, h8⟩ := fa
    obtain ⟨⟨dx', fs', f, t, n, g1, g2, g3, g4, g5, g6, g7⟩, ok1, ok2⟩ := h4
    have enodes : fo.map V.str ++ th.map V.str = (fo ++ th).map V.str := (List.map_append ..).symm
    rw [enodes] at g7
    refine ⟨_, rfl, a, CF, dx, fs, _, rfl, h1, F.T.cl, F.T.nh, h2, h, C, dx', fs', _, rfl, g1, Z.T.cl, Z.T.nn, g4, n, rfl, ⟨_, g7⟩, fun D hD => ?_⟩
    refine dc_tup (K := K) (a := n) (xs := (fo ++ th).map V.str) (fun i H' => Ext H H' ∧ GrpN H H' D ((fo ++ th).take i)) ⟨Ext.upd hD, GrpN.nil⟩ (fun i H' _ p => g7.ext p.1) ?_ ?_
    · rintro i v H1 hv ⟨x1, gn⟩
      obtain ⟨z, hz, rfl⟩ := strs_at hv
      have tk : (fo ++ th).take (i + 1) = (fo ++ th).take i ++ [z] := by
        rw [List.take_add_one, hz]
        rfl
      have nz : z ∉ (fo ++ th).take i := fun m => by
        obtain ⟨j, hj⟩ := List.mem_iff_getElem?.mp m
        have jl := (List.getElem?_eq_some_iff.mp hj).1
        rw [List.length_take] at jl
        rw [List.getElem?_take_of_lt (by omega)] at hj
        have := (List.getElem?_inj (by omega) nd).mp (hj.trans hz.symm)
        omega
      refine ⟨rfl, ?_⟩
      refine ⟨_, rfl, Nat.le_of_ble_eq_true rfl, fun l hl => ?_⟩
      obtain ⟨d, d1, d2, gn'⟩ := gn.snoc x1 nz hl
      have nlD : D ≠ l := fun e => by rw [← e, d1] at hl; cases hl
      refine ⟨_, Sum.inr z, rfl, by rw [upd_ne nlD]; exact d1, ?_, (x1.trans (Ext.upd hl)).over hD, by rw [tk]; exact gn'⟩
      rw [kd_len, d2, sizeLine_eq, List.length_take]
      omega
    · rintro H1 ⟨x1, d, gd, n0⟩
      rw [List.length_map, List.take_length] at gd
      refine ⟨_, rfl, a, dx, fs, rfl, x1 _ _ h1, h8 _ (by simp [facM]), ?_⟩
      refine ⟨a, fo, th, rows, rfl, fa0.ext x1, fun l ys2 H2 x2 hl0 hl rw2 => ?_⟩
      have len2 := rw2.len
      refine ⟨l, rfl, ⟨_, SqL.of hl⟩, for_list (K := K) (a := l) (xs := ys2) (fun i σ H' => (∃ v2 v3 v4 v5, σ = [some (.ref a), some (.ref D), v2, v3, v4, v5]) ∧ GLoop K d H H' D l ys2 rows (fo ++ th) (stpS (rows.take i)))
        ⟨⟨_, _, _, _, rfl⟩, x1.trans x2, gd.ext x2, hl, rw2, n0, fun k hk => ?_⟩ (fun i σ H' _ p => SqL.of p.2.hl) ?_ ?_⟩
      · obtain ⟨l', e1, e2⟩ := gd.2.2.1 k (gd.2.1 ▸ getD_key hk)
        rw [hk] at e1
        injection e1 with e1
        injection e1 with e1
        rw [← e1, hl0] at e2
        cases e2
      · rintro i v σ H3 hv ⟨⟨v2, v3, v4, v5, rfl⟩, gl⟩
        obtain ⟨t', r', rfl, sq, hr'⟩ := gl.r.at_ hv
        obtain ⟨wd, x, y, rfl, isf⟩ := fr r' (List.mem_of_getElem? hr')
        obtain ⟨i1, i2, i3, i4, i5⟩ := isf
        have tk : rows.take (i + 1) = rows.take i ++ [[wd, x, y]] := by
          rw [List.take_add_one, hr']
          rfl
        have bound : ∀ k, (stpS (rows.take i) k).length ≤ 2000 := fun k => by
          have := stp_len (rows.take i) k
          rw [List.length_take] at this
          omega
        refine ⟨t', _, rfl, sq, rfl, _, _, rfl, _, _, rfl, _, _, rfl, rfl, ?_⟩
        refine ⟨_, rfl, rfl, _, rfl, ?_⟩
        refine ite2 (fun e => ?_) fun e => ?_
        · have e' : wd ≠ "not" := fun z => by
            subst z
            exact absurd e (by decide)
          obtain ⟨l1, d1, d2⟩ := gl.g.get i2
          refine ⟨_, rfl, _, rfl, D, .ref l1, rfl, .inl ⟨_, Sum.inr x, .inl gl.g.1, rfl, by rw [val_kd, d1]⟩, .inl ⟨rfl, _, SqL.of d2⟩, _, rfl, l1, _, _, rfl, rfl, d2, ?_, ?_⟩
          · rw [List.length_map, sizeLine_eq]
            exact Nat.lt_of_le_of_lt (bound x) (by decide)
          have gl2 := gl.app (x := y) d1 d2
          obtain ⟨l2, d3, d4⟩ := gl2.g.get i3
          refine ⟨_, rfl, _, rfl, D, .ref l2, rfl, .inl ⟨_, Sum.inr y, .inl gl2.g.1, rfl, by rw [val_kd, d3]⟩, .inl ⟨rfl, _, SqL.of d4⟩, _, rfl, l2, _, _, rfl, rfl, d4, ?_, ?_⟩
          · rw [List.length_map, sizeLine_eq, if_neg i4.symm]
            exact Nat.lt_of_le_of_lt (bound y) (by decide)
          refine ⟨⟨_, _, _, _, rfl⟩, ?_⟩
          refine (gl2.app (x := x) d3 d4).congr fun k hk => ?_
          rw [tk, stp_snoc]
          unfold stp1
          simp only [e', if_false]
          by_cases c1 : k = x
          · subst c1
            have n : k ≠ y := i4
            simp [n, n.symm]
          · by_cases c2 : k = y
            · subst c2
              simp [c1, Ne.symm c1]
            · simp [c1, c2, Ne.symm c1, Ne.symm c2]
        · have e' : wd = "not" := by
            have z : V.str wd = V.str "not" := by simpa using e
            injection z
          subst e'
          refine ⟨⟨_, _, _, _, rfl⟩, gl.congr fun k hk => ?_⟩
          rw [tk, stp_snoc]
          unfold stp1
          simp
      · rintro σ H3 ⟨⟨v2, v3, v4, v5, rfl⟩, gl⟩
        rw [len2, List.take_length] at gl
        exact ⟨_, rfl, q D H3 gl.x hD ⟨d, gl.g⟩⟩
theorem ok_bars (Fn : FnP K "bars_of" s_bars_of f fd) (F : FacTxt P w K mg CF C CB) {CBH : Addr} (Z : HouseTxt P w K mg C CBH) : FnOk P w K mg base CX0 2 f fd ["facts"] (spBars K CF C) := by
  refine Fn.ok sc_bars_of (fun vs H Q E h => ?_) (fun cdv A outer s H vs Q E hr h => ⟨_, PSs.nox
    (pss_cons (ps_setDc (i := 1) (own := [("folder", 5)]) (g := (gName 5)) (tt := tYes) rfl sc_bars_of.nd rfl rfl (sw_trueD rfl rfl rfl (by decide +kernel)) (pi_tup (pe_fld (pe_fld (pv 0) rfl) rfl)) (blkOk_by (N := nm_bars_of) (sc := defScope s_bars_of) (by decide +kernel)) (fun _ _ _ _ _ => (pg_name (i := 5) sc_bars_of.nd rfl (Or.inl rfl))) (fun _ _ _ _ _ => pts_nil) (fun _ _ _ _ _ => (pv 5)) (fun _ _ _ _ _ => (pe_lst pa_nil)))
      (pss_cons (ps_for PassesOwn.never rfl (pi_list (pe_meth0 (pv 0) F.T.cl F.mT (F.To _) (hr.mono (by decide)) F.bT .nil pass0)) (pg_tup rfl (pgs_cons (pg_name (i := 2) sc_bars_of.nd rfl (Or.inl rfl)) (pgs_cons (pg_name (i := 3) sc_bars_of.nd rfl (Or.inl rfl)) (pgs_cons (pg_name (i := 4) sc_bars_of.nd rfl (Or.inl rfl)) pgs_nil))))
      (C8.pss_cut (ps_if (pt_cmpR op_eq (pv 2) pe_str (nomark _)) (pss_one (ps_expr (pe_bm PySem.F.plainAttrs_list PySem.F.slot_list_append PySem.F.type_list_append mt_append (pe_dget (hu_of hr) (pv 1) (pv 4) (fun _ _ => rfl)) (pa_cons (pv 3) pa_nil)))) pss_nil)
      (pss_one (ps_if (PW.pt (pw_and (pt_cmpR op_eq (pv 2) pe_str (nomark _)) (pw_and1 (pt_cmpR op_in_seq (pv 3) (pe_fld (pe_fld (pv 0) rfl) rfl) (by rfl))))) (pss_one (ps_expr (pe_bm PySem.F.plainAttrs_list PySem.F.slot_list_append PySem.F.type_list_append mt_append (pe_dget (hu_of hr) (pv 1) (pv 3) (fun _ _ => rfl)) (pa_cons (pv 4) pa_nil)))) pss_nil))))
      (pss_one (ps_ret (pv 1))))), ?_⟩)
  · obtain ⟨a, fo, th, rows, rfl, _⟩ := h
    rfl
  · obtain ⟨a, fo, th, rows, rfl, fa, nd, len, fr, rl, q⟩ := h
    have fa0 := fa
    obtain ⟨dx, fs, h, r, ys, h1, h2, h3, h4, h5, h6, h7, h8⟩ := fa
    obtain ⟨⟨dx', fs', f, t, n, g1, g2, g3, g4, g5, g6, g7⟩, ok1, ok2⟩ := h4
    have ndf : fo.Nodup := (List.nodup_append.mp nd).1
    rw [List.length_append] at len
    refine ⟨_, rfl, a, CF, dx, fs, _, rfl, h1, F.T.cl, F.T.nh, h2, h, C, dx', fs', _, rfl, g1, Z.T.cl, Z.T.nf, g2, f, rfl, ⟨_, g5⟩, fun D hD => ?_⟩
    refine dc_tup (K := K) (a := f) (xs := fo.map V.str) (fun i H' => Ext H H' ∧ GrpN H H' D (fo.take i)) ⟨Ext.upd hD, GrpN.nil⟩ (fun i H' _ p => g5.ext p.1) ?_ ?_
    · rintro i v H1 hv ⟨x1, gn⟩
      obtain ⟨z, hz, rfl⟩ := strs_at hv
      have tk : fo.take (i + 1) = fo.take i ++ [z] := by
        rw [List.take_add_one, hz]
        rfl
      have nz : z ∉ fo.take i := fun m => by
        obtain ⟨j, hj⟩ := List.mem_iff_getElem?.mp m
        have jl := (List.getElem?_eq_some_iff.mp hj).1
        rw [List.length_take] at jl
        rw [List.getElem?_take_of_lt (by omega)] at hj
        have := (List.getElem?_inj (by omega) ndf).mp (hj.trans hz.symm)
        omega
      refine ⟨rfl, ?_⟩
      refine ⟨_, rfl, Nat.le_of_ble_eq_true rfl, fun l hl => ?_⟩
      obtain ⟨d, d1, d2, gn'⟩ := gn.snoc x1 nz hl
      have nlD : D ≠ l := fun e => by rw [← e, d1] at hl; cases hl
      refine ⟨_, Sum.inr z, rfl, by rw [upd_ne nlD]; exact d1, ?_, (x1.trans (Ext.upd hl)).over hD, by rw [tk]; exact gn'⟩
      rw [kd_len, d2, sizeLine_eq, List.length_take]
      omega
    · rintro H1 ⟨x1, d, gd, n0⟩
      rw [List.length_map, List.take_length] at gd
      refine ⟨_, rfl, a, dx, fs, rfl, x1 _ _ h1, h8 _ (by simp [facM]), ?_⟩
      refine ⟨a, fo, th, rows, rfl, fa0.ext x1, fun l ys2 H2 x2 hl0 hl rw2 => ?_⟩
      have len2 := rw2.len
      refine ⟨l, rfl, ⟨_, SqL.of hl⟩, for_list (K := K) (a := l) (xs := ys2) (fun i σ H' => (∃ v2 v3 v4 v5, σ = [some (.ref a), some (.ref D), v2, v3, v4, v5]) ∧ GLoop K d H H' D l ys2 rows fo (barS (rows.take i)))
        ⟨⟨_, _, _, _, rfl⟩, x1.trans x2, gd.ext x2, hl, rw2, n0, fun k hk => ?_⟩ (fun i σ H' _ p => SqL.of p.2.hl) ?_ ?_⟩
      · obtain ⟨l', e1, e2⟩ := gd.2.2.1 k (gd.2.1 ▸ getD_key hk)
        rw [hk] at e1
        injection e1 with e1
        injection e1 with e1
        rw [← e1, hl0] at e2
        cases e2
      · rintro i v σ H3 hv ⟨⟨v2, v3, v4, v5, rfl⟩, gl⟩
        obtain ⟨t', r', rfl, sq, hr'⟩ := gl.r.at_ hv
        obtain ⟨wd, x, y, rfl, isf⟩ := fr r' (List.mem_of_getElem? hr')
        obtain ⟨i1, i2, i3, i4, i5⟩ := isf
        have tk : rows.take (i + 1) = rows.take i ++ [[wd, x, y]] := by
          rw [List.take_add_one, hr']
          rfl
        have bound : ∀ k, (barS (rows.take i) k).length ≤ 2000 := fun k => by
          have := bar_len (rows.take i) k
          rw [List.length_take] at this
          omega
        refine ⟨t', _, rfl, sq, rfl, _, _, rfl, _, _, rfl, _, _, rfl, rfl, ?_⟩
        refine ⟨fun σ H' => (∃ v5, σ = [some (.ref a), some (.ref D), some (.str wd), some (.str x), some (.str y), v5]) ∧ GLoop K d H H' D l ys2 rows fo (fun n => barS (rows.take i) n ++ if wd = "not" ∧ y = n then [x] else []), ?_, ?_⟩
        · refine ⟨_, rfl, rfl, _, rfl, ?_⟩
          refine ite2 (fun e => ?_) fun e => ?_
          · have e' : wd = "not" := by
              have z := of_decide_eq_true e
              injection z
            subst e'
            have yf : y ∈ fo := i5.resolve_left (by decide)
            obtain ⟨l1, d1, d2⟩ := gl.g.get yf
            refine ⟨_, rfl, _, rfl, D, .ref l1, rfl, .inl ⟨_, Sum.inr y, .inl gl.g.1, rfl, by rw [val_kd, d1]⟩, .inl ⟨rfl, _, SqL.of d2⟩, _, rfl, l1, _, _, rfl, rfl, d2, ?_, ?_⟩
            · rw [List.length_map, sizeLine_eq]
              exact Nat.lt_of_le_of_lt (bound y) (by decide)
            refine ⟨⟨_, rfl⟩, (gl.app (x := x) d1 d2).congr fun k hk => ?_⟩
            by_cases c : k = y
            · subst c
              simp
            · simp [c, Ne.symm c]
          · have e' : wd ≠ "not" := fun z => by
              subst z
              exact absurd (decide_eq_true rfl) e
            refine ⟨⟨_, rfl⟩, gl.congr fun k hk => ?_⟩
            simp [e']
        · rintro σ H4 ⟨⟨v5, rfl⟩, gl⟩
          have bound2 : ∀ k, (barS (rows.take i) k ++ if wd = "not" ∧ y = k then [x] else []).length ≤ 2001 := fun k => by
            have := bound k
            rw [List.length_append]
            split
            · rw [List.length_singleton]
              omega
            · rw [List.length_nil]
              omega
          have fin : ∀ {H5 : Hp}, GLoop K d H H5 D l ys2 rows fo (fun n => (barS (rows.take i) n ++ if wd = "not" ∧ y = n then [x] else []) ++ if wd = "below" ∧ x = n then [y] else []) → GLoop K d H H5 D l ys2 rows fo (barS (rows.take (i + 1))) := fun {H5} g => g.congr fun k hk => by
            rw [tk, bar_snoc]
            unfold bar1
            dsimp only
            rw [List.append_assoc]
          refine ⟨_, rfl, rfl, _, rfl, ?_⟩
          refine ite2 (fun e => ?_) fun e => ?_
          · have e' : wd = "below" := by
              have z := of_decide_eq_true e
              injection z
            subst e'
            refine ⟨_, rfl, _, rfl, a, CF, dx, fs, _, rfl, gl.x _ _ h1, F.T.cl, F.T.nh, h2, h, C, dx', fs', _, rfl, gl.x _ _ g1, Z.T.cl, Z.T.nf, g2, f, _, rfl, .inr (g5.ext gl.x), rfl, flat_strs _, _, rfl, ?_⟩
            rw [if_neg Bool.false_ne_true, inV_str]
            refine ite2 (fun c => ?_) fun c => ?_
            · have xf : x ∈ fo := of_decide_eq_true c
              obtain ⟨l1, d1, d2⟩ := gl.g.get xf
              refine ⟨_, rfl, _, rfl, D, .ref l1, rfl, .inl ⟨_, Sum.inr x, .inl gl.g.1, rfl, by rw [val_kd, d1]⟩, .inl ⟨rfl, _, SqL.of d2⟩, _, rfl, l1, _, _, rfl, rfl, d2, ?_, ?_⟩
              · rw [List.length_map, sizeLine_eq]
                exact Nat.lt_of_le_of_lt (bound2 x) (by decide)
              refine ⟨⟨_, _, _, _, rfl⟩, fin ((gl.app (x := y) d1 d2).congr fun k hk => ?_)⟩
              by_cases c : k = x
              · subst c
                simp
              · simp [c, Ne.symm c]
            · have xf : x ∉ fo := fun z => c (decide_eq_true z)
              refine ⟨⟨_, _, _, _, rfl⟩, ?_⟩
              refine fin (gl.congr fun k hk => ?_)
              have n : x ≠ k := fun e => xf (by rw [e]; exact hk)
              simp [n]
          · have e' : wd ≠ "below" := fun z => by
              subst z
              exact absurd (decide_eq_true rfl) e
            refine ⟨⟨_, _, _, _, rfl⟩, fin (gl.congr fun k hk => ?_)⟩
            simp [e']
      · rintro σ H3 ⟨⟨v2, v3, v4, v5, rfl⟩, gl⟩
        rw [len2, List.take_length] at gl
        exact ⟨_, rfl, q D H3 gl.x hD ⟨d, gl.g⟩⟩
end
end My

namespace My
open PySem PySem.Spec PyProof.Rows L2
def spReached (K : PySem.W.Frag) : Sp := fun vs H Q _ => ∃ (D l : Addr) (ks zs : List Str) (rows : List (List Str)), vs = [.ref D, .ref l] ∧ Grp H D ks (stpS rows) ∧ SeqAt2 K H l (zs.map V.str) ∧ zs ≠ [] ∧ zs.Nodup ∧ (∀ z, z ∈ zs → z ∈ ks) ∧ zs.length < 1000 ∧ (∀ r, r ∈ rows → ∃ w a b, r = [w, a, b]) ∧ rows.length < 1000 ∧
  ∀ l' (p : Str → Bool) H', Ext H H' → H l' = none → Rch rows zs (fun z => p z = true) → H' l' = some (.lst ((zs.filter p).map V.str)) → Q (.ref l') H'
def topB (fo : List Str) (rows : List (List Str)) (zs : List Str) (z : Str) : Bool := decide (z ∈ fo) && !(zs.any fun o => decide (o ∈ barS rows z))
/-- the tops of a list of nodes -/
def TopsOf (fo : List Str) (rows : List (List Str)) (zs tops : List Str) : Prop := (zs.length = 1 ∧ tops = zs) ∨ (zs.length ≠ 1 ∧ tops = zs.filter (topB fo rows zs))
def spTops (K : PySem.W.Frag) : Sp := fun vs H Q _ => ∃ (D l : Addr) (fo zs : List Str) (rows : List (List Str)), vs = [.ref D, .ref l] ∧ Grp H D fo (barS rows) ∧ SeqAt2 K H l (zs.map V.str) ∧ zs.length < 1000 ∧
  ∀ l' tops H', Ext H H' → ((l' = l ∧ tops = zs) ∨ H l' = none ∧ H' l' = some (.lst (tops.map V.str))) → TopsOf fo rows zs tops → Q (.ref l') H'
abbrev nm_reached : List Str := ["steps", "nodes", "found", "more", "node", "near"]
theorem sc_reached : FnScope nm_reached ["steps", "nodes"] (defScope s_reached) := ⟨rfl, rfl, rfl, by decide +kernel, rfl, by decide +kernel, by decide +kernel⟩
abbrev nm_tops_of : List Str := ["bars", "nodes", "node", "one"]
theorem sc_tops_of : FnScope nm_tops_of ["bars", "nodes"] (defScope s_tops_of) := ⟨rfl, rfl, rfl, by decide +kernel, rfl, by decide +kernel, by decide +kernel⟩
section
variable {P : Program} {w : World} {K : PySem.W.Frag} {mg : Str → Option Value} {base : Heap} {f C CB CF : Addr} {fd : FuncData}
theorem ok_reached (Fn : FnP K "reached" s_reached f fd) (gB_any : mg "any" = none) : FnOk P w K mg base CX0 1 f fd ["steps", "nodes"] (spReached K) := by
  refine Fn.ok sc_reached (fun vs H Q E h => ?_) (fun cdv A outer s H vs Q E hr h => ⟨_, PSs.nox
    (pss_cons (ps_set (i := 2) sc_reached.nd rfl (Or.inr rfl) (pe_lst pa_nil))
      (pss_cons (ps_set (i := 3) sc_reached.nd rfl (Or.inl rfl) (pe_lst (pa_cons (pe_ix (ix_list.or ix_tup) (pv 1) pe_int (fun _ _ => rfl)) pa_nil)))
      (pss_cons (ps_while PassesOwn.never (pt_truth (pv 3) (by intro _; rfl)) (pss_cons (ps_set (i := 2) sc_reached.nd rfl (Or.inr rfl) (pe_op L2.op_cat (pv 2) (pv 3)))
      (pss_one (ps_setLc (i := 3) (own := [("node", 4)]) (g := (gName 4)) rfl sc_reached.nd rfl rfl (sw_true rfl rfl rfl (by decide +kernel)) (pi_seqS (pv 1)) (blkOk_by (N := nm_reached) (sc := defScope s_reached) (by decide +kernel)) (fun _ _ _ _ _ => (pg_name (i := 4) sc_reached.nd rfl (Or.inl rfl))) (fun _ _ _ _ _ => pts_one (PW.pt (pw_and (pt_cmpR (opK (r := fun K => rIn K true) (K := K) rfl op_notIn_seq) (pv 4) (pv 2) (by rfl)) (pw_and1 (pt_val (pe_callB (caK (r := rAny) (K := K) rfl (cr_any rfl)) (by rfl) gB_any boot_any (pa_cons (pe_lc (own := [("near", 5)]) (g := (gName 5)) (tt := tYes) rfl sc_reached.nd (piK (r := fun K => iList K (tDGet (tVar 0) (tVar 4))) (K := K) rfl (pi_list (pe_dget (hu_of hr) (pv 0) (pv 4) (fun _ _ => rfl)))) (blkOk_by (N := nm_reached) (by show blkC nm_reached (relabelS _ (defScope s_reached)) _ _ = true; decide +kernel)) (fun _ _ _ _ _ => (pg_name (i := 5) sc_reached.nd rfl (Or.inl rfl))) (fun _ _ _ _ _ => pts_nil) (fun _ _ _ _ _ => (pe_cmpR (opK (r := fun K => rIn K false) (K := K) rfl op_in_seq) (pv 5) (pv 2) (by rfl)))) pa_nil))))))) (fun _ _ _ _ _ => (pv 4))))))
      (pss_one (ps_ret (pe_lc (own := [("node", 4)]) (g := (gName 4)) rfl sc_reached.nd (pi_seqS (pv 1)) (blkOk_by (N := nm_reached) (sc := defScope s_reached) (by decide +kernel)) (fun _ _ _ _ _ => (pg_name (i := 4) sc_reached.nd rfl (Or.inl rfl))) (fun _ _ _ _ _ => pts_one (pt_cmpR (opK (r := fun K => rIn K false) (K := K) rfl op_in_seq) (pv 4) (pv 2) (by rfl))) (fun _ _ _ _ _ => (pv 4)))))))), ?_⟩)
  · obtain ⟨D, l, ks, zs, rows, rfl, _⟩ := h
    rfl
  · obtain ⟨D, l, ks, zs, rows, rfl, gr, sq, ne, nd, sub, len, three, rl, q⟩ := h
    obtain ⟨z0, zr, hz⟩ : ∃ z0 zr, zs = z0 :: zr := by
      cases zs with
      | nil => exact absurd rfl ne
      | cons z0 zr => exact ⟨z0, zr, rfl⟩
    have h0 : zs.head? = some z0 := by rw [hz]; rfl
    have lz : zs.length < sizeLine := by rw [sizeLine_eq]; omega
    refine ⟨Nat.le_of_ble_eq_true rfl, fun fd0 hfd => ?_⟩
    have x1 : Ext H (L2.upd H fd0 (.lst [])) := Ext.upd hfd
    obtain ⟨H1, hH1⟩ : ∃ H1, H1 = L2.upd H fd0 (.lst []) := ⟨_, rfl⟩
    have f1 : H1 fd0 = some (.lst []) := by rw [hH1, upd_same]
    rw [← hH1] at x1 ⊢
    have sq1 := sq.ext x1
    have zat : atI (zs.map V.str) 0 = some (.str z0) := by
      rw [hz]
      exact atI_nat (j := 0) rfl
    refine ⟨_, rfl, ixs sq1 zat ⟨Nat.le_of_ble_eq_true rfl, fun mo0 hmo => ?_⟩⟩
    have x2 : Ext H (L2.upd H1 mo0 (.lst [.str z0])) := x1.trans (Ext.upd hmo)
    have m2 : (L2.upd H1 mo0 (.lst [.str z0])) mo0 = some (.lst ((([z0] : List Str)).map V.str)) := upd_same
    have f2 : (L2.upd H1 mo0 (.lst [.str z0])) fd0 = some (.lst ((([] : List Str)).map V.str)) := Ext.upd hmo _ _ f1
    refine ⟨fun m σ H' => ∃ fd mo lf lm v4 v5, σ = [some (.ref D), some (.ref l), some (.ref lf), some (.ref lm), v4, v5] ∧ Ext H H' ∧ H' lf = some (.lst (fd.map V.str)) ∧ H' lm = some (.lst (mo.map V.str)) ∧ Going rows zs fd mo ∧ m = zs.length - fd.length,
      ⟨_, [], [z0], fd0, mo0, _, _, rfl, x2, f2, m2, Going.start h0, rfl⟩, ?_⟩
    rintro m σ H3 ⟨fd, mo, lf, lm, v4, v5, rfl, x3, f3, m3, go, rfl⟩
    have fl : (fd ++ mo).length ≤ zs.length := nodup_sub_len go.nd go.sub
    rw [List.length_append] at fl
    refine ⟨_, rfl, !(mo.map V.str).isEmpty, .inl ⟨_, SqL.of m3, rfl⟩, ?_⟩
    refine ite2 (fun e => ?_) fun e => ?_
    · have ml : 1 ≤ mo.length := by
        cases mo with
        | nil => cases e
        | cons _ _ => exact Nat.le_add_left _ _
      refine ⟨fun σ H' => ∃ fd' mo' lf lm v4 v5, σ = [some (.ref D), some (.ref l), some (.ref lf), some (.ref lm), v4, v5] ∧ Ext H H' ∧ H' lf = some (.lst (fd'.map V.str)) ∧ H' lm = some (.lst (mo'.map V.str)) ∧ Going rows zs fd' mo' ∧ fd'.length = fd.length + mo.length, ?_, ?_⟩
      · rintro σ' H' ⟨fd', mo', lf', lm', w4, w5, e1, e2, e3, e4, e5, e6⟩
        exact ⟨_, by omega, fd', mo', lf', lm', w4, w5, e1, e2, e3, e4, e5, rfl⟩
      · refine ⟨_, rfl, _, rfl, lf, lm, _, _, rfl, rfl, f3, m3, ?_, fun lf2 hlf2 => ?_⟩
        · rw [List.length_map, List.length_map, sizeLine_eq]
          omega
        have x4 := x3.trans (Ext.upd (o := .lst (fd.map V.str ++ mo.map V.str)) hlf2)
        have f4 : (L2.upd H3 lf2 (.lst (fd.map V.str ++ mo.map V.str))) lf2 = some (.lst ((fd ++ mo).map V.str)) := by rw [upd_same, List.map_append]
        dsimp only [gName, tAsg]
        refine lc_seq (K := K) (i := 1) (σ := [some (.ref D), some (.ref l), some (.ref lf2), some (.ref lm), v4, v5]) (p := fun z => decide (z ∉ fd ++ mo) && (stpS rows z).any fun y => decide (y ∈ fd ++ mo)) (h := V.str) rfl (seq2_ext sq x4) lz (fun z H5 Z N hz5 x5 yes no => ?_) fun D' H5 hD' x5 d5 => ?_
        · refine ⟨rfl, _, rfl, _, rfl, lf2, _, rfl, .inl (SqL.of (x5 _ _ f4)), rfl, flat_strs _, _, rfl, ?_⟩
          rw [if_pos rfl, inV_str]
          refine ite2 (fun c => ?_) fun c => ?_
          · have c' : decide (z ∈ fd ++ mo) = false := by simpa using c
            have c'' : z ∉ fd ++ mo := of_decide_eq_false c'
            obtain ⟨lst, g1, g2⟩ := grp_get (gr.ext (x4.trans x5)) (sub z hz5)
            have sl := stp_len rows z
            refine ⟨_, rfl, _, rfl, D, _, rfl, g1, lst, rfl, ⟨_, SqL.of g2⟩, fun D2 hD2 => ?_⟩
            refine lc_boolL (K := K) (fun y => decide (y ∈ fd ++ mo)) hD2 (SqL.of g2) (by rw [sizeLine_eq]; omega) (fun y H6 Z2 N2 hy x6 yes2 => ?_) fun H6 x6 d6 => ?_
            · refine ⟨rfl, ?_⟩
              refine ⟨_, rfl, _, rfl, lf2, _, rfl, .inl (SqL.of (x6 _ _ (x5 _ _ f4))), rfl, flat_strs _, ?_⟩
              rw [if_neg Bool.false_ne_true, inV_str]
              exact yes2 H6 Ext.rfl'
            · refine ⟨D2, _, rfl, SqL.of d6, _, rfl, ?_⟩
              rw [any_map]
              refine ite2 (fun k => ⟨_, rfl, yes H6 x6 ?_⟩) fun k => no H6 x6 ?_
              · rw [decide_eq_true c'', Bool.true_and]
                exact k
              · rw [Bool.eq_false_iff.mpr k, Bool.and_false]
          · have c' : decide (z ∈ fd ++ mo) = true := by
              cases h : decide (z ∈ fd ++ mo) with
              | true => rfl
              | false => exact absurd (by rw [h]; rfl) c
            have c'' : z ∈ fd ++ mo := of_decide_eq_true c'
            refine no H5 Ext.rfl' ?_
            rw [decide_eq_false (fun k => k c''), Bool.false_and]
        · refine ⟨fd ++ mo, _, lf2, D', _, _, rfl, x4.trans x5, x5 _ _ f4, d5, go.step (nd.filter _) fun n => ?_, List.length_append⟩
          rw [List.mem_filter, Bool.and_eq_true_iff, decide_eq_true_iff, List.any_eq_true]
          constructor
          · rintro ⟨h1, h2, y, h3, h4⟩
            exact ⟨h1, h2, y, of_decide_eq_true h4, (mem_stp three).mp h3⟩
          · rintro ⟨h1, h2, y, h3, h4⟩
            exact ⟨h1, h2, y, (mem_stp three).mpr h4, decide_eq_true h3⟩
    · have mn : mo = [] := by
        cases mo with
        | nil => rfl
        | cons _ _ => exact absurd rfl e
      subst mn
      have rc := go.done
      refine lc_seq (K := K) (i := 1) (σ := [some (.ref D), some (.ref l), some (.ref lf), some (.ref lm), v4, v5]) (p := fun z => decide (z ∈ fd)) (h := V.str) rfl (seq2_ext sq x3) lz (fun z H4 Z N hz4 x4 yes no => ?_) fun D' H4 hD' x4 d4 => ?_
      · refine ⟨rfl, _, rfl, _, rfl, lf, _, rfl, .inl (SqL.of (x4 _ _ f3)), rfl, flat_strs _, _, rfl, ?_⟩
        rw [if_neg Bool.false_ne_true, inV_str]
        exact ite2 (fun c => ⟨_, rfl, yes H4 Ext.rfl' c⟩) fun c => no H4 Ext.rfl' (Bool.eq_false_iff.mpr c)
      · refine q D' (fun z => decide (z ∈ fd)) H4 (x3.trans x4) (ext_none x3 hD') ?_ d4
        have e : (fun z => decide (z ∈ fd) = true) = (· ∈ fd) := by
          funext z
          exact propext decide_eq_true_iff
        rw [e]
        exact rc
theorem ok_tops (Fn : FnP K "tops_of" s_tops_of f fd) (gB_any : mg "any" = none) (gB_len : mg "len" = none) : FnOk P w K mg base CX0 1 f fd ["bars", "nodes"] (spTops K) := by
  refine Fn.ok sc_tops_of (fun vs H Q E h => ?_) (fun cdv A outer s H vs Q E hr h => ⟨_, PSs.nox
    (pss_cons (ps_if (pt_cmpR op_eq (pe_callB call_len (by rfl) gB_len boot_len (pa_cons (pv 1) pa_nil)) pe_int (nomark _)) (pss_one (ps_ret (pv 1))) pss_nil)
      (pss_one (ps_ret (pe_lc (own := [("node", 2)]) (g := (gName 2)) rfl sc_tops_of.nd (pi_seqS (pv 1)) (blkOk_by (N := nm_tops_of) (sc := defScope s_tops_of) (by decide +kernel)) (fun _ _ _ _ _ => (pg_name (i := 2) sc_tops_of.nd rfl (Or.inr rfl))) (fun _ _ _ _ _ => pts_one (PW.pt (pw_and (pt_cmp (pc_din (hu_of hr) (pv 2) (pv 0))) (pw_and1 (pt_not (pt_val (pe_callB (caK (r := rAny) (K := K) rfl (cr_any rfl)) (by rfl) gB_any boot_any (pa_cons (pe_lc (own := [("one", 3)]) (g := (gName 3)) (tt := tYes) rfl sc_tops_of.nd (piK (r := fun K => fun σ H R => iList K (tVar 1) σ H R ∨ iTup K (tVar 1) σ H R) (K := K) rfl (pi_seqS (pv 1))) (blkOk_by (N := nm_tops_of) (by show blkC nm_tops_of (relabelS _ (defScope s_tops_of)) _ _ = true; decide +kernel)) (fun _ _ _ _ _ => (pg_name (i := 3) sc_tops_of.nd rfl (Or.inl rfl))) (fun _ _ _ _ _ => pts_nil) (fun _ _ _ _ _ => (pe_cmpR (opK (r := fun K => rIn K false) (K := K) rfl op_in_seq) (pv 3) (pe_dget (hu_of hr) (pv 0) (pv 2) (fun _ _ => rfl)) (by rfl)))) pa_nil)))))))) (fun _ _ _ _ _ => (pv 2)))))), ?_⟩)
  · obtain ⟨D, l, ks, zs, rows, rfl, _⟩ := h
    rfl
  · obtain ⟨D, l, fo, zs, rows, rfl, gr, sq, len, q⟩ := h
    have lz : zs.length < sizeLine := by rw [sizeLine_eq]; omega
    refine ⟨_, rfl, .ref l, zs.length, rfl, ?_, rfl, _, rfl, ?_⟩
    · refine sq.elim (fun s => .inl ⟨_, s, ?_⟩) fun s => .inr ⟨_, s, ?_⟩ <;> rw [List.length_map]
    refine ite2 (fun e => ?_) fun e => ?_
    · have e' : zs.length = 1 := by
        have z := of_decide_eq_true e
        injection z with z
        omega
      exact ⟨_, rfl, q l zs H Ext.rfl' (.inl ⟨rfl, rfl⟩) (.inl ⟨e', rfl⟩)⟩
    · have e' : zs.length ≠ 1 := fun z => by
        rw [z] at e
        exact absurd (decide_eq_true rfl) e
      refine lc_seq (K := K) (i := 1) (σ := [some (.ref D), some (.ref l), none, none]) (p := topB fo rows zs) (h := V.str) rfl sq lz (fun z H4 Z N hz4 x4 yes no => ?_) fun D' H4 hD' x4 d4 => q D' _ H4 x4 (.inr ⟨hD', d4⟩) (.inr ⟨e', rfl⟩)
      obtain ⟨o, g1, g2⟩ := grp_has (gr.ext x4) z
      refine ⟨rfl, _, rfl, _, rfl, D, o, rfl, g1, _, rfl, ?_⟩
      rw [g2]
      refine ite2 (fun c => ?_) fun c => no H4 Ext.rfl' (by unfold topB; rw [Bool.eq_false_iff.mpr c, Bool.false_and])
      have c' : z ∈ fo := of_decide_eq_true c
      dsimp only [tNot, tB, tCB, tCons, tNil]
      refine lc_seqB (K := K) (i := 1) (σ := [some (.ref D), some (.ref l), some (.str z), none]) (fun y => decide (y ∈ barS rows z)) rfl (seq2_ext sq x4) lz (fun y H6 Z2 N2 hy x6 yes2 => ?_) fun D2 H6 hD2 x6 d6 => ?_
      · obtain ⟨lst, g3, g4⟩ := grp_get (gr.ext (x4.trans x6)) c'
        refine ⟨rfl, ?_⟩
        refine ⟨_, rfl, _, rfl, _, rfl, D, _, rfl, g3, lst, _, rfl, .inl (SqL.of g4), rfl, flat_strs _, ?_⟩
        rw [if_neg Bool.false_ne_true, inV_str]
        exact yes2 H6 Ext.rfl'
      · refine ⟨D2, _, rfl, SqL.of d6, _, rfl, ?_⟩
        rw [any_map]
        cases k : zs.any fun y => decide (y ∈ barS rows z) with
        | true => exact no H6 x6 (by unfold topB; rw [k]; exact Bool.and_false _)
        | false => exact ⟨_, rfl, yes H6 x6 (by unfold topB; rw [k, c]; rfl)⟩
end
end My

namespace My
open PySem PySem.Spec PyProof.Rows L2
/-- nodes parted: those that one comes to from the first one, then the others -/
inductive Parts (rows : List (List Str)) : List Str → List (List Str) → Prop
  | nil : Parts rows [] []
  | cons {zs : List Str} {ps : List (List Str)} (p : Str → Bool) : zs ≠ [] → Rch rows zs (fun z => p z = true) → Parts rows (zs.filter fun z => !p z) ps → Parts rows zs (zs.filter p :: ps)
/-- the parts' lists, made since H0, none of them at pl -/
def PartsAt (H0 : Hp) (pl : Addr) (H : Hp) (ys : List V) (ps : List (List Str)) : Prop := ys.length = ps.length ∧ ∀ (i : Nat) (y : V), ys[i]? = some y → ∃ a p, y = .ref a ∧ ps[i]? = some p ∧ H0 a = none ∧ a ≠ pl ∧ H a = some (.lst (p.map V.str))
theorem PartsAt.ext {H0 H H' : Hp} {pl : Addr} {ys : List V} {ps : List (List Str)} (h : PartsAt H0 pl H ys ps) (e : Ext H H') : PartsAt H0 pl H' ys ps := ⟨h.1, fun i y hy => by
  obtain ⟨a, p, h1, h2, h3, h4, h5⟩ := h.2 i y hy
  exact ⟨a, p, h1, h2, h3, h4, e _ _ h5⟩⟩
theorem PartsAt.snoc {H0 H : Hp} {pl a : Addr} {ys : List V} {ps : List (List Str)} {p : List Str} (h : PartsAt H0 pl H ys ps) (h0 : H0 a = none) (n : a ≠ pl) (ha : H a = some (.lst (p.map V.str))) : PartsAt H0 pl (L2.upd H pl (.lst (ys ++ [.ref a]))) (ys ++ [.ref a]) (ps ++ [p]) := by
  refine ⟨by rw [List.length_append, List.length_append, h.1]; rfl, fun i y hy => ?_⟩
  by_cases c : i < ys.length
  · rw [List.getElem?_append_left c] at hy
    obtain ⟨b, q, h1, h2, h3, h4, h5⟩ := h.2 i y hy
    exact ⟨b, q, h1, by rw [List.getElem?_append_left (by rw [← h.1]; exact c)]; exact h2, h3, h4, by rw [upd_ne h4]; exact h5⟩
  · rw [List.getElem?_append_right (by omega)] at hy
    have e : i - ys.length = 0 := by
      have := (List.getElem?_eq_some_iff.mp hy).1
      rw [List.length_singleton] at this
      omega
    rw [e] at hy
    injection hy with hy
    refine ⟨a, p, hy.symm, ?_, h0, n, by rw [upd_ne n]; exact ha⟩
    rw [List.getElem?_append_right (by rw [← h.1]; omega), ← h.1, e]
    rfl
def spParts (K : PySem.W.Frag) : Sp := fun vs H Q _ => ∃ (S l : Addr) (ks zs : List Str) (rows : List (List Str)), vs = [.ref S, .ref l] ∧ Grp H S ks (stpS rows) ∧ SeqAt2 K H l (zs.map V.str) ∧ zs.Nodup ∧ (∀ z, z ∈ zs → z ∈ ks) ∧ zs.length < 1000 ∧ (∀ r, r ∈ rows → ∃ w a b, r = [w, a, b]) ∧ rows.length < 1000 ∧
  ∀ pl ys ps H', Ext H H' → H pl = none → H' pl = some (.lst ys) → PartsAt H pl H' ys ps → Parts rows zs ps → Q (.ref pl) H'
theorem filter_not_in {zs : List Str} {p : Str → Bool} : zs.filter (fun z => decide (z ∉ zs.filter p)) = zs.filter fun z => !p z := by
  refine List.filter_congr fun z hz => ?_
  cases h : p z with
  | true => exact decide_eq_false fun k => k (List.mem_filter.mpr ⟨hz, h⟩)
  | false =>
    refine decide_eq_true fun k => ?_
    have := (List.mem_filter.mp k).2
    rw [h] at this
    cases this
abbrev nm_parts_of : List Str := ["steps", "nodes", "parts", "left", "part", "node"]
theorem sc_parts_of : FnScope nm_parts_of ["steps", "nodes"] (defScope s_parts_of) := ⟨rfl, rfl, rfl, by decide +kernel, rfl, by decide +kernel, by decide +kernel⟩
section
variable {P : Program} {w : World} {K : PySem.W.Frag} {mg : Str → Option Value} {base : Heap} {f C CB CF : Addr} {fd : FuncData}
theorem ok_parts (Fn : FnP K "parts_of" s_parts_of f fd) (hreached : Has P w K mg base 1 "reached" ["steps", "nodes"] (spReached K)) : FnOk P w K mg base CX0 2 f fd ["steps", "nodes"] (spParts K) := by
  refine Fn.ok sc_parts_of (fun vs H Q E h => ?_) (fun cdv A outer s H vs Q E hr h => ⟨_, PSs.nox
    (pss_cons (ps_set (i := 2) sc_parts_of.nd rfl (Or.inl rfl) (pe_lst pa_nil))
      (pss_cons (ps_set (i := 3) sc_parts_of.nd rfl (Or.inl rfl) (pv 1))
      (pss_cons (ps_while PassesOwn.never (pt_truth (pv 3) (by intro _; rfl)) (pss_cons (ps_set (i := 4) sc_parts_of.nd rfl (Or.inr rfl) (pe_has hreached (hr.mono (by decide)) (pa_cons (pv 0) (pa_cons (pv 3) pa_nil))))
      (pss_cons (ps_expr (pe_bm PySem.F.plainAttrs_list PySem.F.slot_list_append PySem.F.type_list_append mt_append (pv 2) (pa_cons (pv 4) pa_nil)))
      (pss_one (ps_setLc (i := 3) (own := [("node", 5)]) (g := (gName 5)) rfl sc_parts_of.nd rfl rfl (sw_true rfl rfl rfl (by decide +kernel)) (pi_seqS (pv 3)) (blkOk_by (N := nm_parts_of) (sc := defScope s_parts_of) (by decide +kernel)) (fun _ _ _ _ _ => (pg_name (i := 5) sc_parts_of.nd rfl (Or.inl rfl))) (fun _ _ _ _ _ => pts_one (pt_cmpR (opK (r := fun K => rIn K true) (K := K) rfl op_notIn_seq) (pv 5) (pv 4) (by rfl))) (fun _ _ _ _ _ => (pv 5)))))))
      (pss_one (ps_ret (pv 2)))))), ?_⟩)
  · obtain ⟨S, l, ks, zs, rows, rfl, _⟩ := h
    rfl
  · obtain ⟨S, l, ks, zs, rows, rfl, gr, sq, nd, sub, len, three, rl, q⟩ := h
    refine ⟨Nat.le_of_ble_eq_true rfl, fun pl hpl => ?_⟩
    have x1 : Ext H (L2.upd H pl (.lst [])) := Ext.upd hpl
    refine ⟨_, rfl, ?_⟩
    refine ⟨fun m σ H' => ∃ lf lz done ys v4 v5, σ = [some (.ref S), some (.ref l), some (.ref pl), some (.ref lf), v4, v5] ∧ Ext H H' ∧ H' pl = some (.lst ys) ∧ PartsAt H pl H' ys done ∧ ((lf = l ∧ lz = zs) ∨ lf ≠ pl ∧ H' lf = some (.lst (lz.map V.str))) ∧ lz.Sublist zs ∧ (∀ rest, Parts rows lz rest → Parts rows zs (done ++ rest)) ∧ done.length + lz.length ≤ zs.length ∧ m = lz.length,
      ⟨_, l, zs, [], [], _, _, rfl, x1, upd_same, ⟨rfl, fun i y hy => by cases hy⟩, .inl ⟨rfl, rfl⟩, List.Sublist.refl _, fun rest h => h, by simp, rfl⟩, ?_⟩
    rintro m σ H1 ⟨lf, lz, done, ys, v4, v5, rfl, x2, p2, pa, la, sl, im, dl, rfl⟩
    have lsq : ∀ {H2 : Hp}, Ext H H2 → (lf ≠ pl → H1 lf = some (.lst (lz.map V.str)) → H2 lf = some (.lst (lz.map V.str))) → SeqAt2 K H2 lf (lz.map V.str) := fun x h => by
      rcases la with ⟨rfl, rfl⟩ | ⟨h1, h2⟩
      · exact seq2_ext sq x
      · exact .inl (SqL.of (h h1 h2))
    have sq2 : SeqAt2 K H1 lf (lz.map V.str) := lsq x2 fun _ h => h
    have lzl : lz.length < 1000 := Nat.lt_of_le_of_lt sl.length_le len
    refine ⟨_, rfl, !(lz.map V.str).isEmpty, sq2.elim (fun s => .inl ⟨_, s, rfl⟩) (fun s => .inr (.inl ⟨_, s, rfl⟩)), ?_⟩
    refine ite2 (fun e => ?_) fun e => ?_
    · have ne : lz ≠ [] := fun z => by
        subst z
        cases e
      refine ⟨fun σ H' => ∃ lf lz' done ys v4 v5, σ = [some (.ref S), some (.ref l), some (.ref pl), some (.ref lf), v4, v5] ∧ Ext H H' ∧ H' pl = some (.lst ys) ∧ PartsAt H pl H' ys done ∧ ((lf = l ∧ lz' = zs) ∨ lf ≠ pl ∧ H' lf = some (.lst (lz'.map V.str))) ∧ lz'.Sublist zs ∧ (∀ rest, Parts rows lz' rest → Parts rows zs (done ++ rest)) ∧ done.length + lz'.length ≤ zs.length ∧ lz'.length < lz.length, ?_, ?_⟩
      · rintro σ' H' ⟨lf', lz', done', ys', w4, w5, e1, e2, e3, e4, e5, e6, e7, e10, e9⟩
        exact ⟨_, e9, lf', lz', done', ys', w4, w5, e1, e2, e3, e4, e5, e6, e7, e10, rfl⟩
      · refine ⟨_, rfl, _, rfl, S, lf, ks, lz, rows, rfl, gr.ext x2, sq2, ne, nd.sublist sl, fun z hz => sub z (sl.subset hz), lzl, three, rl, fun a p H2 x3 ha rc h2 => ?_⟩
        have na : a ≠ pl := fun e => by
          rw [e, p2] at ha
          cases ha
        refine ⟨_, rfl, .inl ⟨rfl, _, SqL.of (x3 _ _ p2)⟩, _, rfl, pl, ys, _, rfl, rfl, x3 _ _ p2, ?_, ?_⟩
        · rw [pa.1, sizeLine_eq]
          omega
        have pa4 := (pa.ext x3).snoc (ext_none x2 ha) na h2
        have x4 : Ext H (L2.upd H2 pl (.lst (ys ++ [.ref a]))) := (x2.trans x3).over hpl
        have a4 : (L2.upd H2 pl (.lst (ys ++ [.ref a]))) a = some (.lst ((lz.filter p).map V.str)) := by rw [upd_ne na]; exact h2
        have sq4 : SeqAt2 K (L2.upd H2 pl (.lst (ys ++ [.ref a]))) lf (lz.map V.str) := lsq x4 fun n h => by rw [upd_ne n]; exact x3 _ _ h
        dsimp only [gName, tAsg]
        refine lc_seq (K := K) (i := 3) (σ := [some (.ref S), some (.ref l), some (.ref pl), some (.ref lf), some (.ref a), v5]) (p := fun z => decide (z ∉ lz.filter p)) (h := V.str) rfl sq4 (by rw [sizeLine_eq]; omega) (fun z H5 Z N hz5 x5 yes no => ?_) fun D' H5 hD' x5 d5 => ?_
        · refine ⟨rfl, _, rfl, _, rfl, a, _, rfl, .inl (SqL.of (x5 _ _ a4)), rfl, flat_strs _, _, rfl, ?_⟩
          rw [if_pos rfl, inV_str]
          cases c : decide (z ∈ lz.filter p) with
          | true => exact no H5 Ext.rfl' (by rw [decide_eq_false]; exact fun k => k (of_decide_eq_true c))
          | false => exact ⟨_, rfl, yes H5 Ext.rfl' (by rw [decide_eq_true]; exact of_decide_eq_false c)⟩
        · rw [filter_not_in] at d5
          have nD : D' ≠ pl := fun e => by
            rw [e, upd_same] at hD'
            cases hD'
          have lp : (lz.filter fun z => !p z).length < lz.length := by
            cases lz with
            | nil => exact absurd rfl ne
            | cons z0 zr =>
              have p0 : p z0 = true := rc.1.1 z0 rfl
              rw [List.filter_cons, if_neg (by rw [p0]; exact Bool.false_ne_true), List.length_cons]
              exact Nat.lt_succ_of_le (List.length_filter_le _ _)
          refine ⟨D', _, done ++ [lz.filter p], _, _, _, rfl, x4.trans x5, x5 _ _ upd_same, pa4.ext x5, .inr ⟨nD, d5⟩, (List.filter_sublist).trans sl, fun rest h => ?_, ?_, lp⟩
          · rw [List.append_assoc]
            exact im _ (.cons p ne rc h)
          · rw [List.length_append, List.length_singleton]
            omega
    · have en : lz = [] := by
        cases lz with
        | nil => rfl
        | cons _ _ => exact absurd rfl e
      subst en
      have z := im [] .nil
      rw [List.append_nil] at z
      exact ⟨_, rfl, q pl ys done H1 x2 hpl p2 pa z⟩
end
end My

namespace My
open PySem PySem.Spec PyProof.Rows L2
/-! ### how a tree is laid -/
/-- the nodes zs lie under f in ov: parted, each part with a top that has all others of it below -/
inductive Lays (fo : List Str) (rows : List (List Str)) (ov : Str → Option Str) : Option Str → List Str → Prop
  | nil (f : Option Str) : Lays fo rows ov f []
  | cons {f : Option Str} {zs : List Str} (p : Str → Bool) (t : Str) : zs ≠ [] → Rch rows zs (fun z => p z = true) → t ∈ zs.filter p → ((zs.filter p).length = 1 ∨ topB fo rows (zs.filter p) t = true) → ov t = f →
      Lays fo rows ov (some t) ((zs.filter p).filter fun z => decide (z ≠ t)) → Lays fo rows ov f (zs.filter fun z => !p z) → Lays fo rows ov f zs
def look (d : Dic) (t : Str) : Option Str := match getD d t with
  | some (.str z) => some z
  | _ => none
abbrev Ent : Type := Option Str × List Str
/-- where the laying is: those that are tops, and what is still to be parted -/
structure InvW (fo : List Str) (rows : List (List Str)) (nodes : List Str) (d : Dic) (done : List Str) (W : List Ent) : Prop where
  perm : (done ++ W.flatMap (·.2)).Perm nodes
  keys : ∀ k v, getD d k = some v → k ∈ done ∧ ∃ f, f ∈ fo ∧ v = .str f
  ndk : (d.map (·.1)).Nodup
  sub : ∀ e, e ∈ W → e.2.Sublist nodes
  fol : ∀ e, e ∈ W → ∀ f, e.1 = some f → e.2 ≠ [] → f ∈ fo
  imp : ∀ ov, (∀ t, t ∈ done → ov t = look d t) → (∀ e, e ∈ W → Lays fo rows ov e.1 e.2) → Lays fo rows ov none nodes
  cnt : W.length ≤ done.length + 1
theorem InvW.start {fo : List Str} {rows : List (List Str)} {nodes : List Str} : InvW fo rows nodes [] [] [(none, nodes)] := by
  refine ⟨by simp, fun k v h => (by cases h), List.nodup_nil, fun e he => ?_, fun e he f hf _ => ?_, fun ov _ h => h (none, nodes) List.mem_cons_self, Nat.le_refl _⟩
  · rw [List.mem_singleton.mp he]
    exact List.Sublist.refl _
  · rw [List.mem_singleton.mp he] at hf
    cases hf
theorem InvW.done_ {fo : List Str} {rows : List (List Str)} {nodes : List Str} {d : Dic} {done : List Str} {W : List Ent} {f : Option Str} (h : InvW fo rows nodes d done (W ++ [(f, [])])) : InvW fo rows nodes d done W := by
  obtain ⟨h1, h2, hn, h3, h4, h5, h6⟩ := h
  refine ⟨?_, h2, hn, fun e he => h3 e (List.mem_append_left _ he), fun e he => h4 e (List.mem_append_left _ he), fun ov a b => h5 ov a fun e he => ?_, ?_⟩
  · rw [List.flatMap_append] at h1
    simpa using h1
  · rcases List.mem_append.mp he with k | k
    · exact b e k
    · rw [List.mem_singleton] at k
      rw [k]
      exact .nil f
  · rw [List.length_append, List.length_singleton] at h6
    omega
/-- the dict with the top set -/
def putT (d : Dic) (t : Str) (f : Option Str) : Dic := match f with
  | none => d
  | some g => setD d t (.str g)
theorem part_perm {zs : List Str} {p : Str → Bool} {t : Str} (nd : zs.Nodup) (ht : t ∈ zs.filter p) : (t :: ((zs.filter p).filter (fun z => decide (z ≠ t)) ++ zs.filter fun z => !p z)).Perm zs := by
  have h1 : (zs.filter p ++ zs.filter fun z => !p z).Perm zs := List.filter_append_perm p zs
  have h2 : (zs.filter p).Perm (t :: (zs.filter p).erase t) := List.perm_cons_erase ht
  have h3 : (zs.filter p).erase t = (zs.filter p).filter fun z => decide (z ≠ t) := by
    rw [List.Nodup.erase_eq_filter (nd.filter _)]
    refine List.filter_congr fun z _ => ?_
    by_cases e : z = t
    · rw [e]; simp
    · simp [e]
  rw [h3] at h2
  exact (h2.symm.append_right _).trans h1
theorem look_put {d : Dic} {t k : Str} {f : Option Str} (n : t ∉ d.map (·.1)) : look (putT d t f) k = if t = k then f else look d k := by
  cases f with
  | none =>
    show look d k = _
    by_cases e : t = k
    · subst e
      rw [if_pos rfl]
      unfold look
      rw [getD_none n]
    · rw [if_neg e]
  | some g =>
    show look (setD d t (.str g)) k = _
    unfold look
    rw [set_newG n, getD_app n]
    by_cases e : t = k
    · rw [if_pos e, if_pos e]
    · rw [if_neg e, if_neg e]
theorem InvW.step {fo : List Str} {rows : List (List Str)} {nodes : List Str} {d : Dic} {done : List Str} {W : List Ent} {f : Option Str} {zs : List Str} {p : Str → Bool} {t : Str} (h : InvW fo rows nodes d done (W ++ [(f, zs)])) (nd : nodes.Nodup) (ne : zs ≠ [])
    (rc : Rch rows zs (fun z => p z = true)) (ht : t ∈ zs.filter p) (tb : (zs.filter p).length = 1 ∨ topB fo rows (zs.filter p) t = true) : t ∉ d.map (·.1) ∧ (∀ g, f = some g → g ∈ fo) ∧
    InvW fo rows nodes (putT d t f) (done ++ [t]) ((W ++ [(some t, (zs.filter p).filter fun z => decide (z ≠ t))]) ++ [(f, zs.filter fun z => !p z)]) := by
  obtain ⟨h1, h2, hn, h3, h4, h5, h6⟩ := h
  have sz : zs.Sublist nodes := h3 (f, zs) (List.mem_append_right _ (List.mem_singleton.mpr rfl))
  have ndz : zs.Nodup := nd.sublist sz
  have mt : t ∈ zs := (List.mem_filter.mp ht).1
  have ff : ∀ g, f = some g → g ∈ fo := fun g e => h4 (f, zs) (List.mem_append_right _ (List.mem_singleton.mpr rfl)) g e ne
  have fl : (W ++ [(f, zs)]).flatMap (·.2) = W.flatMap (·.2) ++ zs := by
    rw [List.flatMap_append]
    simp
  rw [fl] at h1
  have ndp : (done ++ (W.flatMap (·.2) ++ zs)).Nodup := h1.nodup_iff.mpr nd
  have tn : t ∉ done := fun m => (List.nodup_append.mp ndp).2.2 t m t (List.mem_append_right _ mt) rfl
  have tk : t ∉ d.map (·.1) := fun m => by
    obtain ⟨q, hq, e⟩ := List.mem_map.mp m
    obtain ⟨v, hv⟩ : ∃ v, getD d t = some v := by
      unfold getD
      cases hh : d.find? fun p => decide (p.1 = t) with
      | some v => exact ⟨_, rfl⟩
      | none =>
        rw [List.find?_eq_none] at hh
        exact absurd (decide_eq_true e) (hh q hq)
    exact tn (h2 t v hv).1
  refine ⟨tk, ff, ⟨?_, ?_, ?_, ?_, ?_, ?_, ?_⟩⟩
  · rw [List.flatMap_append, List.flatMap_append]
    have e1 : ([(some t, (zs.filter p).filter fun z => decide (z ≠ t))] : List Ent).flatMap (·.2) = (zs.filter p).filter fun z => decide (z ≠ t) := by simp
    have e2 : ([(f, zs.filter fun z => !p z)] : List Ent).flatMap (·.2) = zs.filter fun z => !p z := by simp
    rw [e1, e2]
    refine List.Perm.trans ?_ h1
    rw [List.append_assoc, List.append_assoc]
    refine List.Perm.append_left _ ?_
    refine List.Perm.trans ?_ (List.Perm.append_left _ (part_perm ndz ht))
    rw [List.singleton_append]
    exact List.perm_middle.symm
  · intro k v hk
    cases f with
    | none =>
      obtain ⟨a, b⟩ := h2 k v hk
      exact ⟨List.mem_append_left _ a, b⟩
    | some g =>
      have hk : getD (setD d t (.str g)) k = some v := hk
      rw [set_newG tk, getD_app tk] at hk
      by_cases e : t = k
      · rw [if_pos e] at hk
        injection hk with hk
        exact ⟨List.mem_append_right _ (List.mem_singleton.mpr e.symm), g, ff g rfl, hk.symm⟩
      · rw [if_neg e] at hk
        obtain ⟨a, b⟩ := h2 k v hk
        exact ⟨List.mem_append_left _ a, b⟩
  · cases f with
    | none => exact hn
    | some g =>
      show ((setD d t (.str g)).map (·.1)).Nodup
      rw [set_newG tk, List.map_append, List.nodup_append]
      refine ⟨hn, by simp, fun a ha b hb e => ?_⟩
      have : b = t := by simpa using hb
      rw [e, this] at ha
      exact tk ha
  · intro e he
    rcases List.mem_append.mp he with k | k
    · rcases List.mem_append.mp k with k | k
      · exact h3 e (List.mem_append_left _ k)
      · rw [List.mem_singleton] at k
        rw [k]
        exact (List.filter_sublist.trans List.filter_sublist).trans sz
    · rw [List.mem_singleton] at k
      rw [k]
      exact List.filter_sublist.trans sz
  · intro e he g eg ne'
    rcases List.mem_append.mp he with k | k
    · rcases List.mem_append.mp k with k | k
      · exact h4 e (List.mem_append_left _ k) g eg ne'
      · rw [List.mem_singleton] at k
        rw [k] at eg ne'
        injection eg with eg
        subst eg
        rcases tb with l1 | tb
        · refine absurd ?_ ne'
          show (zs.filter p).filter (fun z => decide (z ≠ t)) = []
          obtain ⟨a, ha⟩ := List.length_eq_one_iff.mp l1
          rw [ha] at ht ⊢
          rw [List.mem_singleton] at ht
          rw [ht]
          simp
        · unfold topB at tb
          exact of_decide_eq_true (Bool.and_eq_true_iff.mp tb).1
    · rw [List.mem_singleton] at k
      rw [k] at eg
      exact ff g eg
  · intro ov a b
    refine h5 ov (fun k hk => ?_) fun e he => ?_
    · rw [a k (List.mem_append_left _ hk), look_put tk, if_neg fun e => tn (by rw [e]; exact hk)]
    · rcases List.mem_append.mp he with k | k
      · exact b e (List.mem_append_left _ (List.mem_append_left _ k))
      · rw [List.mem_singleton] at k
        rw [k]
        refine .cons p t ne rc ht tb ?_ ?_ ?_
        · rw [a t (List.mem_append_right _ (List.mem_singleton.mpr rfl)), look_put tk, if_pos rfl]
        · exact b (some t, (zs.filter p).filter fun z => decide (z ≠ t)) (List.mem_append_left _ (List.mem_append_right _ (List.mem_singleton.mpr rfl)))
        · exact b (f, zs.filter fun z => !p z) (List.mem_append_right _ (List.mem_singleton.mpr rfl))
  · simp only [List.length_append, List.length_singleton] at h6 ⊢
    omega
/-- a part without a top -/
theorem part_topless {fo : List Str} {rows : List (List Str)} {zs : List Str} {p : Str → Bool} (three : ∀ r, r ∈ rows → ∃ w a b, r = [w, a, b]) (rc : Rch rows zs (fun z => p z = true)) (e : (zs.filter p).filter (topB fo rows (zs.filter p)) = []) : Topless fo rows (zs.filter p) := by
  refine ⟨?_, fun z hz hf => ?_⟩
  · have := part_joined rc
    have e' : (zs.filter fun z => decide (p z = true)) = zs.filter p := List.filter_congr fun z _ => by cases p z <;> rfl
    rw [e'] at this
    exact this
  · have n := List.filter_eq_nil_iff.mp e z hz
    unfold topB at n
    rw [decide_eq_true hf, Bool.true_and] at n
    have k : ((zs.filter p).any fun o => decide (o ∈ barS rows z)) = true := by
      cases h : (zs.filter p).any fun o => decide (o ∈ barS rows z) with
      | true => rfl
      | false => exact absurd (by rw [h]; rfl) n
    obtain ⟨o, ho, hb⟩ := List.any_eq_true.mp k
    exact ⟨o, ho, (mem_bar three).mp (of_decide_eq_true hb)⟩
end My

namespace My
open PySem PySem.Spec PyProof.Rows L2
def optZ (f : Option Str) : V := match f with
  | none => .non
  | some z => .str z
/-- the list of what is still to be parted: tuples of a folder or None and a list, or the tuple of all nodes -/
def WorkAt (w n0 : Addr) (nodes : List Str) (H : Hp) (vs : List V) (W : List Ent) : Prop := vs.length = W.length ∧ ∀ (i : Nat) (v : V), vs[i]? = some v → ∃ t e l, v = .ref t ∧ W[i]? = some e ∧ H t = some (.tup [optZ e.1, .ref l]) ∧ ((e.2 = nodes ∧ l = n0) ∨ l ≠ w ∧ H l = some (.lst (e.2.map V.str)))
theorem WorkAt.ext {w n0 : Addr} {nodes : List Str} {H H' : Hp} {vs : List V} {W : List Ent} (h : WorkAt w n0 nodes H vs W) (e : Ext H H') : WorkAt w n0 nodes H' vs W := ⟨h.1, fun i v hv => by
  obtain ⟨t, x, l, h1, h2, h3, h4⟩ := h.2 i v hv
  exact ⟨t, x, l, h1, h2, e _ _ h3, h4.imp id fun z => ⟨z.1, e _ _ z.2⟩⟩⟩
/-- another list, or a dict, is written -/
theorem WorkAt.updD {w n0 D : Addr} {nodes : List Str} {H : Hp} {vs : List V} {W : List Ent} {kvs : List (Key × V)} {o : HO} (h : WorkAt w n0 nodes H vs W) (hD : H D = some (.dK kvs)) : WorkAt w n0 nodes (L2.upd H D o) vs W := ⟨h.1, fun i v hv => by
  obtain ⟨t, x, l, h1, h2, h3, h4⟩ := h.2 i v hv
  refine ⟨t, x, l, h1, h2, ?_, h4.imp id fun z => ⟨z.1, ?_⟩⟩
  · rw [upd_ne fun e => by rw [e, hD] at h3; cases h3]
    exact h3
  · rw [upd_ne fun e => by rw [e, hD] at z; exact nomatch z.2]
    exact z.2⟩
theorem WorkAt.updW {w n0 : Addr} {nodes : List Str} {H : Hp} {vs : List V} {W : List Ent} {ys : List V} {o : HO} (h : WorkAt w n0 nodes H vs W) (hw : H w = some (.lst ys)) : WorkAt w n0 nodes (L2.upd H w o) vs W := ⟨h.1, fun i v hv => by
  obtain ⟨t, x, l, h1, h2, h3, h4⟩ := h.2 i v hv
  refine ⟨t, x, l, h1, h2, ?_, h4.imp id fun z => ⟨z.1, ?_⟩⟩
  · rw [upd_ne fun e => by rw [e, hw] at h3; cases h3]
    exact h3
  · rw [upd_ne z.1]
    exact z.2⟩
theorem WorkAt.snoc {w n0 t l : Addr} {nodes : List Str} {H : Hp} {vs : List V} {W : List Ent} {e : Ent} (h : WorkAt w n0 nodes H vs W) (ht : H t = some (.tup [optZ e.1, .ref l])) (nl : l ≠ w) (hl : H l = some (.lst (e.2.map V.str))) : WorkAt w n0 nodes H (vs ++ [.ref t]) (W ++ [e]) := by
  refine ⟨by rw [List.length_append, List.length_append, h.1]; rfl, fun i v hv => ?_⟩
  by_cases c : i < vs.length
  · rw [List.getElem?_append_left c] at hv
    obtain ⟨t, x, l, h1, h2, h3, h4⟩ := h.2 i v hv
    exact ⟨t, x, l, h1, by rw [List.getElem?_append_left (by rw [← h.1]; exact c)]; exact h2, h3, h4⟩
  · rw [List.getElem?_append_right (by omega)] at hv
    have e0 : i - vs.length = 0 := by
      have := (List.getElem?_eq_some_iff.mp hv).1
      rw [List.length_singleton] at this
      omega
    rw [e0] at hv
    injection hv with hv
    refine ⟨t, e, l, hv.symm, ?_, ht, .inr ⟨nl, hl⟩⟩
    rw [List.getElem?_append_right (by rw [← h.1]; omega), ← h.1, e0]
    rfl
theorem WorkAt.last {w n0 : Addr} {nodes : List Str} {H : Hp} {vs : List V} {W : List Ent} (h : WorkAt w n0 nodes H vs W) (ne : vs ≠ []) : ∃ W0 e t l, W = W0 ++ [e] ∧ vs[vs.length - 1]? = some (.ref t) ∧ H t = some (.tup [optZ e.1, .ref l]) ∧ ((e.2 = nodes ∧ l = n0) ∨ l ≠ w ∧ H l = some (.lst (e.2.map V.str))) ∧ WorkAt w n0 nodes H vs.dropLast W0 := by
  have lp : 0 < vs.length := List.length_pos_iff.mpr ne
  obtain ⟨v, hv⟩ : ∃ v, vs[vs.length - 1]? = some v := ⟨_, List.getElem?_eq_getElem (by omega)⟩
  obtain ⟨t, e, l, rfl, h2, h3, h4⟩ := h.2 _ v hv
  have nW : W ≠ [] := fun z => by
    have := h.1
    rw [z, List.length_nil] at this
    omega
  have eW : W.getLast nW = e := by
    rw [List.getLast_eq_getElem]
    rw [h.1] at h2
    exact (List.getElem?_eq_some_iff.mp h2).2
  refine ⟨W.dropLast, e, t, l, ?_, hv, h3, h4, ?_, fun i v hv => ?_⟩
  · rw [← eW, List.dropLast_concat_getLast]
  · rw [List.length_dropLast, List.length_dropLast, h.1]
  · rw [List.getElem?_dropLast] at hv
    split at hv
    · next c =>
      obtain ⟨t, x, l, g1, g2, g3, g4⟩ := h.2 i v hv
      refine ⟨t, x, l, g1, ?_, g3, g4⟩
      rw [List.getElem?_dropLast, if_pos (by rw [← h.1]; exact c)]
      exact g2
    · cases hv
theorem PartsAt.updW {H0 H : Hp} {w : Addr} {ys : List V} {ps : List (List Str)} {o : HO} (h : PartsAt H0 w H ys ps) : PartsAt H0 w (L2.upd H w o) ys ps := ⟨h.1, fun i y hy => by
  obtain ⟨a, p, h1, h2, h3, h4, h5⟩ := h.2 i y hy
  exact ⟨a, p, h1, h2, h3, h4, by rw [upd_ne h4]; exact h5⟩⟩
theorem PartsAt.updD {H0 H : Hp} {w D : Addr} {ys : List V} {ps : List (List Str)} {o : HO} {kvs : List (Key × V)} (h : PartsAt H0 w H ys ps) (hD : H D = some (.dK kvs)) : PartsAt H0 w (L2.upd H D o) ys ps := ⟨h.1, fun i y hy => by
  obtain ⟨a, p, h1, h2, h3, h4, h5⟩ := h.2 i y hy
  exact ⟨a, p, h1, h2, h3, h4, by rw [upd_ne fun e => by rw [e, hD] at h5; cases h5]; exact h5⟩⟩
theorem PartsAt.re {H0 H : Hp} {w pl : Addr} {u : HO} {ys : List V} {ps : List (List Str)} (h : PartsAt H0 pl H ys ps) (hw : H0 w = some u) : PartsAt (fun _ => none) w H ys ps := ⟨h.1, fun i y hy => by
  obtain ⟨a, p, h1, h2, h3, h4, h5⟩ := h.2 i y hy
  exact ⟨a, p, h1, h2, rfl, (fun e => by rw [e, hw] at h3; cases h3), h5⟩⟩
theorem Parts.inv {rows : List (List Str)} {zs q : List Str} {ps : List (List Str)} (h : Parts rows zs (q :: ps)) : ∃ p : Str → Bool, q = zs.filter p ∧ zs ≠ [] ∧ Rch rows zs (fun z => p z = true) ∧ Parts rows (zs.filter fun z => !p z) ps := by
  cases h with
  | cons p h1 h2 h3 => exact ⟨p, rfl, h1, h2, h3⟩
theorem Parts.inv0 {rows : List (List Str)} {zs : List Str} (h : Parts rows zs []) : zs = [] := by
  cases h
  rfl
theorem InvW.dlen {fo : List Str} {rows : List (List Str)} {nodes : List Str} {d : Dic} {done : List Str} {W : List Ent} (h : InvW fo rows nodes d done W) : d.length ≤ nodes.length := by
  rw [← List.length_map (f := (·.1))]
  refine nodup_sub_len h.ndk fun k hk => ?_
  obtain ⟨q, hq, e⟩ := List.mem_map.mp hk
  obtain ⟨v, hv⟩ : ∃ v, getD d k = some v := by
    unfold getD
    cases hh : d.find? fun p => decide (p.1 = k) with
    | some v => exact ⟨_, rfl⟩
    | none =>
      rw [List.find?_eq_none] at hh
      exact absurd (decide_eq_true e) (hh q hq)
  exact h.perm.mem_iff.mp (List.mem_append_left _ (h.keys k v hv).1)
theorem InvW.donelen {fo : List Str} {rows : List (List Str)} {nodes : List Str} {d : Dic} {done : List Str} {W : List Ent} (h : InvW fo rows nodes d done W) : done.length ≤ nodes.length := by
  rw [← h.perm.length_eq, List.length_append]
  omega
def mu (W : List Ent) : Nat := (W.map fun e => 2 * e.2.length + 1).sum
theorem mu_snoc (W : List Ent) (e : Ent) : mu (W ++ [e]) = mu W + (2 * e.2.length + 1) := by
  unfold mu
  rw [List.map_append, List.sum_append]
  simp
/-- a dict of folders by nodes that lays all nodes -/
def Laid (fo : List Str) (rows : List (List Str)) (nodes : List Str) (d : Dic) : Prop := (∀ k v, getD d k = some v → k ∈ nodes ∧ ∃ f, f ∈ fo ∧ v = .str f) ∧ (d.map (·.1)).Nodup ∧ Lays fo rows (look d) none nodes
def spTreeOr (K : PySem.W.Frag) (CF C : Addr) : Sp := fun vs H Q _ => ∃ a fo th rows, vs = [.ref a] ∧ FacAt H K CF C a fo th rows ∧ (fo ++ th).Nodup ∧ (fo ++ th).length < 1000 ∧ FactR fo th rows ∧ rows.length < 1000 ∧
  (∀ t t2 zs H', Ext H H' → SqT K H' t [.non, .ref t2] → SqT K H' t2 (zs.map V.str) → 2 ≤ zs.length → zs.Sublist (fo ++ th) → Topless fo rows zs → Q (.ref t) H') ∧
  (∀ t D d H', Ext H H' → SqT K H' t [.ref D, .non] → H D = none → H' D = some (.dK (kd d)) → Laid fo rows (fo ++ th) d → Q (.ref t) H')
abbrev nm_tree_or_group : List Str := ["facts", "steps", "bars", "over", "work", "folder", "nodes", "part", "tops", "node"]
theorem sc_tree_or_group : FnScope nm_tree_or_group ["facts"] (defScope s_tree_or_group) := ⟨rfl, rfl, rfl, by decide +kernel, rfl, by decide +kernel, by decide +kernel⟩
section
variable {P : Program} {w : World} {K : PySem.W.Frag} {mg : Str → Option Value} {base : Heap} {f C CB CF : Addr} {fd : FuncData}
theorem ok_treeOr (Fn : FnP K "tree_or_group" s_tree_or_group f fd) (F : FacTxt P w K mg CF C CB) {CBH : Addr} (Z : HouseTxt P w K mg C CBH) (hsteps_of : Has P w K mg base 2 "steps_of" ["facts"] (spSteps K CF C)) (hbars_of : Has P w K mg base 2 "bars_of" ["facts"] (spBars K CF C))
    (hparts_of : Has P w K mg base 2 "parts_of" ["steps", "nodes"] (spParts K)) (htops_of : Has P w K mg base 1 "tops_of" ["bars", "nodes"] (spTops K)) (gB_tuple : mg "tuple" = none) : FnOk P w K mg base CX0 3 f fd ["facts"] (spTreeOr K CF C) := by
  refine Fn.ok sc_tree_or_group (fun vs H Q E h => ?_) (fun cdv A outer s H vs Q E hr h => ⟨_, PSs.nox
    (pss_cons (ps_set (i := 1) sc_tree_or_group.nd rfl (Or.inl rfl) (pe_has hsteps_of (hr.mono (by decide)) (pa_cons (pv 0) pa_nil)))
      (pss_cons (ps_set (i := 2) sc_tree_or_group.nd rfl (Or.inl rfl) (pe_has hbars_of (hr.mono (by decide)) (pa_cons (pv 0) pa_nil)))
      (pss_cons (ps_set (i := 3) sc_tree_or_group.nd rfl (Or.inl rfl) pe_dnewK)
      (pss_cons (ps_set (i := 4) sc_tree_or_group.nd rfl (Or.inl rfl) (pe_lst (pa_cons (pe_tup (pa_cons pe_non (pa_cons (pe_fld (pe_fld (pv 0) rfl) rfl) pa_nil))) pa_nil)))
      (pss_cons (ps_while PassesOwn.never (pt_truth (pv 4) (by intro _; rfl)) (pss_cons (ps_asg (pe_bm0 PySem.F.plainAttrs_list PySem.F.slot_list_pop PySem.F.type_list_pop mt_pop (pv 4)) (pg_tup rfl (pgs_cons (pg_name (i := 5) sc_tree_or_group.nd rfl (Or.inl rfl)) (pgs_cons (pg_name (i := 6) sc_tree_or_group.nd rfl (Or.inl rfl)) pgs_nil))))
      (pss_one (ps_for PassesOwn.never rfl (pi_list (pe_has hparts_of (hr.mono (by decide)) (pa_cons (pv 1) (pa_cons (pv 6) pa_nil)))) (pg_name (i := 7) sc_tree_or_group.nd rfl (Or.inl rfl))
      (pss_cons (ps_set (i := 8) sc_tree_or_group.nd rfl (Or.inr rfl) (pe_has htops_of (hr.mono (by decide)) (pa_cons (pv 2) (pa_cons (pv 7) pa_nil))))
      (pss_cons (ps_if (pt_not (pt_truth (pv 8) (by intro _; rfl))) (pss_one (ps_ret (pe_tup (pa_cons pe_non (pa_cons (pe_callTy call_tup (by rfl) gB_tuple (by decide +kernel) (pa_cons (pv 7) pa_nil)) pa_nil))))) pss_nil)
      (C8.pss_cut (ps_if (pt_cmpR op_notN (pv 5) pe_non (nomark _)) (pss_one (ps_dput (hu_of hr) (pv 3) (pe_ix ix_list (pv 8) pe_int (fun _ _ => rfl)) (pv 5) rfl)) pss_nil)
      (pss_one (ps_expr (pe_bm PySem.F.plainAttrs_list PySem.F.slot_list_append PySem.F.type_list_append mt_append (pv 4) (pa_cons (pe_tup (pa_cons (pe_ix ix_list (pv 8) pe_int (fun _ _ => rfl)) (pa_cons (pe_lc (own := [("node", 9)]) (g := (gName 9)) rfl sc_tree_or_group.nd (pi_list (pv 7)) (blkOk_by (N := nm_tree_or_group) (sc := defScope s_tree_or_group) (by decide +kernel)) (fun _ _ _ _ _ => (pg_name (i := 9) sc_tree_or_group.nd rfl (Or.inl rfl))) (fun _ _ _ _ _ => pts_one (pt_cmpR op_ne (pv 9) (pe_ix (ixK (r := rIxL) (K := K) rfl ix_list) (pv 8) pe_int (fun _ _ => rfl)) (nomark _))) (fun _ _ _ _ _ => (pv 9))) pa_nil))) pa_nil)))))))))))
      (pss_one (ps_ret (pe_tup (pa_cons (pv 3) (pa_cons pe_non pa_nil)))))))))), ?_⟩)
  · obtain ⟨a, fo, th, rows, rfl, _⟩ := h
    rfl
  · obtain ⟨a, fo, th, rows, rfl, fa, nd, len, fr, rl, qg, qd⟩ := h
    have three : ∀ r, r ∈ rows → ∃ w a b, r = [w, a, b] := fun r hr => by
      obtain ⟨w, a, b, e, _⟩ := fr r hr
      exact ⟨w, a, b, e⟩
    have fa0 := fa
    refine ⟨_, rfl, a, fo, th, rows, rfl, fa0, nd, len, fr, rl, fun S H1 x1 hS gS => ?_⟩
    refine ⟨_, rfl, a, fo, th, rows, rfl, fa0.ext x1, nd, len, fr, rl, fun B H2 x2 hB gB => ?_⟩
    have x02 := x1.trans x2
    obtain ⟨dx, fs, h, r, ys0, h1, h2, h3, h4, h5, h6, h7, h8⟩ := fa
    obtain ⟨⟨dx', fs', ff, t, n, g1, g2, g3, g4, g5, g6, g7⟩, ok1, ok2⟩ := h4
    have enodes : fo.map V.str ++ th.map V.str = (fo ++ th).map V.str := (List.map_append ..).symm
    rw [enodes] at g7
    refine fun D hD => ?_
    have x3 : Ext H2 (L2.upd H2 D (.dK [])) := Ext.upd hD
    refine ⟨_, rfl, a, CF, dx, fs, _, rfl, x3 _ _ (x02 _ _ h1), F.T.cl, F.T.nh, h2, h, C, dx', fs', _, rfl, x3 _ _ (x02 _ _ g1), Z.T.cl, Z.T.nn, g4, Nat.le_of_ble_eq_true rfl, fun t0 ht0 => ⟨Nat.le_of_ble_eq_true rfl, fun w hw => ?_⟩⟩
    have x4 : Ext H2 (L2.upd (L2.upd H2 D (.dK [])) t0 (.tup [.non, .ref n])) := x3.trans (Ext.upd ht0)
    have hD0 : H D = none := ext_none x02 hD
    have hw2 : H2 w = none := ext_none x4 hw
    have nwD : w ≠ D := fun e => by
      rw [e, upd_ne (fun e' => by rw [← e', upd_same] at ht0; cases ht0), upd_same] at hw
      cases hw
    have ntw : t0 ≠ w := fun e => by
      rw [e, upd_same] at hw
      cases hw
    have ntD : t0 ≠ D := fun e => by
      rw [e, upd_same] at ht0
      cases ht0
    refine ⟨fun m σ H' => ∃ v5 v6 v7 v8 v9 d vs Wc done, σ = [some (.ref a), some (.ref S), some (.ref B), some (.ref D), some (.ref w), v5, v6, v7, v8, v9] ∧ Ext H2 H' ∧ H' D = some (.dK (kd d)) ∧ H' w = some (.lst vs) ∧ WorkAt w n (fo ++ th) H' vs Wc ∧ InvW fo rows (fo ++ th) d done Wc ∧ m = mu Wc,
      ⟨_, _, _, _, _, _, [], [.ref t0], [(none, fo ++ th)], [], rfl, x4.trans (Ext.upd hw), ?_, upd_same, ⟨rfl, fun i v hv => ?_⟩, InvW.start, rfl⟩, ?_⟩
    · rw [upd_ne nwD.symm, upd_ne ntD.symm, upd_same]
      rfl
    · have e0 : i = 0 := by
        have := (List.getElem?_eq_some_iff.mp hv).1
        rw [List.length_singleton] at this
        omega
      subst e0
      injection hv with hv
      refine ⟨t0, _, n, hv.symm, rfl, ?_, .inl ⟨rfl, rfl⟩⟩
      rw [upd_ne ntw, upd_same]
      rfl
    rintro m σ H3 ⟨v5, v6, v7, v8, v9, d, vs, Wc, done, rfl, y3, hD3, hw3, wa, iv, rfl⟩
    refine ⟨_, rfl, !vs.isEmpty, .inl ⟨_, SqL.of hw3, rfl⟩, ?_⟩
    refine ite2 (fun e => ?_) fun e => ?_
    · have ne : vs ≠ [] := fun z => by
        subst z
        cases e
      obtain ⟨W0, ⟨f0, zs0⟩, t1, l1, rfl, hv, ht1, hl1, wa0⟩ := wa.last ne
      refine ⟨fun σ H' => ∃ v5 v6 v7 v8 v9 d vs Wc done, σ = [some (.ref a), some (.ref S), some (.ref B), some (.ref D), some (.ref w), v5, v6, v7, v8, v9] ∧ Ext H2 H' ∧ H' D = some (.dK (kd d)) ∧ H' w = some (.lst vs) ∧ WorkAt w n (fo ++ th) H' vs Wc ∧ InvW fo rows (fo ++ th) d done Wc ∧ mu Wc < mu (W0 ++ [(f0, zs0)]), ?_, ?_⟩
      · rintro σ' H' ⟨w5, w6, w7, w8, w9, d', vs', Wc', done', e1, e2, e3, e4, e5, e6, e7⟩
        exact ⟨_, e7, w5, w6, w7, w8, w9, d', vs', Wc', done', e1, e2, e3, e4, e5, e6, rfl⟩
      have n1w : t1 ≠ w := fun e => by
        rw [e, hw3] at ht1
        cases ht1
      have y4 : Ext H2 (L2.upd H3 w (.lst vs.dropLast)) := y3.over hw2
      obtain ⟨H4, hH4⟩ : ∃ H4, H4 = L2.upd H3 w (.lst vs.dropLast) := ⟨_, rfl⟩
      have ht4 : H4 t1 = some (.tup [optZ f0, .ref l1]) := by rw [hH4, upd_ne n1w]; exact ht1
      have hD4 : H4 D = some (.dK (kd d)) := by rw [hH4, upd_ne nwD.symm]; exact hD3
      have hw4 : H4 w = some (.lst vs.dropLast) := by rw [hH4, upd_same]
      have wa4 : WorkAt w n (fo ++ th) H4 vs.dropLast W0 := by rw [hH4]; exact wa0.updW hw3
      have sub0 : zs0.Sublist (fo ++ th) := iv.sub (f0, zs0) (List.mem_append_right _ (List.mem_singleton.mpr rfl))
      have sq4 : SeqAt2 K H4 l1 (zs0.map V.str) := by
        rcases hl1 with ⟨e1, e2⟩ | ⟨e1, e2⟩
        · have e1 : zs0 = fo ++ th := e1
          rw [e1, e2, hH4]
          exact .inr (g7.ext (x02.trans y4))
        · refine .inl (SqL.of ?_)
          rw [hH4, upd_ne e1]
          exact e2
      rw [← hH4] at y4
      refine ⟨_, rfl, .inl ⟨rfl, _, SqL.of hw3⟩, w, vs, _, rfl, rfl, hw3, hv, ?_⟩
      refine ⟨t1, [optZ f0, .ref l1], rfl, SqT.of (by rw [← hH4]; exact ht4), rfl, _, _, rfl, _, _, rfl, rfl, ?_⟩
      rw [← hH4]
      clear hH4
      refine ⟨_, rfl, _, rfl, S, l1, fo ++ th, zs0, rows, rfl, (gS.ext x2).ext y4, sq4, nd.sublist sub0, fun z hz => sub0.subset hz, Nat.lt_of_le_of_lt sub0.length_le len, three, rl, fun pl ys ps H5 x5 hpl p5 pa5 pr => ?_⟩
      have nplw : pl ≠ w := fun e => by
        rw [e, hw4] at hpl
        cases hpl
      refine ⟨pl, rfl, ⟨_, SqL.of p5⟩, for_list (K := K) (a := pl) (xs := ys) (fun i σ H' => ∃ v7 v8 v9 d vs Wc done rest, σ = [some (.ref a), some (.ref S), some (.ref B), some (.ref D), some (.ref w), some (optZ f0), some (.ref l1), v7, v8, v9] ∧ Ext H2 H' ∧ H' D = some (.dK (kd d)) ∧ H' w = some (.lst vs) ∧
        WorkAt w n (fo ++ th) H' vs Wc ∧ InvW fo rows (fo ++ th) d done (Wc ++ [(f0, rest)]) ∧ Parts rows rest (ps.drop i) ∧ mu Wc + 2 * rest.length ≤ mu W0 + 2 * zs0.length ∧ H' pl = some (.lst ys) ∧ PartsAt (fun _ => none) w H' ys ps)
        ⟨_, _, _, d, _, W0, done, zs0, rfl, y4.trans x5, x5 _ _ hD4, x5 _ _ hw4, wa4.ext x5, iv, pr, Nat.le_refl _, p5, pa5.re hw4⟩ (fun i σ H' _ p => ?_) ?_ ?_⟩
      · obtain ⟨_, _, _, _, _, _, _, _, _, _, _, _, _, _, _, _, p9, _⟩ := p
        exact SqL.of p9
      · rintro i y σ H6 hy ⟨v7, v8, v9, d, vs, Wc, done, rest, rfl, y6, hD6, hw6, wa6, iv6, pr6, mu6, p6, pa6⟩
        obtain ⟨b, part, rfl, hps, _, nbw, hb6⟩ := pa6.2 i y hy
        have dr : ps.drop i = part :: ps.drop (i + 1) := by
          obtain ⟨hlt, e⟩ := List.getElem?_eq_some_iff.mp hps
          rw [List.drop_eq_getElem_cons hlt, e]
        rw [dr] at pr6
        obtain ⟨p, rfl, rne, rc, pr7⟩ := pr6.inv
        have subr : rest.Sublist (fo ++ th) := iv6.sub (f0, rest) (List.mem_append_right _ (List.mem_singleton.mpr rfl))
        have ndr : rest.Nodup := nd.sublist subr
        have subp : (rest.filter p).Sublist (fo ++ th) := List.filter_sublist.trans subr
        have plen : (rest.filter p).length < 1000 := Nat.lt_of_le_of_lt subp.length_le len
        have pne : rest.filter p ≠ [] := fun z => by
          cases rest with
          | nil => exact rne rfl
          | cons z0 zr =>
            have := List.filter_eq_nil_iff.mp z z0 List.mem_cons_self
            exact this (rc.1.1 z0 rfl)
        refine ⟨_, rfl, _, rfl, B, b, fo, rest.filter p, rows, rfl, gB.ext y6, .inl (SqL.of hb6), plen, fun tl tops H7 x7 htl0 tof => ?_⟩
        have hb7 := x7 _ _ hb6
        have htl : H7 tl = some (.lst (tops.map V.str)) := by
          rcases htl0 with ⟨rfl, rfl⟩ | ⟨_, z⟩
          · exact hb7
          · exact z
        refine ⟨_, rfl, !(tops.map V.str).isEmpty, .inl ⟨_, SqL.of htl, rfl⟩, ?_⟩
        refine ite2 (fun e => ?_) fun e => ?_
        · have et : tops = [] := by
            cases tops with
            | nil => rfl
            | cons _ _ => cases e
          subst et
          have tof2 : (rest.filter p).length ≠ 1 ∧ (rest.filter p).filter (topB fo rows (rest.filter p)) = [] := by
            rcases tof with ⟨_, z⟩ | ⟨z1, z2⟩
            · exact absurd z.symm pne
            · exact ⟨z1, z2.symm⟩
          refine ⟨_, rfl, b, _, rfl, .inl (SqL.of hb7), fun t2 H8 x8 s2 => ⟨Nat.le_of_ble_eq_true rfl, fun t3 ht3 => ?_⟩⟩
          refine qg t3 t2 (rest.filter p) _ ((x02.trans y6).trans (x7.trans (x8.trans (Ext.upd ht3)))) (SqT.of upd_same) (s2.ext (Ext.upd ht3)) ?_ subp (part_topless three rc tof2.2)
          have := List.length_pos_iff.mpr pne
          have := tof2.1
          omega
        · obtain ⟨tt, tr, rfl⟩ : ∃ tt tr, tops = tt :: tr := by
            cases tops with
            | nil => exact absurd rfl e
            | cons z zr => exact ⟨z, zr, rfl⟩
          have hit : tt ∈ rest.filter p ∧ ((rest.filter p).length = 1 ∨ topB fo rows (rest.filter p) tt = true) := by
            rcases tof with ⟨z1, z2⟩ | ⟨_, z2⟩
            · exact ⟨by rw [← z2]; exact List.mem_cons_self, .inl z1⟩
            · have m : tt ∈ (rest.filter p).filter (topB fo rows (rest.filter p)) := by rw [← z2]; exact List.mem_cons_self
              exact ⟨(List.mem_filter.mp m).1, .inr (List.mem_filter.mp m).2⟩
          obtain ⟨tk, fof, iv7⟩ := iv6.step nd rne rc hit.1 hit.2
          have at0 : atI (((tt :: tr) : List Str).map V.str) 0 = some (.str tt) := atI_nat (j := 0) rfl
          have dl := iv6.dlen
          have dnl := iv6.donelen
          have hD7 := x7 _ _ hD6
          have hw7 := x7 _ _ hw6
          refine ⟨fun σ H' => σ = [some (.ref a), some (.ref S), some (.ref B), some (.ref D), some (.ref w), some (optZ f0), some (.ref l1), some (.ref b), some (.ref tl), v9] ∧ Ext H2 H' ∧ H' D = some (.dK (kd (putT d tt f0))) ∧ H' w = some (.lst vs) ∧
            WorkAt w n (fo ++ th) H' vs Wc ∧ H' pl = some (.lst ys) ∧ PartsAt (fun _ => none) w H' ys ps ∧ H' tl = some (.lst (((tt :: tr) : List Str).map V.str)) ∧ H' b = some (.lst ((rest.filter p).map V.str)), ?_, ?_⟩
          · refine ⟨_, rfl, rfl, _, rfl, ?_⟩
            cases f0 with
            | none =>
              refine iteF ?_
              exact ⟨rfl, y6.trans x7, hD7, hw7, wa6.ext x7, x7 _ _ p6, pa6.ext x7, htl, hb7⟩
            | some g =>
              refine iteT ?_
              refine ⟨_, rfl, _, rfl, _, rfl, tl, _, 0, _, rfl, rfl, SqL.of htl, at0, D, _, rfl, .inl ⟨_, Sum.inr tt, hD7, rfl, ?_, rfl⟩, ?_⟩
              · rw [kd_len, sizeLine_eq]
                omega
              · have nd1 : ∀ {q : Addr} {xs : List V}, H7 q = some (.lst xs) → q ≠ D := fun {q xs} h e => by
                  rw [e, hD7] at h
                  cases h
                refine ⟨rfl, (y6.trans x7).over hD, by rw [upd_same, put_kd]; rfl, ?_, (wa6.ext x7).updD hD7, ?_, (pa6.ext x7).updD hD7, ?_, ?_⟩
                · rw [upd_ne nwD]
                  exact hw7
                · rw [upd_ne (nd1 (x7 _ _ p6))]
                  exact x7 _ _ p6
                · rw [upd_ne (nd1 htl)]
                  exact htl
                · rw [upd_ne (nd1 hb7)]
                  exact hb7
          · rintro σ H8 ⟨rfl, y8, hD8, hw8, wa8, p8, pa8, tl8, b8⟩
            refine ⟨_, rfl, .inl ⟨rfl, _, SqL.of hw8⟩, _, rfl, tl, _, 0, _, rfl, rfl, SqL.of tl8, at0, _, rfl, b, rfl, ⟨_, SqL.of b8⟩, fun L hL => ?_⟩
            refine lc_selL (K := K) (fun z => decide (z ≠ tt)) V.str hL (SqL.of b8) (by rw [sizeLine_eq]; omega) (fun z H9 Z9 N9 hz x9 yes no => ?_) fun H9 x9 hL9 => ?_
            · refine ⟨rfl, _, rfl, _, rfl, tl, _, 0, _, rfl, rfl, SqL.of (x9 _ _ tl8), at0, rfl, _, rfl, ?_⟩
              refine ite2 (fun c => ⟨_, rfl, yes H9 Ext.rfl' ?_⟩) fun c => no H9 Ext.rfl' ?_
              · refine decide_eq_true fun k => ?_
                rw [k] at c
                exact absurd c (by simp)
              · refine decide_eq_false fun k => c ?_
                have : ¬ (V.str z = V.str tt) := fun q => k (by injection q)
                rw [decide_eq_false this]
                rfl
            · have nLw : L ≠ w := fun e => by
                rw [e, hw8] at hL
                cases hL
              refine ⟨Nat.le_of_ble_eq_true rfl, fun t8 ht8 => ⟨w, vs, _, rfl, rfl, Ext.upd ht8 _ _ (x9 _ _ hw8), ?_, ?_⟩⟩
              · have := iv6.cnt
                rw [wa8.1, sizeLine_eq]
                simp only [List.length_append, List.length_singleton] at this
                omega
              have xA : Ext H8 (L2.upd H9 t8 (.tup [.str tt, .ref L])) := x9.trans (Ext.upd ht8)
              have hwA := xA _ _ hw8
              refine ⟨_, _, _, putT d tt f0, vs ++ [.ref t8], Wc ++ [(some tt, (rest.filter p).filter fun z => decide (z ≠ tt))], done ++ [tt], rest.filter fun z => !p z, rfl, (y8.trans xA).over hw2, ?_, upd_same, ?_, iv7, pr7, ?_, ?_, (pa8.ext xA).updW⟩
              · rw [upd_ne nwD.symm]
                exact xA _ _ hD8
              · exact ((wa8.ext xA).snoc (e := (some tt, (rest.filter p).filter fun z => decide (z ≠ tt))) upd_same nLw (Ext.upd ht8 _ _ hL9)).updW hwA
              · rw [mu_snoc]
                have pl := (part_perm (p := p) ndr hit.1).length_eq
                rw [List.length_cons, List.length_append] at pl
                show mu Wc + (2 * ((rest.filter p).filter fun z => decide (z ≠ tt)).length + 1) + 2 * (rest.filter fun z => !p z).length ≤ _
                omega
              · rw [upd_ne nplw]
                exact xA _ _ p8
      · rintro σ H6 ⟨v7, v8, v9, d, vs, Wc, done, rest, rfl, y6, hD6, hw6, wa6, iv6, pr6, mu6, p6, pa6⟩
        rw [pa6.1, List.drop_length] at pr6
        have er := pr6.inv0
        subst er
        refine ⟨_, _, _, _, _, d, vs, Wc, done, rfl, y6, hD6, hw6, wa6, iv6.done_, ?_⟩
        rw [mu_snoc]
        rw [List.length_nil] at mu6
        show _ < mu W0 + (2 * zs0.length + 1)
        omega
    · have en : vs = [] := by
        cases vs with
        | nil => rfl
        | cons _ _ => exact absurd rfl e
      subst en
      have eW : Wc = [] := List.eq_nil_of_length_eq_zero wa.1.symm
      subst eW
      refine ⟨_, rfl, Nat.le_of_ble_eq_true rfl, fun t ht => ?_⟩
      refine qd t D d _ ((x02.trans y3).trans (Ext.upd ht)) (SqT.of upd_same) hD0 (Ext.upd ht _ _ hD3) ⟨fun k v hk => ?_, iv.ndk, iv.imp (look d) (fun _ _ => rfl) (fun e he => (nomatch he))⟩
      obtain ⟨a, b⟩ := iv.keys k v hk
      exact ⟨iv.perm.mem_iff.mp (List.mem_append_left _ a), b⟩
end
end My

namespace My
open PySem PySem.Spec PyProof.Rows L2
def spTopless (K : PySem.W.Frag) (CF C : Addr) : Sp := fun vs H Q _ => ∃ a fo th rows, vs = [.ref a] ∧ FacAt H K CF C a fo th rows ∧ (fo ++ th).Nodup ∧ (fo ++ th).length < 1000 ∧ FactR fo th rows ∧ rows.length < 1000 ∧
  (∀ t2 zs H', Ext H H' → SqT K H' t2 (zs.map V.str) → 2 ≤ zs.length → zs.Sublist (fo ++ th) → Topless fo rows zs → Q (.ref t2) H') ∧
  (∀ d H', Ext H H' → Laid fo rows (fo ++ th) d → Q .non H')
/-- any object: no list, or a list or a tuple of things -/
def ThgT (K : PySem.W.Frag) (H : Hp) (x : V) (o : Option (List V)) : Prop := (o = none ∧ ∃ t, TyX K H x t ∧ PySem.W.kitAny K t [.type "list", .type "tuple"] = some false) ∨ ∃ p xs, o = some xs ∧ x = .ref p ∧ SeqAt2 K H p xs ∧ xs.length < 1000 ∧ ∀ y, y ∈ xs → Itm K H y
/-- the things are nodes without a top -/
def TopI (fo th : List Str) (rows : List (List Str)) (xs : List V) : Prop := ∃ zs, xs = zs.map V.str ∧ 2 ≤ zs.length ∧ zs.Nodup ∧ (∀ z, z ∈ zs → z ∈ fo ++ th) ∧ Topless fo rows zs
def TopO (fo th : List Str) (rows : List (List Str)) (o : Option (List V)) : Prop := ∃ xs, o = some xs ∧ TopI fo th rows xs
theorem ThgT.ext {K : PySem.W.Frag} {H H' : Hp} {x : V} {o : Option (List V)} (h : ThgT K H x o) (e : Ext H H') : ThgT K H' x o := by
  rcases h with ⟨h1, t, h2, h3⟩ | ⟨p, xs, h1, h2, h3, h4, h5⟩
  · exact .inl ⟨h1, t, h2.ext e, h3⟩
  · exact .inr ⟨p, xs, h1, h2, seq2_ext h3 e, h4, fun y hy => (h5 y hy).ext e⟩
def spIsTopless (K : PySem.W.Frag) (CF C : Addr) : Sp := fun vs H Q _ => ∃ a fo th rows x o, vs = [.ref a, x] ∧ FacAt H K CF C a fo th rows ∧ (fo ++ th).Nodup ∧ (fo ++ th).length < 1000 ∧ FactR fo th rows ∧ rows.length < 1000 ∧ ThgT K H x o ∧
  ∀ b H', Ext H H' → (b = true ↔ TopO fo th rows o) → Q (.bl b) H'
section
variable {P : Program} {w : World} {K : PySem.W.Frag} {mg : Str → Option Value} {base : Heap} {f C CB CF : Addr} {fd : FuncData}
end
end My


namespace My
open PySem PySem.Spec PyProof.Rows L2
/-! ### trees as the law keeps them -/
def Keys (ns : List Str) (d : Dic) : Prop := ∀ z, z ∈ ns → (getD d z).isSome = true
theorem getD_set (d : Dic) (z y : Str) (v : V) : getD (setD d z v) y = if y = z then some v else getD d y := by
  rw [← val_kd, ← put_kd, valV_put, val_kd]
  by_cases e : y = z
  · subst e
    rw [if_pos rfl, if_pos rfl]
  · rw [if_neg e, if_neg fun h => e (by injection h)]
theorem Keys.set {ns : List Str} {d : Dic} {z : Str} {v : V} (h : Keys ns d) : Keys (ns ++ [z]) (setD d z v) := fun y hy => by
  rw [getD_set]
  by_cases e : y = z
  · rw [if_pos e]; rfl
  · rw [if_neg e]
    rcases List.mem_append.mp hy with hy | hy
    · exact h y hy
    · exact absurd (List.mem_singleton.mp hy) e
def grN (d : Dic) (node : Str) : Nat → V → V
  | 0, h => h
  | n + 1, h => grN d node n (if h = .non ∨ h = .str node then h else stepV d h)
/-- whether a node would lie in itself -/
def grB (d : Dic) (node f : Str) : Bool := decide (grN d node (d.length + 1) (.str f) = .str node)
def abN (d : Dic) : Nat → V → List Str
  | 0, _ => []
  | n + 1, .str z => z :: abN d n ((getD d z).getD .non)
  | _ + 1, _ => []
/-- the folders above a node -/
def abv (d : Dic) (a : Str) : List Str := abN d d.length ((getD d a).getD .non)
theorem abN_fo {fo : List Str} {d : Dic} (h : DicOk fo d) : ∀ n v, Opt fo v → ∀ z, z ∈ abN d n v → z ∈ fo
  | 0, _, _, z, hz => by cases hz
  | n + 1, v, hv, z, hz => by
    rcases hv with rfl | ⟨y, hy, rfl⟩
    · cases hz
    · rcases List.mem_cons.mp hz with rfl | hz
      · exact hy
      · exact abN_fo h n _ (getD_opt h y) z hz
theorem abN_len (d : Dic) : ∀ n v, (abN d n v).length ≤ n
  | 0, _ => Nat.le_refl _
  | n + 1, v => by
    cases v with
    | str z => exact Nat.succ_le_succ (abN_len d n _)
    | _ => exact Nat.zero_le _
def liesA (d : Dic) (x y : Str) : Bool := decide (y ∈ abv d x)
theorem liesA_no {fo : List Str} {d : Dic} (h : DicOk fo d) (x y : Str) (hy : y ∉ fo) : liesA d x y = false := decide_eq_false fun m => hy (abN_fo h _ _ (getD_opt h x) y m)
/-- a tree of the nodes ns -/
structure Ups (fo ns : List Str) (d : Dic) : Prop where
  ok : DicOk fo d
  keys : Keys ns d
  len : d.length ≤ ns.length
  sub : ∀ z, z ∈ fo → z ∈ ns
theorem rd_ext {H H' : Hp} {p : Addr} {u : HO} (h : Rd H p u) (e : Ext H H') : Rd H' p u := h.elim (fun h => .inl (e _ _ h)) fun ⟨o, h⟩ => .inr ⟨o, e _ _ h⟩
def spGoes (K : PySem.W.Frag) : Sp := fun vs H Q _ => ∃ (p : Addr) (d : Dic) (fo : List Str) (node f : Str), vs = [.ref p, .str node, .str f] ∧ H p = some (.dK (kd d)) ∧ DicOk fo d ∧ f ∈ fo ∧ d.length ≤ 100 ∧ Q (.bl (grB d node f)) H
def spAbove (K : PySem.W.Frag) : Sp := fun vs H Q _ => ∃ (p : Addr) (d : Dic) (fo ns : List Str) (node : Str), vs = [.ref p, .str node] ∧ Rd H p (.dK (kd d)) ∧ Ups fo ns d ∧ ns.length ≤ 100 ∧ node ∈ ns ∧
  ∀ l H', Ext H H' → H l = none → H' l = some (.lst ((abv d node).map V.str)) → Q (.ref l) H'
end My

namespace My
open PySem PySem.Spec PyProof.Rows L2
/-! ### ways up -/
def itV (d : Dic) : Nat → V → V
  | 0, v => v
  | n + 1, v => itV d n (stepV d v)
theorem it_non (d : Dic) : ∀ n, itV d n .non = .non
  | 0 => rfl
  | n + 1 => it_non d n
theorem it_add (d : Dic) : ∀ m n v, itV d (m + n) v = itV d n (itV d m v)
  | 0, n, v => by rw [Nat.zero_add]; rfl
  | m + 1, n, v => by
    rw [Nat.succ_add]
    exact it_add d m n (stepV d v)
theorem it_succ (d : Dic) (n : Nat) (v : V) : itV d (n + 1) v = stepV d (itV d n v) := it_add d n 1 v
theorem it_opt {fo : List Str} {d : Dic} (ok : DicOk fo d) : ∀ n v, Opt fo v → Opt fo (itV d n v)
  | 0, _, h => h
  | n + 1, v, h => it_opt ok n _ (step_opt ok h)
theorem it_stay {d : Dic} {n m : Nat} {v : V} (h : itV d n v = .non) (hm : n ≤ m) : itV d m v = .non := by
  obtain ⟨k, rfl⟩ := Nat.le.dest hm
  rw [it_add, h, it_non]
theorem step_str {fo : List Str} {d : Dic} (ok : DicOk fo d) (z : Str) : Opt fo (stepV d (.str z)) := getD_opt ok z
def strOf : V → Option Str
  | .str z => some z
  | _ => none
theorem ab_get (d : Dic) : ∀ n v i, (abN d n v)[i]? = if i < n then strOf (itV d i v) else none
  | 0, v, i => by
    rw [if_neg (Nat.not_lt_zero i)]
    rfl
  | n + 1, .str z, 0 => rfl
  | n + 1, .str z, i + 1 => by
    have h := ab_get d n ((getD d z).getD .non) i
    show (abN d n ((getD d z).getD .non))[i]? = _
    rw [h]
    by_cases c : i < n
    · rw [if_pos c, if_pos (Nat.succ_lt_succ c)]
      rfl
    · rw [if_neg c, if_neg fun z => c (Nat.lt_of_succ_lt_succ z)]
  | n + 1, .non, i => by
    show (none : Option Str) = _
    rw [it_non]
    split <;> rfl
  | n + 1, .bl b, i => by
    have : ∀ i, itV d i (.bl b) = .bl b := fun i => by induction i with | zero => rfl | succ i ih => exact ih
    rw [this]
    show (none : Option Str) = _
    split <;> rfl
  | n + 1, .int b, i => by
    have : ∀ i, itV d i (.int b) = .int b := fun i => by induction i with | zero => rfl | succ i ih => exact ih
    rw [this]
    show (none : Option Str) = _
    split <;> rfl
  | n + 1, .byt b, i => by
    have : ∀ i, itV d i (.byt b) = .byt b := fun i => by induction i with | zero => rfl | succ i ih => exact ih
    rw [this]
    show (none : Option Str) = _
    split <;> rfl
  | n + 1, .flt b, i => by
    have : ∀ i, itV d i (.flt b) = .flt b := fun i => by induction i with | zero => rfl | succ i ih => exact ih
    rw [this]
    show (none : Option Str) = _
    split <;> rfl
  | n + 1, .ref b, i => by
    have : ∀ i, itV d i (.ref b) = .ref b := fun i => by induction i with | zero => rfl | succ i ih => exact ih
    rw [this]
    show (none : Option Str) = _
    split <;> rfl
  | n + 1, .ty b, i => by
    have : ∀ i, itV d i (.ty b) = .ty b := fun i => by induction i with | zero => rfl | succ i ih => exact ih
    rw [this]
    show (none : Option Str) = _
    split <;> rfl
theorem it_other {d : Dic} {v : V} (h : ∀ z, v ≠ .str z) : ∀ n, itV d n v = v
  | 0 => rfl
  | n + 1 => by
    show itV d n (stepV d v) = v
    have e : stepV d v = v := by cases v <;> first | rfl | exact absurd rfl (h _)
    rw [e, it_other h n]
theorem ab_snoc {d : Dic} : ∀ n v y, itV d n v = .str y → abN d (n + 1) v = abN d n v ++ [y]
  | 0, v, y, h => by
    have h : v = .str y := h
    subst h
    rfl
  | n + 1, .str x, y, h => by
    show x :: abN d (n + 1) (stepV d (.str x)) = x :: (abN d n (stepV d (.str x)) ++ [y])
    rw [ab_snoc n _ y h]
  | n + 1, .non, y, h | n + 1, .bl _, y, h | n + 1, .int _, y, h | n + 1, .byt _, y, h | n + 1, .flt _, y, h | n + 1, .ref _, y, h | n + 1, .ty _, y, h => by
    rw [it_other (by intro z e; cases e)] at h
    cases h
/-- each way ends -/
def Acy (d : Dic) : Prop := ∀ z : Str, ∃ n, itV d n (.str z) = .non
def Cyc (d : Dic) (c : Str) : Prop := ∃ n, 0 < n ∧ itV d n (.str c) = .str c
theorem cyc_mul {d : Dic} {c : Str} {n : Nat} (h : itV d n (.str c) = .str c) : ∀ k, itV d (n * k) (.str c) = .str c
  | 0 => rfl
  | k + 1 => by
    rw [Nat.mul_succ, it_add, cyc_mul h k, h]
theorem acy_nocyc {d : Dic} (h : Acy d) (c : Str) : ¬ Cyc d c := fun ⟨n, hn, e⟩ => by
  obtain ⟨m, hm⟩ := h c
  have e1 := cyc_mul e m
  have le : m ≤ n * m := Nat.le_mul_of_pos_left m hn
  rw [it_stay hm le] at e1
  cases e1
/-- no two stations of a way are alike -/
theorem way_ne {fo : List Str} {d : Dic} (ok : DicOk fo d) {z : Str} {i j : Nat} (hij : i < j) (nc : ∀ c, ¬ Cyc d c) (e : itV d i (.str z) = itV d j (.str z)) : itV d i (.str z) = .non := by
  have o : itV d i (.str z) = .non ∨ ∃ y, itV d i (.str z) = .str y := by
    cases i with
    | zero => exact .inr ⟨z, rfl⟩
    | succ i =>
      rcases it_opt ok i _ (step_str ok z) with h | ⟨y, _, h⟩
      · exact .inl h
      · exact .inr ⟨y, h⟩
  rcases o with h | ⟨y, h⟩
  · exact h
  · exfalso
    refine nc y ⟨j - i, by omega, ?_⟩
    have e2 := it_add d i (j - i) (.str z)
    rw [show i + (j - i) = j by omega, ← e, h] at e2
    exact e2.symm
/-- a way that has not ended has as many unlike stations -/
theorem way_nodup {fo : List Str} {d : Dic} (ok : DicOk fo d) (nc : ∀ c, ¬ Cyc d c) (n : Nat) (z : Str) : (abN d n (.str z)).Nodup := by
  refine List.pairwise_iff_getElem.mpr fun i j hi hj hij e' => ?_
  have e : (abN d n (.str z))[i]? = (abN d n (.str z))[j]? := by rw [List.getElem?_eq_getElem hi, List.getElem?_eq_getElem hj, e']
  have hl := abN_len d n (.str z)
  have hj' : j < n := by omega
  have gi := ab_get d n (.str z) i
  have gj := ab_get d n (.str z) j
  rw [if_pos (by omega)] at gi
  rw [if_pos hj'] at gj
  obtain ⟨x, hx⟩ : ∃ x, (abN d n (.str z))[j]? = some x := ⟨_, List.getElem?_eq_getElem hj⟩
  rw [hx] at gj
  rw [e, hx] at gi
  have s1 : itV d j (.str z) = .str x := by
    cases h : itV d j (.str z) <;> rw [h] at gj <;> first | cases gj | skip
    rfl
  have s2 : itV d i (.str z) = .str x := by
    cases h : itV d i (.str z) <;> rw [h] at gi <;> first | cases gi | skip
    rfl
  have := way_ne ok hij nc (s2.trans s1.symm)
  rw [s2] at this
  cases this
/-- a way that is longer than there are keys has ended -/
theorem way_end {fo : List Str} {d : Dic} (ok : DicOk fo d) (nc : ∀ c, ¬ Cyc d c) (z : Str) : itV d (d.length + 1) (.str z) = .non := by
  have o : ∀ i, itV d (i + 1) (.str z) = .non ∨ ∃ y, y ∈ fo ∧ itV d (i + 1) (.str z) = .str y := fun i => it_opt ok i _ (step_str ok z)
  rcases o d.length with h | ⟨y, _, h⟩
  · exact h
  · exfalso
    have all : ∀ i, i ≤ d.length → ∃ x, itV d i (.str z) = .str x ∧ x ∈ d.map (·.1) := fun i hi => by
      have ne : itV d (i + 1) (.str z) ≠ .non := fun e => by
        have := it_stay e (show i + 1 ≤ d.length + 1 by omega)
        rw [h] at this
        cases this
      have ox : ∃ x, itV d i (.str z) = .str x := by
        cases i with
        | zero => exact ⟨z, rfl⟩
        | succ i =>
          rcases o i with h' | ⟨x, _, h'⟩
          · rw [it_succ, h'] at ne
            exact absurd rfl ne
          · exact ⟨x, h'⟩
      obtain ⟨x, hx⟩ := ox
      refine ⟨x, hx, ?_⟩
      rw [it_succ, hx] at ne
      cases e : getD d x with
      | none =>
        have : stepV d (.str x) = .non := by show (getD d x).getD .non = .non; rw [e]; rfl
        exact absurd this ne
      | some v => exact getD_key e
    have len : (abN d (d.length + 1) (.str z)).length = d.length + 1 := by
      rcases Nat.lt_or_ge (abN d (d.length + 1) (.str z)).length (d.length + 1) with lt | ge
      · exfalso
        have g := ab_get d (d.length + 1) (.str z) (abN d (d.length + 1) (.str z)).length
        rw [if_pos lt, List.getElem?_eq_none (Nat.le_refl _)] at g
        obtain ⟨x, hx, _⟩ := all _ (Nat.le_of_lt_succ lt)
        rw [hx] at g
        cases g
      · exact Nat.le_antisymm (abN_len d _ _) ge
    have sub : abN d (d.length + 1) (.str z) ⊆ d.map (·.1) := fun x hx => by
      obtain ⟨i, hi⟩ := List.mem_iff_getElem?.mp hx
      have hil := (List.getElem?_eq_some_iff.mp hi).1
      have g := ab_get d (d.length + 1) (.str z) i
      rw [if_pos (by omega), hi] at g
      obtain ⟨y, hy, hm⟩ := all i (by omega)
      rw [hy] at g
      cases g
      exact hm
    have := (way_nodup ok nc (d.length + 1) z).length_le_of_subset sub
    rw [len, List.length_map] at this
    omega
theorem acy_of {fo : List Str} {d : Dic} (ok : DicOk fo d) (nc : ∀ c, ¬ Cyc d c) : Acy d := fun z => ⟨_, way_end ok nc z⟩
theorem acy_end {fo : List Str} {d : Dic} (ok : DicOk fo d) (h : Acy d) (z : Str) : itV d (d.length + 1) (.str z) = .non := way_end ok (acy_nocyc h) z
end My

namespace My
open PySem PySem.Spec PyProof.Rows L2
/-! ### rings -/
structure RingOk (fo : List Str) (d : Dic) (way : List Str) : Prop where
  ne : way ≠ []
  nd : way.Nodup
  sub : ∀ z, z ∈ way → z ∈ fo
  up : way.map (fun z => (getD d z).getD .non) = (way.drop 1 ++ way.take 1).map V.str
  cyc : ∃ c, Cyc d c
theorem ring_ok {fo : List Str} {d : Dic} {c : Str} {n : Nat} (hl : (abN d (n + 1) (.str c)).length = n + 1) (nd : (abN d (n + 1) (.str c)).Nodup) (sub : ∀ z, z ∈ abN d (n + 1) (.str c) → z ∈ fo) (h : itV d (n + 1) (.str c) = .str c) : RingOk fo d (abN d (n + 1) (.str c)) := by
  refine ⟨(fun e => by rw [e] at hl; cases hl), nd, sub, ?_, ⟨c, n + 1, Nat.succ_pos n, h⟩⟩
  obtain ⟨way, hway⟩ : ∃ way, way = abN d (n + 1) (.str c) := ⟨_, rfl⟩
  rw [← hway] at hl ⊢
  have at_ : ∀ i, i < n + 1 → ∃ z, way[i]? = some z ∧ itV d i (.str c) = .str z := fun i hi => by
    have g := ab_get d (n + 1) (.str c) i
    rw [if_pos hi, ← hway] at g
    obtain ⟨z, hz⟩ : ∃ z, way[i]? = some z := ⟨_, List.getElem?_eq_getElem (by omega)⟩
    rw [hz] at g
    refine ⟨z, hz, ?_⟩
    cases e : itV d i (.str c) <;> rw [e] at g <;> first | cases g | skip
    rfl
  refine List.ext_getElem? fun i => ?_
  rw [List.getElem?_map, List.getElem?_map]
  by_cases hi : i < n + 1
  · obtain ⟨z, hz, ez⟩ := at_ i hi
    rw [hz]
    have up : (getD d z).getD .non = itV d (i + 1) (.str c) := by rw [it_succ, ez]; rfl
    show some ((getD d z).getD .non) = _
    rw [up]
    by_cases hi2 : i + 1 < n + 1
    · obtain ⟨y, hy, ey⟩ := at_ (i + 1) hi2
      rw [List.getElem?_append_left (by rw [List.length_drop]; omega), List.getElem?_drop, Nat.add_comm 1 i, hy, ey]
      rfl
    · have e : i = n := by omega
      subst e
      obtain ⟨y, hy, ey⟩ := at_ 0 (Nat.succ_pos _)
      have ey : V.str c = .str y := ey
      rw [List.getElem?_append_right (by rw [List.length_drop]; omega), List.length_drop, hl, Nat.add_sub_cancel, Nat.sub_self, List.getElem?_take_of_lt Nat.one_pos, hy, h, ey]
      rfl
  · rw [List.getElem?_eq_none (by omega), List.getElem?_eq_none (by rw [List.length_append, List.length_drop, List.length_take]; omega)]
    rfl
/-! ### a node's place changed -/
theorem step_set {d : Dic} {z : Str} {v : V} : ∀ u, u ≠ .str z → stepV (setD d z v) u = stepV d u
  | .str y, h => by
    show (getD (setD d z v) y).getD .non = (getD d y).getD .non
    rw [getD_set, if_neg fun e => h (by rw [e])]
  | .non, _ | .bl _, _ | .int _, _ | .byt _, _ | .flt _, _ | .ref _, _ | .ty _, _ => rfl
theorem step_new {d : Dic} {z : Str} {v : V} : stepV (setD d z v) (.str z) = v := by
  show (getD (setD d z v) z).getD .non = v
  rw [getD_set, if_pos rfl]
  rfl
theorem it_set {d : Dic} {z : Str} {v : V} : ∀ n u, (∀ i, i ≤ n → itV d i u ≠ .str z) → itV (setD d z v) n u = itV d n u
  | 0, _, _ => rfl
  | n + 1, u, h => by
    show itV (setD d z v) n (stepV (setD d z v) u) = itV d n (stepV d u)
    rw [step_set u (h 0 (Nat.zero_le _))]
    exact it_set n _ fun i hi => h (i + 1) (Nat.succ_le_succ hi)
theorem ends_set {d : Dic} {z : Str} {v : V} (hz : ∃ n, itV (setD d z v) n (.str z) = .non) : ∀ n u, itV d n u = .non → ∃ m, itV (setD d z v) m u = .non
  | 0, u, h => ⟨0, h⟩
  | n + 1, u, h => by
    by_cases c : u = .str z
    · subst c
      exact hz
    · obtain ⟨m, hm⟩ := ends_set hz n (stepV d u) h
      refine ⟨m + 1, ?_⟩
      show itV (setD d z v) m (stepV (setD d z v) u) = .non
      rw [step_set u c]
      exact hm
theorem acy_setN {d : Dic} {z : Str} (h : Acy d) : Acy (setD d z .non) := fun y => by
  obtain ⟨n, hn⟩ := h y
  refine ends_set ⟨1, ?_⟩ n _ hn
  show stepV (setD d z .non) (.str z) = .non
  exact step_new
theorem acy_setS {d : Dic} {z f : Str} (h : Acy d) (hf : ∀ n, itV d n (.str f) ≠ .str z) : Acy (setD d z (.str f)) := fun y => by
  obtain ⟨n, hn⟩ := h y
  obtain ⟨m, hm⟩ := h f
  refine ends_set ⟨m + 1, ?_⟩ n _ hn
  show itV (setD d z (.str f)) m (stepV (setD d z (.str f)) (.str z)) = .non
  rw [step_new, it_set m _ fun i _ => hf i]
  exact hm
theorem hits_set {d : Dic} {z : Str} {v : V} : ∀ n u, itV d n u = .str z → ∃ m, itV (setD d z v) m u = .str z
  | 0, u, h => ⟨0, h⟩
  | n + 1, u, h => by
    by_cases c : u = .str z
    · exact ⟨0, c⟩
    · obtain ⟨m, hm⟩ := hits_set n (stepV d u) h
      refine ⟨m + 1, ?_⟩
      show itV (setD d z v) m (stepV (setD d z v) u) = .str z
      rw [step_set u c]
      exact hm
theorem cyc_set {d : Dic} {z f : Str} {n : Nat} (h : itV d n (.str f) = .str z) : Cyc (setD d z (.str f)) z := by
  obtain ⟨m, hm⟩ := hits_set (v := .str f) n _ h
  refine ⟨m + 1, Nat.succ_pos m, ?_⟩
  show itV (setD d z (.str f)) m (stepV (setD d z (.str f)) (.str z)) = .str z
  rw [step_new]
  exact hm
/-- whether a node stands on a way -/
theorem hit_abv {fo : List Str} {d : Dic} (ok : DicOk fo d) (h : Acy d) {f z : Str} : (∃ n, itV d n (.str f) = .str z) ↔ f = z ∨ z ∈ abv d f := by
  constructor
  · rintro ⟨n, hn⟩
    cases n with
    | zero =>
      have e : V.str f = .str z := hn
      exact .inl (by injection e)
    | succ i =>
      refine .inr ?_
      have lt : i < d.length := by
        rcases Nat.lt_or_ge i d.length with l | g
        · exact l
        · have := it_stay (acy_end ok h f) (show d.length + 1 ≤ i + 1 by omega)
          rw [hn] at this
          cases this
      have g := ab_get d d.length ((getD d f).getD .non) i
      have hn : itV d i ((getD d f).getD .non) = .str z := hn
      rw [if_pos lt, hn] at g
      exact List.mem_of_getElem? g
  · rintro (rfl | hz)
    · exact ⟨0, rfl⟩
    · obtain ⟨i, hi⟩ := List.mem_iff_getElem?.mp hz
      have g := ab_get d d.length ((getD d f).getD .non) i
      have hi : (abN d d.length ((getD d f).getD .non))[i]? = some z := hi
      rw [hi] at g
      refine ⟨i + 1, ?_⟩
      show itV d i ((getD d f).getD .non) = .str z
      split at g
      · cases e : itV d i ((getD d f).getD .non) <;> rw [e] at g <;> first | cases g | skip
        rfl
      · cases g
theorem gr_stay (d : Dic) (z : Str) : ∀ n, grN d z n (.str z) = .str z
  | 0 => rfl
  | n + 1 => by
    unfold grN
    rw [if_pos (.inr rfl)]
    exact gr_stay d z n
theorem gr_hit {d : Dic} {z : Str} : ∀ n u i, i ≤ n → itV d i u = .str z → grN d z n u = .str z
  | 0, u, i, hi, h => by
    have : i = 0 := by omega
    subst this
    exact h
  | n + 1, u, i, hi, h => by
    unfold grN
    by_cases c : u = .non ∨ u = .str z
    · rw [if_pos c]
      rcases c with rfl | rfl
      · rw [it_non] at h
        cases h
      · exact gr_stay d z n
    · rw [if_neg c]
      cases i with
      | zero => exact absurd (.inr h) c
      | succ i => exact gr_hit n _ i (Nat.le_of_succ_le_succ hi) h
theorem gr_no {fo : List Str} {d : Dic} (ok : DicOk fo d) (h : Acy d) {f z : Str} (g : grB d z f = false) : ∀ n, itV d n (.str f) ≠ .str z := fun n hn => by
  have le : n ≤ d.length + 1 := by
    rcases Nat.lt_or_ge (d.length + 1) n with l | l
    · have := it_stay (acy_end ok h f) (Nat.le_of_lt l)
      rw [hn] at this
      cases this
    · exact l
  have e := gr_hit (d.length + 1) (.str f) n le hn
  unfold grB at g
  rw [e, decide_eq_true rfl] at g
  cases g
/-! ### dicts with the same keys -/
theorem getD_cons (z : Str) (p : Str × V) (d : Dic) : getD (p :: d) z = if p.1 = z then some p.2 else getD d z := by
  unfold getD
  rw [List.find?_cons]
  by_cases c : p.1 = z
  · rw [decide_eq_true c, if_pos c]
    rfl
  · rw [decide_eq_false c, if_neg c]
theorem dic_ext : ∀ {d e : Dic}, d.map (·.1) = e.map (·.1) → (d.map (·.1)).Nodup → (∀ z, z ∈ d.map (·.1) → getD d z = getD e z) → d = e
  | [], [], _, _, _ => rfl
  | p :: d, q :: e, hk, nd, h => by
    rw [List.map_cons, List.map_cons] at hk
    injection hk with h1 h2
    rw [List.map_cons] at nd h
    obtain ⟨n1, n2⟩ := List.nodup_cons.mp nd
    have h0 := h p.1 List.mem_cons_self
    rw [getD_cons, getD_cons, if_pos rfl, if_pos h1.symm] at h0
    have ep : p = q := Prod.ext h1 (by injection h0)
    rw [ep, dic_ext h2 n2 fun z hz => ?_]
    have hz' := h z (List.mem_cons_of_mem _ hz)
    rw [getD_cons, getD_cons, if_neg (fun e : p.1 = z => n1 (by rw [e]; exact hz)), if_neg (fun e : q.1 = z => n1 (by rw [h1, e]; exact hz))] at hz'
    exact hz'
  | [], _ :: _, hk, _, _ => by cases hk
  | _ :: _, [], hk, _, _ => by cases hk
theorem getD_some {d : Dic} {z : Str} (h : z ∈ d.map (·.1)) : ∃ v, getD d z = some v := by
  induction d with
  | nil => cases h
  | cons p d ih =>
    rw [getD_cons]
    by_cases c : p.1 = z
    · exact ⟨_, if_pos c⟩
    · rw [if_neg c]
      rcases List.mem_cons.mp h with e | h
      · exact absurd e.symm c
      · exact ih h
/-- what lies over each node -/
def lyD (ns : List Str) (o : Dic) : Dic := ns.map fun z => (z, (getD o z).getD .non)
theorem ly_keys (ns : List Str) (o : Dic) : (lyD ns o).map (·.1) = ns := by
  unfold lyD
  rw [List.map_map]
  conv => rhs; rw [← List.map_id ns]
  rfl
theorem ly_get {o : Dic} {z : Str} : ∀ {ns : List Str}, z ∈ ns → getD (lyD ns o) z = some ((getD o z).getD .non)
  | y :: ns, h => by
    show getD ((y, (getD o y).getD .non) :: lyD ns o) z = _
    rw [getD_cons]
    by_cases c : y = z
    · subst c
      rw [if_pos rfl]
    · rw [if_neg c]
      rcases List.mem_cons.mp h with e | h
      · exact absurd e.symm c
      · exact ly_get h
theorem set_keys {d : Dic} {z : Str} {v : V} (h : z ∈ d.map (·.1)) : (setD d z v).map (·.1) = d.map (·.1) := by
  unfold setD
  have e : (d.any fun p => decide (p.1 = z)) = true := by
    obtain ⟨p, hp, e⟩ := List.mem_map.mp h
    exact List.any_eq_true.mpr ⟨p, hp, decide_eq_true e⟩
  rw [if_pos e, List.map_map]
  refine List.map_congr_left fun p _ => ?_
  show (if p.1 = z then (p.1, v) else p).1 = p.1
  split <;> rfl
theorem set_new {d : Dic} {z : Str} {v : V} (h : z ∉ d.map (·.1)) : setD d z v = d ++ [(z, v)] := by
  unfold setD
  have e : ¬ (d.any fun p => decide (p.1 = z)) = true := fun e => by
    obtain ⟨p, hp, e⟩ := List.any_eq_true.mp e
    exact h (List.mem_map.mpr ⟨p, hp, of_decide_eq_true e⟩)
  rw [if_neg e]
theorem set_ok {fo : List Str} {d : Dic} {z : Str} {v : V} (h : DicOk fo d) (hv : Opt fo v) : DicOk fo (setD d z v) := fun p hp => by
  rcases setD_mem hp with hp | hp
  · exact h p hp
  · rcases hv with rfl | ⟨y, hy, rfl⟩
    · exact .inl hp
    · exact .inr ⟨y, hy, hp⟩
/-- what lies over the nodes of a house -/
structure LyD (fo th : List Str) (d : Dic) : Prop where
  keys : d.map (·.1) = fo ++ th
  ok : DicOk fo d
/-- a def that may raise -/
def HasX (P : Program) (w : World) (K : PySem.W.Frag) (mg : Str → Option Value) (base : Heap) (k : Nat) (x : Str) (ps : List Str) (sp : Sp) : Prop :=
  ∃ (f : Addr) (fd : FuncData), FnOk P w K mg base (L2.CX P w) k f fd ps sp ∧ mg x = some (.ref f) ∧ PySem.W.keepIn K (.ref f) = true ∧ Binds K fd ps []
theorem pe_hasX {X : Cx} {k : Nat} {x : Str} {ps : List Str} {sp : Sp} {E : XK} {e : Expr} {es : List Expr} {t : TA} {p pos : Pos} (h : HasX X.prog X.w X.K X.mg X.base k x ps sp) (hr : Room k X.A) (ha : PA X (e :: es) t) (hx : Passes (L2.CX X.prog X.w) X E) (hg : Gl X x := by rfl)
    (hdb : (x == ("__debug__" : Str)) = false := by decide) (h1 : starEach (e :: es) X.env = (false, eval e X.env) :: starEach es X.env := by rfl) (h2 : (backTo pos (starEach es X.env)).any (·.1) = false := by rfl) :
    PE X (.Call (.Name x p) (e :: es) [] pos) (tCall sp [] E t) := by
  obtain ⟨f, fd, F, m, kp, b⟩ := h
  exact pe_call F hr hg m kp b .nil hx ha hdb h1 h2
end My

namespace My
open PySem PySem.Spec PyProof.Rows L2
theorem raise_at {f : Str} {CI : Addr} {i : Nat} {σ : L2.St} {H H3 : Hp} {y : V} {E : XK} (hy : σ[i]? = some (some y)) (x3 : Ext H H3) (q : ∀ d H', Ext H H' → H d = none → H' d = some (.xd [(f, y)]) → E (.ref CI) (some d) H') :
    tMkO CI (spInit CI f) [] (tCons (tVar i) tNil) σ H3 fun cls d H' => E cls d H' := by
  refine ⟨_, hy, Nat.le_of_ble_eq_true rfl, fun e he => ?_⟩
  refine ⟨e, _, rfl, upd_same, fun d hd ne => ⟨rfl, d, [(f, y)], upd_same, ?_, ?_, ?_⟩⟩
  · rw [upd_ne ne, upd_same]
  · rw [upd_ne ne] at hd
    exact hd
  · rw [upd_ne ne] at hd
    refine q d _ (fun b u k => ?_) ?_ upd_same
    · have k1 := x3 b u k
      rw [upd_ne (ne_of_none k1 hd), del_ne (ne_of_none k1 he), upd_ne (ne_of_none k1 he), upd_ne (ne_of_none k1 hd), upd_ne (ne_of_none k1 he)]
      exact k1
    · exact ext_none x3 hd
/-- no text of these -/
def NotIn (K : PySem.W.Frag) (H : Hp) (ns : List Str) (y : V) : Prop := (flatV y = true ∧ inV y (ns.map V.str) = false) ∨ NoText K H y
theorem NotIn.ext {K : PySem.W.Frag} {H H' : Hp} {ns : List Str} {y : V} (h : NotIn K H ns y) (e : Ext H H') : NotIn K H' ns y := h.elim .inl fun z => .inr (NoText.ext z e)
def spMustNode (K : PySem.W.Frag) (C CN : Addr) : Sp := fun vs H Q E => ∃ h y fo th, vs = [.ref h, y] ∧ Hou H K C h fo th ∧ ((∃ z, y = .str z ∧ z ∈ fo ++ th ∧ Q .non H) ∨ (NotIn K H (fo ++ th) y ∧ ∀ d H', Ext H H' → H d = none → H' d = some (.xd [("node", y)]) → E (.ref CN) (some d) H'))
def spMustFolder (K : PySem.W.Frag) (C CF : Addr) : Sp := fun vs H Q E => ∃ h y fo th, vs = [.ref h, y] ∧ Hou H K C h fo th ∧ ((∃ z, y = .str z ∧ z ∈ fo ∧ Q .non H) ∨ (NotIn K H fo y ∧ ∀ d H', Ext H H' → H d = none → H' d = some (.xd [("folder", y)]) → E (.ref CF) (some d) H'))
def spRing (K : PySem.W.Frag) (C : Addr) : Sp := fun vs H Q _ => ∃ (h p : Addr) (fo th : List Str) (d : Dic), vs = [.ref h, .ref p] ∧ Hou H K C h fo th ∧ fo.length ≤ 1000 ∧ H p = some (.dK (kd d)) ∧ LyD fo th d ∧
  ((∀ c, c ∈ fo → ¬ Cyc d c) → ∀ H', Ext H H' → Q .non H') ∧ ∀ t way H', Ext H H' → SqT K H' t (way.map V.str) → RingOk fo d way → Q (.ref t) H'
abbrev nm_must_be_node : List Str := ["house", "thing"]
theorem sc_must_be_node : FnScope nm_must_be_node ["house", "thing"] (defScope s_must_be_node) := ⟨rfl, rfl, rfl, by decide +kernel, rfl, by decide +kernel, by decide +kernel⟩
abbrev nm_must_be_folder : List Str := ["house", "thing"]
theorem sc_must_be_folder : FnScope nm_must_be_folder ["house", "thing"] (defScope s_must_be_folder) := ⟨rfl, rfl, rfl, by decide +kernel, rfl, by decide +kernel, by decide +kernel⟩
abbrev nm_ring : List Str := ["house", "lying", "folder", "way"]
theorem sc_ring : FnScope nm_ring ["house", "lying"] (defScope s_ring) := ⟨rfl, rfl, rfl, by decide +kernel, rfl, by decide +kernel, by decide +kernel⟩
section
variable {P : Program} {w : World} {K : PySem.W.Frag} {mg : Str → Option Value} {base : Heap} {f C CB CN CF : Addr} {fd : FuncData}
theorem ok_mustNode (Fn : FnP K "must_be_node" s_must_be_node f fd) (Z : HouseTxt P w K mg C CB) (EB : Er P w K mg base "NoNode" "node" CN) : FnOk P w K mg base (L2.CX P w) 4 f fd ["house", "thing"] (spMustNode K C CN) := by
  obtain ⟨fI, fdI, TB, FB, bB, _⟩ := EB
  refine Fn.ok sc_must_be_node (fun vs H Q E h => ?_) (fun cdv A outer s H vs Q E hr h => ⟨_,
    (pss_one (ps_if (pt_cmpR (OpR.notIn (op_inO (EI := E0) (hr.mono (by decide)) Z.mS (Z.S _) Z.bS pass0)) (pv 1) (pv 0) (by rfl)) (pss_one (ps_raise rfl (takes_of rfl rfl rfl rfl) (pmk_oex TB.oex TB.iC TB.tI FB (hr.mono (by decide)) bB .nil pass0 (by rfl) TB.gl (pa_cons (pv 1) pa_nil)))) pss_nil)), ?_⟩)
  · obtain ⟨h, y, fo, th, rfl, _⟩ := h
    rfl
  · obtain ⟨h, y, fo, th, rfl, hou, hh⟩ := h
    obtain ⟨hx, hfs, hins⟩ := hou.ins
    refine ⟨_, rfl, _, rfl, h, hx, hfs, rfl, hins, h, fo, th, y, rfl, hou, ?_⟩
    rcases hh with ⟨z, rfl, hz, q⟩ | ⟨nn | nn, q⟩
    · refine .inl ⟨rfl, ?_⟩
      rw [inV_str, decide_eq_true hz]
      exact ⟨_, rfl, _, rfl, _, rfl, q⟩
    · refine .inl ⟨nn.1, ?_⟩
      rw [nn.2]
      exact ⟨_, rfl, _, rfl, _, rfl, raise_at rfl Ext.rfl' q⟩
    · exact .inr (.inl ⟨nn, _, rfl, _, rfl, _, rfl, raise_at rfl Ext.rfl' q⟩)
theorem ok_mustFolder (Fn : FnP K "must_be_folder" s_must_be_folder f fd) (Z : HouseTxt P w K mg C CB) (EB : Er P w K mg base "NoFolder" "folder" CF) : FnOk P w K mg base (L2.CX P w) 4 f fd ["house", "thing"] (spMustFolder K C CF) := by
  obtain ⟨fI, fdI, TB, FB, bB, _⟩ := EB
  refine Fn.ok sc_must_be_folder (fun vs H Q E h => ?_) (fun cdv A outer s H vs Q E hr h => ⟨_,
    (pss_one (ps_if (pt_cmpR (OpR.notIn (OpR.or op_in_seq (op_inN (hu_of hr)))) (pv 1) (pe_fld (pv 0) rfl) (by rfl)) (pss_one (ps_raise rfl (takes_of rfl rfl rfl rfl) (pmk_oex TB.oex TB.iC TB.tI FB (hr.mono (by decide)) bB .nil pass0 (by rfl) TB.gl (pa_cons (pv 1) pa_nil)))) pss_nil)), ?_⟩)
  · obtain ⟨h, y, fo, th, rfl, _⟩ := h
    rfl
  · obtain ⟨h, y, fo, th, rfl, hou, hh⟩ := h
    obtain ⟨⟨dx, fs, fa, ta, na, h1, h2, h3, h4, h5, h6, h7⟩, hok⟩ := id hou
    refine ⟨_, rfl, _, rfl, h, C, dx, fs, _, rfl, h1, Z.T.cl, Z.T.nf, h2, ?_⟩
    rcases hh with ⟨z, rfl, hz, q⟩ | ⟨nn | nn, q⟩
    · refine .inl ⟨fa, _, rfl, .inr h5, rfl, flat_strs fo, ?_⟩
      show ∃ b, V.bl (inV (.str z) (fo.map V.str)) = .bl b ∧ _
      rw [inV_str, decide_eq_true hz]
      exact ⟨_, rfl, _, rfl, q⟩
    · refine .inl ⟨fa, _, rfl, .inr h5, nn.1, flat_strs fo, ?_⟩
      show ∃ b, V.bl (inV y (fo.map V.str)) = .bl b ∧ _
      rw [nn.2]
      exact ⟨_, rfl, _, rfl, raise_at rfl Ext.rfl' q⟩
    · exact .inr ⟨fa, fo, rfl, h5, nn, _, rfl, _, rfl, raise_at rfl Ext.rfl' q⟩
theorem ok_ring (Fn : FnP K "ring" s_ring f fd) (Z : HouseTxt P w K mg C CB) (gB_tuple : mg "tuple" = none) : FnOk P w K mg base CX0 2 f fd ["house", "lying"] (spRing K C) := by
  refine Fn.ok sc_ring (fun vs H Q E h => ?_) (fun cdv A outer s H vs Q E hr h => ⟨_, PSs.nox
    (pss_cons (ps_for PassesOwn.never rfl (pi_tup (pe_fld (pv 0) rfl)) (pg_name (i := 2) sc_ring.nd rfl (Or.inl rfl))
      (pss_cons (ps_set (i := 3) sc_ring.nd rfl (Or.inl rfl) (pe_lst (pa_cons (pv 2) pa_nil)))
      (pss_cons (ps_while PassesOwn.never (PW.pt (pw_and (pt_cmpR op_notN (pe_dget (hu_of hr) (pv 1) (pe_ix ix_list (pv 3) (pe_un un_neg pe_int) (fun _ _ => rfl)) (fun _ _ => rfl)) pe_non (nomark _)) (pw_and1 (pt_cmpR op_notIn_seq (pe_dget (hu_of hr) (pv 1) (pe_ix ix_list (pv 3) (pe_un un_neg pe_int) (fun _ _ => rfl)) (fun _ _ => rfl)) (pv 3) (by rfl))))) (pss_one (ps_expr (pe_bm PySem.F.plainAttrs_list PySem.F.slot_list_append PySem.F.type_list_append mt_append (pv 3) (pa_cons (pe_dget (hu_of hr) (pv 1) (pe_ix ix_list (pv 3) (pe_un un_neg pe_int) (fun _ _ => rfl)) (fun _ _ => rfl)) pa_nil)))))
      (pss_one (ps_if (pt_cmpR op_eq (pe_dget (hu_of hr) (pv 1) (pe_ix ix_list (pv 3) (pe_un un_neg pe_int) (fun _ _ => rfl)) (fun _ _ => rfl)) (pv 2) (nomark _)) (pss_one (ps_ret (pe_callTy call_tup (by rfl) gB_tuple (by decide +kernel) (pa_cons (pv 3) pa_nil)))) pss_nil)))))
      (pss_one (ps_ret pe_non))), ?_⟩)
  · obtain ⟨h, p, fo, th, d, rfl, _⟩ := h
    rfl
  · obtain ⟨h, p, fo, th, d, rfl, hou, fl, hp, ly, qN, qR⟩ := h
    obtain ⟨⟨dx, fs, fa, ta, na, h1, h2, h3, h4, h5, h6, h7⟩, hok⟩ := id hou
    have keyOf : ∀ z, z ∈ fo → ∃ v, getD d z = some v := fun z hz => getD_some (by rw [ly.keys]; exact List.mem_append_left _ hz)
    have dget : ∀ {H' : Hp} {z : Str}, Ext H H' → z ∈ fo → DGet H' p (.str z) (some (itV d 1 (.str z))) := fun {H' z} e hz => by
      obtain ⟨v, hv⟩ := keyOf z hz
      refine .inl ⟨kd d, Sum.inr z, .inl (e _ _ hp), rfl, ?_⟩
      rw [val_kd, hv]
      show some ((getD d z).getD .non) = some v
      rw [hv]
      rfl
    refine ⟨_, rfl, h, C, dx, fs, _, rfl, h1, Z.T.cl, Z.T.nf, h2, fa, rfl, ⟨_, h5⟩, for_tup (K := K) (a := fa) (xs := fo.map V.str) (fun i σ H' => ∃ u w, σ = [some (.ref h), some (.ref p), u, w] ∧ Ext H H' ∧ ∀ c, c ∈ fo.take i → ¬ Cyc d c) ⟨none, none, rfl, Ext.rfl', fun c hc => by cases hc⟩ (fun i σ H' _ ⟨u, w, _, x, _⟩ => h5.ext x) ?_ ?_⟩
    · rintro i v σ H1 hv ⟨u, w, rfl, x1, nc⟩
      obtain ⟨c, hc, rfl⟩ := strs_at hv
      have mc : c ∈ fo := List.mem_of_getElem? hc
      refine ⟨_, rfl, Nat.le_of_ble_eq_true rfl, fun l hl => ?_⟩
      have xl := Ext.upd (o := .lst [.str c]) hl
      -- the way: n + 1 stations from c
      refine ⟨fun m σ H' => ∃ n, m = fo.length + 1 - n ∧ n + 1 ≤ fo.length ∧ σ = [some (.ref h), some (.ref p), some (.str c), some (.ref l)] ∧ Ext H1 H' ∧ H' l = some (.lst ((abN d (n + 1) (.str c)).map V.str)) ∧ (abN d (n + 1) (.str c)).length = n + 1 ∧ (abN d (n + 1) (.str c)).Nodup ∧ ∀ z, z ∈ abN d (n + 1) (.str c) → z ∈ fo, ⟨_, 0, rfl, ?_, rfl, xl, upd_same, rfl, ?_, ?_⟩, ?_⟩
      · exact List.length_pos_of_mem mc
      · exact (by simp : [c].Nodup)
      · intro z hz
        rw [List.mem_singleton.mp hz]
        exact mc
      rintro m σ H2 ⟨n, rfl, hn, rfl, x2, l2, wl, wnd, wsub⟩
      have x02 := x1.trans x2
      obtain ⟨way, hway⟩ : ∃ way, way = abN d (n + 1) (.str c) := ⟨_, rfl⟩
      rw [← hway] at l2 wl wnd wsub
      -- the last station
      obtain ⟨init, z, ez⟩ : ∃ init z, way = init ++ [z] := by
        have ne : way ≠ [] := fun e => by rw [e] at wl; cases wl
        exact ⟨way.dropLast, way.getLast ne, (List.dropLast_concat_getLast ne).symm⟩
      have zn : itV d n (.str c) = .str z := by
        have g := ab_get d (n + 1) (.str c) n
        have il : init.length = n := by
          have := congrArg List.length ez
          rw [wl, List.length_append, List.length_singleton] at this
          omega
        rw [if_pos (Nat.lt_succ_self n), ← hway, ez, List.getElem?_append_right (by omega), il, Nat.sub_self] at g
        have g : some z = strOf (itV d n (.str c)) := g
        cases e : itV d n (.str c) <;> rw [e] at g <;> first | cases g | skip
        rfl
      have zfo : z ∈ fo := wsub z (by rw [ez]; exact List.mem_append_right _ List.mem_cons_self)
      have up : itV d 1 (.str z) = itV d (n + 1) (.str c) := by
        rw [it_succ d n, zn]
        rfl
      have lst2 : ∀ {H' : Hp}, Ext H2 H' → SqL K H' l (way.map V.str) := fun e => SqL.of (e _ _ l2)
      have last : atI (way.map V.str) (-1) = some (.str z) := by
        rw [ez, List.map_append]
        exact atI_last _ _
      refine ⟨_, rfl, _, rfl, _, rfl, l, _, _, .str z, rfl, rfl, lst2 Ext.rfl', last, p, _, rfl, dget x02 zfo, rfl, _, rfl, ?_⟩
      rw [up]
      -- behind the loop
      have eqz : ∀ x y : Str, decide (V.str x = V.str y) = decide (x = y) := fun x y => by
        by_cases e : x = y
        · rw [e, decide_eq_true rfl, decide_eq_true rfl]
        · rw [decide_eq_false e, decide_eq_false fun h => e (by injection h)]
      have tkc : fo.take (i + 1) = fo.take i ++ [c] := by
        rw [List.take_add_one, hc]
        rfl
      have go : ∀ x, x ∈ fo.take (i + 1) → (¬ Cyc d c) → ¬ Cyc d x := fun x hx n => by
        rw [tkc] at hx
        rcases List.mem_append.mp hx with hx | hx
        · exact nc x hx
        · rw [List.mem_singleton.mp hx]
          exact n
      have stat : ∀ k, k ≤ n → ∃ y, itV d k (.str c) = .str y ∧ way[k]? = some y := fun k hk => by
        have g := ab_get d (n + 1) (.str c) k
        rw [if_pos (by omega), ← hway] at g
        obtain ⟨y, hy⟩ : ∃ y, way[k]? = some y := ⟨_, List.getElem?_eq_getElem (by omega)⟩
        rw [hy] at g
        refine ⟨y, ?_, hy⟩
        cases e : itV d k (.str c) <;> rw [e] at g <;> first | cases g | skip
        rfl
      rcases it_opt ly.ok (n + 1) _ (.inr ⟨c, mc, rfl⟩) with e | ⟨y, hy, e⟩
      · rw [e]
        refine iteF ?_
        refine ⟨_, rfl, _, rfl, _, rfl, l, _, _, .str z, rfl, rfl, lst2 Ext.rfl', last, p, _, rfl, dget x02 zfo, _, rfl, ?_⟩
        rw [up, e]
        refine ⟨rfl, _, rfl, ?_⟩
        refine iteF' (decide_eq_false (by intro z; cases z)) ?_
        refine ⟨_, _, rfl, x02, fun x hx => go x hx fun ⟨m, m0, em⟩ => ?_⟩
        rcases Nat.lt_or_ge n m with l' | g
        · rw [it_stay e l'] at em
          cases em
        · obtain ⟨y0, e0, w0⟩ := stat 0 (Nat.zero_le _)
          obtain ⟨ym, e1, w1⟩ := stat m g
          rw [em] at e1
          have e0 : V.str c = .str y0 := e0
          have : y0 = ym := by
            injection e0 with e0
            injection e1 with e1
            rw [← e0, e1]
          rw [this] at w0
          have := (List.getElem?_inj (by omega) wnd).mp (w0.trans w1.symm)
          omega
      · have dg : ∀ {H' : Hp}, Ext H2 H' → DGet H' p (.str z) (some (.str y)) := fun x => by
          have g := dget (x02.trans x) zfo
          rw [up, e] at g
          exact g
        rw [e]
        refine iteT ?_
        refine ⟨_, rfl, _, rfl, _, rfl, l, _, _, .str z, rfl, rfl, lst2 Ext.rfl', last, p, _, rfl, dg Ext.rfl', _, rfl, l, _, rfl, .inl (lst2 Ext.rfl'), rfl, flat_strs way, _, rfl, ?_⟩
        rw [inV_str]
        refine ite2 (fun c1 => ?_) fun c1 => ?_
        · have yn : y ∉ way := by
            have c2 : (!decide (y ∈ way)) = true := c1
            simpa using c2
          have sn : abN d (n + 2) (.str c) = way ++ [y] := by rw [hway]; exact ab_snoc (n + 1) _ y e
          have nd2 : (way ++ [y]).Nodup := List.nodup_append.mpr ⟨wnd, (by simp : [y].Nodup), fun a ha b hb ee => yn (by rw [List.mem_singleton.mp hb] at ee; rw [← ee]; exact ha)⟩
          have sb2 : ∀ x, x ∈ way ++ [y] → x ∈ fo := fun x hx => (List.mem_append.mp hx).elim (wsub x) fun h => by rw [List.mem_singleton.mp h]; exact hy
          have le2 := nd2.length_le_of_subset sb2
          rw [List.length_append, wl, List.length_singleton] at le2
          refine ⟨_, fun σ' H' hN => ⟨fo.length + 1 - (n + 1), by omega, hN⟩, ?_⟩
          refine ⟨_, rfl, .inl ⟨rfl, _, .inl (.inl l2)⟩, _, rfl, _, rfl, _, rfl, l, _, _, .str z, rfl, rfl, lst2 Ext.rfl', last, p, _, rfl, dg Ext.rfl', l, _, _, rfl, rfl, l2, by rw [List.length_map, wl, sizeLine_eq]; omega, ?_⟩
          refine ⟨n + 1, rfl, le2, rfl, x2.over hl, ?_, ?_, ?_, ?_⟩
          · rw [sn, upd_same, List.map_append]
            rfl
          · rw [sn, List.length_append, wl]
            rfl
          · rw [sn]
            exact nd2
          · rw [sn]
            exact sb2
        · have ym : y ∈ way := by
            have c2 : ¬ (!decide (y ∈ way)) = true := c1
            simpa using c2
          refine ⟨_, rfl, _, rfl, _, rfl, l, _, _, .str z, rfl, rfl, lst2 Ext.rfl', last, p, _, rfl, dg Ext.rfl', _, rfl, rfl, _, rfl, ?_⟩
          refine ite2 (fun c2 => ?_) fun c2 => ?_
          · have yc : y = c := by
              have := of_decide_eq_true c2
              injection this
            subst yc
            refine ⟨_, rfl, l, _, rfl, .inl (lst2 Ext.rfl'), fun t H3 x3 st => qR t way H3 (x02.trans x3) st ?_⟩
            rw [hway]
            rw [hway] at wl wnd wsub
            exact ring_ok wl wnd wsub e
          · have yc : y ≠ c := fun ee => c2 (by rw [ee, decide_eq_true rfl])
            refine ⟨_, _, rfl, x02, fun x hx => go x hx fun ⟨m, m0, em⟩ => ?_⟩
            obtain ⟨j, hj⟩ := List.mem_iff_getElem?.mp ym
            have hjl := (List.getElem?_eq_some_iff.mp hj).1
            obtain ⟨y0, e0, w0⟩ := stat 0 (Nat.zero_le _)
            have e0 : V.str c = .str y0 := e0
            injection e0 with e0
            subst e0
            have j1 : 1 ≤ j := by
              rcases Nat.eq_zero_or_pos j with z0 | z0
              · subst z0
                rw [hj] at w0
                exact absurd (Option.some.inj w0) yc
              · exact z0
            obtain ⟨yj, ej, wj⟩ := stat j (by omega)
            have eyj : yj = y := by
              rw [hj] at wj
              exact (Option.some.inj wj).symm
            subst eyj
            have clo : ∀ m, 1 ≤ m → ∃ k, 1 ≤ k ∧ k ≤ n ∧ itV d m (.str c) = itV d k (.str c) := fun m => by
              induction m with
              | zero => intro h; omega
              | succ m ih =>
                intro _
                rcases Nat.eq_zero_or_pos m with z0 | z0
                · subst z0
                  exact ⟨1, Nat.le_refl _, by omega, rfl⟩
                · obtain ⟨k, k1, kn, ek⟩ := ih z0
                  rcases Nat.lt_or_ge k n with lt | ge
                  · refine ⟨k + 1, by omega, lt, ?_⟩
                    rw [it_succ, it_succ, ek]
                  · have : k = n := by omega
                    subst this
                    refine ⟨j, j1, by omega, ?_⟩
                    rw [it_succ, ek, ← it_succ, e, ej]
            obtain ⟨k, k1, kn, ek⟩ := clo m m0
            obtain ⟨yk, ek2, wk⟩ := stat k kn
            rw [em, ek2] at ek
            injection ek with ek
            subst ek
            have := (List.getElem?_inj (by omega) wnd).mp (w0.trans wk.symm)
            omega
    · rintro σ H1 ⟨u, w, rfl, x1, nc⟩
      rw [List.length_map, List.take_length] at nc
      exact qN nc H1 x1
end
end My

namespace My
open PySem PySem.Spec PyProof.Rows L2
/-! ### the class Tree -/
structure TreC (K : PySem.W.Frag) (C : Addr) : Prop where
  cl : Cls K C
  nh : NoAttr K C "house"
  nl : NoAttr K C "lying"
  ha : PySem.W.findIn K (.ref C) "__class__" = some (some (.builtin "object.__class__"))
  hn : PySem.W.specialIn K (.builtin "object.__class__") "__get__" = some (some (.builtin "getset_descriptor.__get__"))
  htk : PySem.W.takesIn K (.builtin "object.__class__") = some true
  hm : PySem.W.mroIn K C (.type "object") = some true
/-- the methods that are no fields -/
def treM : List Str := ["over", "above", "below", "lies", "moved", "holds", "keeps"]
/-- a tree stands at a, what lies over its nodes at q -/
def TreeAt (H : Hp) (K : PySem.W.Frag) (CT C a q : Addr) (fo th : List Str) (d : Dic) : Prop := ∃ dx fs h, H a = some (.ins CT dx fs) ∧ fs.lookup ("house" : Str) = some (V.ref h) ∧ fs.lookup ("lying" : Str) = some (V.ref q) ∧
  Hou H K C h fo th ∧ H q = some (.dK (kd d)) ∧ LyD fo th d ∧ Acy d ∧ (fo ++ th).length ≤ 1000 ∧ (fo ++ th).Nodup ∧ ∀ m, m ∈ treM → fs.lookup m = none
theorem TreeAt.ext {H H' : Hp} {K : PySem.W.Frag} {CT C a q : Addr} {fo th : List Str} {d : Dic} (h : TreeAt H K CT C a q fo th d) (e : Ext H H') : TreeAt H' K CT C a q fo th d := by
  obtain ⟨dx, fs, ho, h1, h2, h3, h4, h5, h6⟩ := h
  exact ⟨dx, fs, ho, e _ _ h1, h2, h3, h4.ext e, e _ _ h5, h6⟩
theorem TreeAt.ins {H : Hp} {K : PySem.W.Frag} {CT C a q : Addr} {fo th : List Str} {d : Dic} (h : TreeAt H K CT C a q fo th d) : ∃ dx fs, H a = some (.ins CT dx fs) := by
  obtain ⟨dx, fs, ho, h1, _⟩ := h
  exact ⟨dx, fs, h1⟩
theorem tyT {K : PySem.W.Frag} {H : Hp} {CT C a q : Addr} {fo th : List Str} {d : Dic} (T : TreC K CT) (h : TreeAt H K CT C a q fo th d) : TyX K H (.ref a) (.ref CT) := by
  obtain ⟨dx, fs, e⟩ := h.ins
  exact .base (.ins e T.cl T.ha T.hn T.htk T.hm)
/-! ### a dict locked, and let go -/
theorem ext_unlock {H H' : Hp} {p : Addr} {u z : HO} (hp : H p = some u) (e : Ext (L2.upd H p z) H') : Ext H (L2.upd H' p u) := fun b v k => by
  by_cases c : b = p
  · rw [c, upd_same, ← hp, ← c, k]
  · rw [upd_ne c]
    exact e b v (by rw [upd_ne c]; exact k)
theorem seqT_dk {K : PySem.W.Frag} {H : Hp} {a p : Addr} {xs : List V} {kvs : List (Key × V)} {z : HO} (h : SqT K H a xs) (hp : H p = some (.dK kvs)) : SqT K (L2.upd H p z) a xs := by
  rcases h with (h | ⟨o, h⟩) | h
  · exact .inl (.inl (by rw [upd_ne (ne_of h hp (fun z => nomatch z))]; exact h))
  · exact .inl (.inr ⟨o, by rw [upd_ne (ne_of h hp (fun z => nomatch z))]; exact h⟩)
  · exact .inr h
theorem hou_dk {H : Hp} {K : PySem.W.Frag} {C b p : Addr} {fo th : List Str} {kvs : List (Key × V)} {z : HO} (h : Hou H K C b fo th) (hp : H p = some (.dK kvs)) : Hou (L2.upd H p z) K C b fo th := by
  obtain ⟨⟨dx, fs, f, t, n, h1, h2, h3, h4, h5, h6, h7⟩, ok⟩ := h
  exact ⟨⟨dx, fs, f, t, n, by rw [upd_ne (ne_of h1 hp (fun z => nomatch z))]; exact h1, h2, h3, h4, seqT_dk h5 hp, seqT_dk h6 hp, seqT_dk h7 hp⟩, ok⟩
/-- the house stays when an instance is written -/
theorem hou_butI {K : PySem.W.Frag} {H H' : Hp} {a C CF dx h : Addr} {fs : List (Str × V)} {fo th : List Str} (hh : Hou H K C h fo th) (b : But H H' a) (ha : H a = some (.ins CF dx fs)) (ne : h ≠ a) : Hou H' K C h fo th := by
  obtain ⟨⟨dx', fs', f, t, n, h1, h2, h3, h4, h5, h6, h7⟩, k⟩ := hh
  exact ⟨⟨dx', fs', f, t, n, b _ _ ne h1, h2, h3, h4, sqT_but h5 b ha, sqT_but h6 b ha, sqT_but h7 b ha⟩, k⟩
theorem cyc_fo {fo : List Str} {d : Dic} (ok : DicOk fo d) {c : Str} (h : Cyc d c) : c ∈ fo := by
  obtain ⟨n, n0, e⟩ := h
  cases n with
  | zero => exact absurd n0 (Nat.lt_irrefl 0)
  | succ n =>
    rcases it_opt ok n _ (step_str ok c) with h | ⟨y, hy, h⟩
    · have e : itV d n (stepV d (.str c)) = .str c := e
      rw [h] at e
      cases e
    · have e : itV d n (stepV d (.str c)) = .str c := e
      rw [h] at e
      injection e with e
      rw [← e]
      exact hy
def spTInit (K : PySem.W.Frag) (CT C CF CR : Addr) : Sp := fun vs H Q E => ∃ a dx h p fo th o, vs = [.ref a, .ref h, .ref p] ∧ H a = some (.ins CT dx []) ∧ h ≠ a ∧ Hou H K C h fo th ∧ (fo ++ th).length ≤ 1000 ∧ (fo ++ th).Nodup ∧ H p = some (.dK (kd o)) ∧ (∀ z, z ∈ o.map (·.1) → z ∈ fo ++ th) ∧
  ((∃ (i : Nat) (y : V), (o.map (·.2))[i]? = some y ∧ (∀ j z, j < i → (o.map (·.2))[j]? = some z → ∃ s, z = .str s ∧ s ∈ fo) ∧ (∀ od, NotIn K (L2.upd H p (.frz od (.dK (kd o)))) fo y) ∧ ∀ d H' od, Ext (L2.upd H p (.frz od (.dK (kd o)))) H' → H d = none → H' d = some (.xd [("folder", y)]) → E (.ref CF) (some d) H') ∨
  ((∀ z, z ∈ o.map (·.2) → ∃ s, z = .str s ∧ s ∈ fo) ∧ ((∀ c, c ∈ fo → ¬ Cyc (lyD (fo ++ th) o) c) → ∀ q H', But H H' a → H q = none → TreeAt H' K CT C a q fo th (lyD (fo ++ th) o) → Q .non H') ∧
    ∀ d t way H', Ext H H' → H d = none → SqT K H' t (way.map V.str) → H' d = some (.xd [("folders", .ref t)]) → RingOk fo (lyD (fo ++ th) o) way → E (.ref CR) (some d) H'))
abbrev nm_Tree_init : List Str := ["self", "house", "over", "node", "folder", "lying", "folders"]
theorem sc_Tree_init : FnScope nm_Tree_init ["self", "house", "over"] (defScope s_Tree_init) := ⟨rfl, rfl, rfl, by decide +kernel, rfl, by decide +kernel, by decide +kernel⟩
section
variable {P : Program} {w : World} {K : PySem.W.Frag} {mg : Str → Option Value} {base : Heap} {f C CT CN CF CR CB : Addr} {fd : FuncData}
theorem ok_tInit (Fn : FunD K "__init__" "Tree.__init__" (defArgs s_Tree_init) (defBody s_Tree_init) (defScope s_Tree_init) [] [] f fd) (Z : HouseTxt P w K mg C CB) (T : TreC K CT) (hmust_be_node : HasX P w K mg base 4 "must_be_node" ["house", "thing"] (spMustNode K C CN)) (hmust_be_folder : HasX P w K mg base 4 "must_be_folder" ["house", "thing"] (spMustFolder K C CF))
    (hring : Has P w K mg base 2 "ring" ["house", "lying"] (spRing K C)) (EB : Er P w K mg base "Ringed" "folders" CR) :
    FnOk P w K mg base (L2.CX P w) 6 f fd ["self", "house", "over"] (spTInit K CT C CF CR) := by
  obtain ⟨fI, fdI, TB, FB, bB, _⟩ := EB
  refine Fn.ok sc_Tree_init (fun vs H Q E h => ?_) (fun cdv A outer s H vs Q E hr h => ⟨_,
    (pss_cons (ps_lock (ps_for (passes_of rfl) rfl (pi_keys (pv 2)) (pg_name (i := 3) sc_Tree_init.nd rfl (Or.inl rfl))
      (pss_one (ps_expr (pe_hasX hmust_be_node (hr.mono (by decide)) (pa_cons (pv 1) (pa_cons (pv 3) pa_nil)) (passes_call (takes_of rfl rfl rfl rfl) (fun _ _ _ _ h => h)))))))
      (pss_cons (ps_lock (ps_for (passes_of rfl) rfl (pi_values (pv 2)) (pg_name (i := 4) sc_Tree_init.nd rfl (Or.inl rfl))
      (pss_one (ps_expr (pe_hasX hmust_be_folder (hr.mono (by decide)) (pa_cons (pv 1) (pa_cons (pv 4) pa_nil)) (passes_call (takes_of rfl rfl rfl rfl) (fun _ _ _ _ h => h)))))))
      (pss_cons (ps_setDc (i := 5) (own := [("node", 3)]) (g := (gName 3)) (tt := tYes) rfl sc_Tree_init.nd rfl rfl (sw_trueD rfl rfl rfl (by decide +kernel)) (pi_tup (pe_fld (pv 1) rfl)) (blkOk_by (N := nm_Tree_init) (sc := defScope s_Tree_init) (by decide +kernel)) (fun _ _ _ _ _ => (pg_name (i := 3) sc_Tree_init.nd rfl (Or.inl rfl))) (fun _ _ _ _ _ => pts_nil) (fun _ _ _ _ _ => (pv 3)) (fun _ _ _ _ _ => (pe_dget1 (hu_of hr) (pv 2) (pv 3) ⟨rfl, rfl, rfl, rfl⟩)))
      (pss_cons (ps_set (i := 6) sc_Tree_init.nd rfl (Or.inl rfl) (pe_has hring (hr.mono (by decide)) (pa_cons (pv 1) (pa_cons (pv 5) pa_nil))))
      (pss_cons (ps_if (pt_cmpR op_notN (pv 6) pe_non (nomark _)) (pss_one (ps_raise rfl (takes_of rfl rfl rfl rfl) (pmk_oex TB.oex TB.iC TB.tI FB (hr.mono (by decide)) bB .nil pass0 (by rfl) TB.gl (pa_cons (pv 6) pa_nil)))) pss_nil)
      (pss_cons (ps_fld (pv 0) (pv 1) rfl)
      (pss_one (ps_fld (pv 0) (pv 5) rfl)))))))), ?_⟩)
  · obtain ⟨a, dx, h, p, fo, th, o, rfl, _⟩ := h
    rfl
  · obtain ⟨a, dx, h, p, fo, th, o, rfl, ha, nha, hou, len, nd, hp, keys, hh⟩ := h
    have lenS : (fo ++ th).length < sizeLine := by rw [sizeLine_eq]; omega
    -- the keys
    refine ⟨p, .dK (kd o), hp, True.intro, fun od => ?_⟩
    obtain ⟨HL, hHL⟩ : ∃ HL, HL = L2.upd H p (.frz od (.dK (kd o))) := ⟨_, rfl⟩
    rw [← hHL]
    have pL : HL p = some (.frz od (.dK (kd o))) := by rw [hHL, upd_same]
    have houL : Hou HL K C h fo th := by rw [hHL]; exact hou_dk hou hp
    have kdi : ∀ {i : Nat} {k : Key} {v : V}, (kd o)[i]? = some (k, v) → ∃ z, o[i]? = some (z, v) ∧ k = Sum.inr z := fun {i k v} e => by
      unfold kd at e
      rw [List.getElem?_map] at e
      cases c : o[i]? with
      | none => rw [c] at e; cases e
      | some x =>
        rw [c] at e
        cases e
        exact ⟨_, rfl, rfl⟩
    refine ⟨_, rfl, p, od, rfl, .inl ⟨kd o, pL, ?_⟩⟩
    refine for_it (walk_keys (kvs := kd o)) (fun i σ H' => Ext HL H' ∧ ∃ u, σ = [some (.ref a), some (.ref h), some (.ref p), u, none, none, none]) ⟨Ext.rfl', none, rfl⟩ (fun i σ H' _ p => p.1 _ _ pL) ?_ ?_
    · rintro i x σ H1 H2 hi ⟨x1, u, rfl⟩ ⟨rfl, k, v, e, rfl⟩
      obtain ⟨z, oz, rfl⟩ := kdi e
      refine ⟨_, rfl, _, rfl, h, .str z, fo, th, rfl, houL.ext x1, .inl ⟨z, rfl, keys z (List.mem_map.mpr ⟨_, List.mem_of_getElem? oz, rfl⟩), ?_⟩⟩
      exact ⟨x1, _, rfl⟩
    · rintro σ H1 ⟨x1, u, rfl⟩
      refine ⟨x1 _ _ pL, ?_⟩
      obtain ⟨H2, hH2⟩ : ∃ H2, H2 = L2.upd H1 p (.dK (kd o)) := ⟨_, rfl⟩
      rw [← hH2]
      have x2 : Ext H H2 := by
        rw [hH2]
        exact ext_unlock hp (by rw [← hHL]; exact x1)
      have p2 := x2 _ _ hp
      clear x1 hH2 pL houL hHL HL H1
      -- what lies over them
      refine ⟨p, .dK (kd o), p2, True.intro, fun od2 => ?_⟩
      obtain ⟨HL, hHL⟩ : ∃ HL, HL = L2.upd H2 p (.frz od2 (.dK (kd o))) := ⟨_, rfl⟩
      rw [← hHL]
      have pL : HL p = some (.frz od2 (.dK (kd o))) := by rw [hHL, upd_same]
      have houL : Hou HL K C h fo th := by rw [hHL]; exact hou_dk (hou.ext x2) p2
      have xL : Ext (L2.upd H p (.frz od2 (.dK (kd o)))) HL := fun b v k => by
        rw [hHL]
        by_cases c : b = p
        · subst c
          rw [upd_same] at k ⊢
          exact k
        · rw [upd_ne c] at k ⊢
          exact x2 _ _ k
      have vals : ∀ {i : Nat} {k : Key} {v : V}, (kd o)[i]? = some (k, v) → (o.map (·.2))[i]? = some v := fun {i k v} e => by
        obtain ⟨z, oz, _⟩ := kdi e
        rw [List.getElem?_map, oz]
        rfl
      refine ⟨_, rfl, p, od2, kd o, rfl, pL, ?_⟩
      rcases hh with ⟨n, y, hy, bef, nin, qE⟩ | ⟨all, qN, qR⟩
      · refine for_it (walk_values (kvs := kd o)) (fun i σ H' => (Ext HL H' ∧ ∃ u v, σ = [some (.ref a), some (.ref h), some (.ref p), u, v, none, none]) ∧ i ≤ n) ⟨⟨Ext.rfl', _, _, rfl⟩, Nat.zero_le _⟩ (fun i σ H' _ p => p.1.1 _ _ pL) ?_ ?_
        · rintro i x σ H3 H4 hi ⟨⟨x1, u, v, rfl⟩, le⟩ ⟨rfl, k, e⟩
          have e2 := vals e
          rcases Nat.lt_or_ge i n with l | g
          · obtain ⟨s, rfl, hs⟩ := bef i _ l e2
            exact ⟨_, rfl, _, rfl, h, _, fo, th, rfl, houL.ext x1, .inl ⟨s, rfl, hs, ⟨x1, _, _, rfl⟩, l⟩⟩
          · have : i = n := by omega
            subst this
            rw [hy] at e2
            cases e2
            refine ⟨_, rfl, _, rfl, h, _, fo, th, rfl, houL.ext x1, .inr ⟨(nin od2).ext (xL.trans x1), fun d H' x3 hd hd' => qE d H' od2 (xL.trans (x1.trans x3)) ?_ hd'⟩⟩
            have h1 := ext_none (xL.trans x1) hd
            by_cases c : d = p
            · rw [c, upd_same] at h1
              cases h1
            · rw [upd_ne c] at h1
              exact h1
        · rintro σ H3 ⟨_, le⟩
          have := (List.getElem?_eq_some_iff.mp hy).1
          rw [List.length_map] at this
          rw [kd_len] at le
          omega
      refine for_it (walk_values (kvs := kd o)) (fun i σ H' => Ext HL H' ∧ ∃ u v, σ = [some (.ref a), some (.ref h), some (.ref p), u, v, none, none]) ⟨Ext.rfl', _, _, rfl⟩ (fun i σ H' _ p => p.1 _ _ pL) ?_ ?_
      · rintro i x σ H3 H4 hi ⟨x1, u, v, rfl⟩ ⟨rfl, k, e⟩
        obtain ⟨s, rfl, hs⟩ := all _ (List.mem_of_getElem? (vals e))
        exact ⟨_, rfl, _, rfl, h, _, fo, th, rfl, houL.ext x1, .inl ⟨s, rfl, hs, x1, _, _, rfl⟩⟩
      rintro σ H3 ⟨x1, u, v, rfl⟩
      refine ⟨x1 _ _ pL, ?_⟩
      obtain ⟨H4, hH4⟩ : ∃ H4, H4 = L2.upd H3 p (.dK (kd o)) := ⟨_, rfl⟩
      rw [← hH4]
      have x4 : Ext H H4 := x2.trans (by
        rw [hH4]
        exact ext_unlock p2 (by rw [← hHL]; exact x1))
      clear x1 hH4 pL houL hHL xL HL H3 p2 x2 H2
      -- the table
      have hou4 := hou.ext x4
      obtain ⟨⟨dh, fs, fa, ta, na, h1, h2, h3, h4, h5, h6, h7⟩, hok⟩ := id hou4
      refine ⟨_, rfl, h, C, dh, fs, _, rfl, h1, Z.T.cl, Z.T.nn, h4, ?_⟩
      refine ⟨na, rfl, ⟨_, h7⟩, fun D hD => ?_⟩
      have p4 := x4 _ _ hp
      have e7 : fo.map V.str ++ th.map V.str = (fo ++ th).map V.str := (List.map_append ..).symm
      obtain ⟨d, hd⟩ : ∃ d, d = lyD (fo ++ th) o := ⟨_, rfl⟩
      rw [← hd] at qN qR
      have lyk : d.map (·.1) = fo ++ th := by rw [hd]; exact ly_keys _ _
      have dl : d.length = (fo ++ th).length := by rw [← lyk, List.length_map]
      rw [e7] at h7
      refine dc_tup (K := K) (a := na) (xs := (fo ++ th).map V.str) (fun i H' => Ext H4 H' ∧ H' D = some (.dK (kd (d.take i)))) ⟨Ext.upd hD, upd_same⟩ (fun i H' _ p => h7.ext p.1) ?_ ?_
      · rintro i x H5 hx ⟨x5, hD5⟩
        rw [List.getElem?_map] at hx
        obtain ⟨z, hz, rfl⟩ : ∃ z, (fo ++ th)[i]? = some z ∧ x = .str z := by
          cases c : (fo ++ th)[i]? with
          | none => rw [c] at hx; cases hx
          | some z =>
            rw [c] at hx
            cases hx
            exact ⟨z, rfl, rfl⟩
        have zi : i < (fo ++ th).length := (List.getElem?_eq_some_iff.mp hz).1
        have di : d[i]? = some (z, (getD o z).getD .non) := by
          rw [hd]
          unfold lyD
          rw [List.getElem?_map, hz]
          rfl
        have nz : z ∉ (d.take i).map (·.1) := fun m => by
          rw [List.map_take, lyk] at m
          obtain ⟨j, hj⟩ := List.mem_iff_getElem?.mp m
          have jl := (List.getElem?_eq_some_iff.mp hj).1
          rw [List.length_take] at jl
          rw [List.getElem?_take_of_lt (by omega)] at hj
          have := (List.getElem?_inj (by omega) nd).mp (hj.trans hz.symm)
          omega
        refine ⟨rfl, ?_⟩
        refine ⟨_, rfl, _, rfl, p, rfl, .inl ⟨_, .inl (x5 _ _ p4)⟩, _, rfl, _, DGet.k (k := Sum.inr z) (x5 _ _ p4), ?_⟩
        rw [val_kd]
        refine ⟨_, Sum.inr z, rfl, hD5, by rw [kd_len, List.length_take]; omega, x5.over hD, ?_⟩
        rw [upd_same, put_kd, set_new nz, List.take_add_one, di]
        rfl
      · rintro H5 ⟨x5, hD5⟩
        rw [List.length_map, ← dl, List.take_length] at hD5
        have hou5 := hou.ext (x4.trans x5)
        have ly : LyD fo th d := ⟨lyk, fun q hq => by
          rw [hd] at hq
          unfold lyD at hq
          obtain ⟨z, _, rfl⟩ := List.mem_map.mp hq
          show (getD o z).getD .non = .non ∨ _
          cases e : getD o z with
          | none => exact .inl rfl
          | some v =>
            obtain ⟨q, hq, rfl⟩ := getD_mem e
            obtain ⟨s, es, hs⟩ := all _ (List.mem_map.mpr ⟨q, hq, rfl⟩)
            exact .inr ⟨s, hs, es⟩⟩
        refine ⟨_, rfl, _, rfl, h, D, fo, th, d, rfl, hou5, by rw [List.length_append] at len; omega, hD5, ly, fun nc H6 x6 => ?_, fun t way H6 x6 st ring => ?_⟩
        · refine ⟨_, rfl, rfl, _, rfl, ?_⟩
          refine iteF ?_
          have x6' : Ext H H6 := x4.trans (x5.trans x6)
          refine ⟨_, rfl, _, rfl, a, CT, dx, _, rfl, x6' _ _ ha, T.cl, T.nh, Nat.le_of_ble_eq_true rfl, ?_⟩
          obtain ⟨H7, hH7⟩ : ∃ H7, H7 = L2.upd H6 a (.ins CT dx (putF "house" (.ref h) [])) := ⟨_, rfl⟩
          rw [← hH7]
          have a7 : H7 a = some (.ins CT dx (putF "house" (.ref h) [])) := by rw [hH7, upd_same]
          have b7 : But H6 H7 a := by
            rw [hH7]
            exact But.upd (ext_but Ext.rfl')
          refine ⟨_, rfl, _, rfl, a, CT, dx, _, rfl, a7, T.cl, T.nl, Nat.le_of_ble_eq_true rfl, ?_⟩
          obtain ⟨H8, hH8⟩ : ∃ H8, H8 = L2.upd H7 a (.ins CT dx (putF "lying" (.ref D) (putF "house" (.ref h) []))) := ⟨_, rfl⟩
          rw [← hH8]
          have a8 : H8 a = some (.ins CT dx (putF "lying" (.ref D) (putF "house" (.ref h) []))) := by rw [hH8, upd_same]
          have b8 : But H6 H8 a := b7.trans (by
            rw [hH8]
            exact But.upd (ext_but Ext.rfl'))
          have a6 := x6' _ _ ha
          have Da : D ≠ a := fun e => by
            rw [e, x4 _ _ ha] at hD
            cases hD
          refine qN nc D H8 ((ext_but x6').trans b8) (ext_none x4 hD) ⟨dx, _, h, a8, rfl, rfl, hou_butI (hou.ext x6') b8 a6 nha, b8 _ _ Da (x6 _ _ hD5), ly, acy_of ly.ok fun c hc => nc c (cyc_fo ly.ok hc) hc, len, nd, fun m hm => ?_⟩
          unfold treM at hm
          simp at hm
          rcases hm with rfl | rfl | rfl | rfl | rfl | rfl | rfl <;> rfl
        · refine ⟨_, rfl, rfl, _, rfl, ?_⟩
          refine iteT ?_
          exact raise_at rfl Ext.rfl' fun d' H' e h1 h2 => qR d' t way H' (x4.trans (x5.trans (x6.trans e))) (ext_none (x4.trans (x5.trans x6)) h1) (st.ext e) h2 ring
end
end My

namespace My
open PySem PySem.Spec PyProof.Rows L2
/-! ### what a tree tells -/
/-- the thing is no node -/
def BadN (K : PySem.W.Frag) (ns : List Str) (y : V) (f : Str) (CN : Addr) (H : Hp) (E : XK) : Prop := NotIn K H ns y ∧ ∀ d H', Ext H H' → H d = none → H' d = some (.xd [(f, y)]) → E (.ref CN) (some d) H'
theorem BadN.ext {K : PySem.W.Frag} {ns : List Str} {y : V} {f : Str} {CN : Addr} {H H1 : Hp} {E : XK} (h : BadN K ns y f CN H E) (x : Ext H H1) : BadN K ns y f CN H1 E := ⟨h.1.ext x, fun d H' e h1 h2 => h.2 d H' (x.trans e) (ext_none x h1) h2⟩
def spTOver (K : PySem.W.Frag) (CT C CN : Addr) : Sp := fun vs H Q E => ∃ a q fo th d y, vs = [.ref a, y] ∧ TreeAt H K CT C a q fo th d ∧ ((∃ z, y = .str z ∧ z ∈ fo ++ th ∧ Q ((getD d z).getD .non) H) ∨ BadN K (fo ++ th) y "node" CN H E)
def spTAbove (K : PySem.W.Frag) (CT C CN : Addr) : Sp := fun vs H Q E => ∃ a q fo th d y, vs = [.ref a, y] ∧ TreeAt H K CT C a q fo th d ∧ ((∃ z, y = .str z ∧ z ∈ fo ++ th ∧ ∀ t H', Ext H H' → SqT K H' t ((abv d z).map V.str) → Q (.ref t) H') ∨ BadN K (fo ++ th) y "node" CN H E)
def spTLies (K : PySem.W.Frag) (CT C CN CF : Addr) : Sp := fun vs H Q E => ∃ a q fo th d x y, vs = [.ref a, x, y] ∧ TreeAt H K CT C a q fo th d ∧ (BadN K (fo ++ th) x "node" CN H E ∨
  ∃ z, x = .str z ∧ z ∈ fo ++ th ∧ ((∃ g, y = .str g ∧ g ∈ fo ∧ ∀ H', Ext H H' → Q (.bl (decide (g ∈ abv d z))) H') ∨ BadN K fo y "folder" CF H E))
def spTBelow (K : PySem.W.Frag) (CT C CF : Addr) : Sp := fun vs H Q E => ∃ a q fo th d y, vs = [.ref a, y] ∧ TreeAt H K CT C a q fo th d ∧ ((∃ g, y = .str g ∧ g ∈ fo ∧ ∀ t H', Ext H H' → SqT K H' t (((fo ++ th).filter fun z => decide (g ∈ abv d z)).map V.str) → Q (.ref t) H') ∨ BadN K fo y "folder" CF H E)
abbrev nm_Tree_over : List Str := ["self", "node"]
theorem sc_Tree_over : FnScope nm_Tree_over ["self", "node"] (defScope s_Tree_over) := ⟨rfl, rfl, rfl, by decide +kernel, rfl, by decide +kernel, by decide +kernel⟩
abbrev nm_Tree_above : List Str := ["self", "node", "folders", "folder"]
theorem sc_Tree_above : FnScope nm_Tree_above ["self", "node"] (defScope s_Tree_above) := ⟨rfl, rfl, rfl, by decide +kernel, rfl, by decide +kernel, by decide +kernel⟩
abbrev nm_Tree_below : List Str := ["self", "folder", "node"]
theorem sc_Tree_below : FnScope nm_Tree_below ["self", "folder"] (defScope s_Tree_below) := ⟨rfl, rfl, rfl, by decide +kernel, rfl, by decide +kernel, by decide +kernel⟩
abbrev nm_Tree_lies : List Str := ["self", "node", "folder", "folders"]
theorem sc_Tree_lies : FnScope nm_Tree_lies ["self", "node", "folder"] (defScope s_Tree_lies) := ⟨rfl, rfl, rfl, by decide +kernel, rfl, by decide +kernel, by decide +kernel⟩
section
variable {P : Program} {w : World} {K : PySem.W.Frag} {mg : Str → Option Value} {base : Heap} {f C CT CN CF CR CB : Addr} {fd : FuncData}
theorem dget_ly {fo th : List Str} {d : Dic} {H : Hp} {q : Addr} {z : Str} (ly : LyD fo th d) (hq : H q = some (.dK (kd d))) (hz : z ∈ fo ++ th) : DGet H q (.str z) (some ((getD d z).getD .non)) := by
  obtain ⟨v, hv⟩ := getD_some (d := d) (z := z) (by rw [ly.keys]; exact hz)
  exact .inl ⟨kd d, Sum.inr z, .inl hq, rfl, by rw [val_kd, hv]; rfl⟩
theorem ok_tOver (Fn : FunD K "over" "Tree.over" (defArgs s_Tree_over) (defBody s_Tree_over) (defScope s_Tree_over) [] [] f fd) (T : TreC K CT) (hmust_be_node : HasX P w K mg base 4 "must_be_node" ["house", "thing"] (spMustNode K C CN)) :
    FnOk P w K mg base (L2.CX P w) 5 f fd ["self", "node"] (spTOver K CT C CN) := by
  refine Fn.ok sc_Tree_over (fun vs H Q E h => ?_) (fun cdv A outer s H vs Q E hr h => ⟨_,
    (pss_cons (ps_expr (pe_hasX hmust_be_node (hr.mono (by decide)) (pa_cons (pe_fld (pv 0) rfl) (pa_cons (pv 1) pa_nil)) (passes_call (takes_of rfl rfl rfl rfl) (fun _ _ _ _ h => h))))
      (pss_one (ps_ret (pe_dget (hu_of hr) (pe_fld (pv 0) rfl) (pv 1) (fun _ _ => rfl))))), ?_⟩)
  · obtain ⟨a, q, fo, th, d, y, rfl, _⟩ := h
    rfl
  · obtain ⟨a, q, fo, th, d, y, rfl, tr, hh⟩ := h
    obtain ⟨dx, fs, ho, h1, h2, h3, h4, h5, h6, h7⟩ := id tr
    refine ⟨_, rfl, a, CT, dx, fs, _, rfl, h1, T.cl, T.nh, h2, ?_⟩
    refine ⟨_, rfl, ho, y, fo, th, rfl, h4, ?_⟩
    rcases hh with ⟨z, rfl, hz, q'⟩ | bad
    · exact .inl ⟨z, rfl, hz, _, rfl, a, CT, dx, fs, _, rfl, h1, T.cl, T.nl, h3, _, rfl, q, _, rfl, dget_ly h6 h5 hz, q'⟩
    · exact .inr bad
theorem ok_tAbove (Fn : FunD K "above" "Tree.above" (defArgs s_Tree_above) (defBody s_Tree_above) (defScope s_Tree_above) [] [] f fd) (T : TreC K CT) {fO : Addr} {fdO : FuncData} (tmV : Meth K CT "over" fO) (tV : FnOk P w K mg base (L2.CX P w) 5 fO fdO ["self", "node"] (spTOver K CT C CN)) (tbV : Binds K fdO ["self", "node"] []) (gB_tuple : mg "tuple" = none) :
    FnOk P w K mg base (L2.CX P w) 6 f fd ["self", "node"] (spTAbove K CT C CN) := by
  refine Fn.ok sc_Tree_above (fun vs H Q E h => ?_) (fun cdv A outer s H vs Q E hr h => ⟨_,
    (pss_cons (ps_set (i := 2) sc_Tree_above.nd rfl (Or.inl rfl) (pe_lst pa_nil))
      (pss_cons (ps_set (i := 3) sc_Tree_above.nd rfl (Or.inl rfl) (pe_meth (pv 0) T.cl tmV tV (hr.mono (by decide)) tbV .nil (passes_call (takes_of rfl rfl rfl rfl) (fun _ _ _ _ h => h)) (pa_cons (pv 1) pa_nil)))
      (pss_cons (ps_while (passes_of rfl) (pt_cmpR op_notN (pv 3) pe_non (nomark _)) (pss_cons (ps_expr (pe_bm PySem.F.plainAttrs_list PySem.F.slot_list_append PySem.F.type_list_append mt_append (pv 2) (pa_cons (pv 3) pa_nil)))
      (pss_one (ps_set (i := 3) sc_Tree_above.nd rfl (Or.inl rfl) (pe_dget (hu_of hr) (pe_fld (pv 0) rfl) (pv 3) (fun _ _ => rfl))))))
      (pss_one (ps_ret (pe_callTy call_tup (by rfl) gB_tuple (by decide +kernel) (pa_cons (pv 2) pa_nil))))))), ?_⟩)
  · obtain ⟨a, q, fo, th, d, y, rfl, _⟩ := h
    rfl
  · obtain ⟨a, q, fo, th, d, y, rfl, tr, hh⟩ := h
    obtain ⟨dx, fs, ho, h1, h2, h3, h4, h5, h7b⟩ := id tr
    obtain ⟨ly, acy, len, nd, meth⟩ := h7b
    refine ⟨Nat.zero_le _, fun l hl => ?_⟩
    have xl := Ext.upd (o := .lst []) hl
    refine ⟨_, rfl, a, dx, fs, rfl, xl _ _ h1, meth _ (by decide), _, rfl, a, q, fo, th, d, y, rfl, tr.ext xl, ?_⟩
    rcases hh with ⟨z, rfl, hz, q'⟩ | bad
    · refine .inl ⟨z, rfl, hz, ?_⟩
      refine ⟨fun m σ H' => ∃ k acc v, m = d.length - k ∧ k ≤ d.length ∧ σ = [some (.ref a), some (.str z), some (.ref l), some v] ∧ Ext H H' ∧ H' l = some (.lst (acc.map V.str)) ∧ acc.length ≤ k ∧ v = itV d k ((getD d z).getD .non) ∧ acc ++ abN d (d.length - k) v = abv d z, ⟨_, 0, [], _, rfl, Nat.zero_le _, rfl, xl, upd_same, Nat.zero_le _, rfl, rfl⟩, ?_⟩
      rintro m σ H2 ⟨k, acc, v, rfl, hk, rfl, x2, l2, al, hv, e⟩
      refine ⟨_, rfl, rfl, _, rfl, ?_⟩
      have ov : v = .non ∨ ∃ y, y ∈ fo ∧ v = .str y := by
        rw [hv]
        exact it_opt ly.ok k _ (getD_opt ly.ok z)
      have dl : d.length ≤ 1000 := by
        rw [← List.length_map (f := (·.1)), ly.keys]
        exact len
      rcases ov with rfl | ⟨g, hg, rfl⟩
      · refine iteF ?_
        have : ∀ n, abN d n .non = [] := fun n => by cases n <;> rfl
        rw [this, List.append_nil] at e
        rw [e] at l2
        exact ⟨_, rfl, l, _, rfl, .inl (SqL.of l2), fun t H3 x3 st => q' t H3 (x2.trans x3) st⟩
      · refine iteT ?_
        have kl : k < d.length := by
          rcases Nat.lt_or_ge k d.length with l | g
          · exact l
          · have e1 : itV d k ((getD d z).getD .non) = .non := it_stay (show itV d d.length ((getD d z).getD .non) = .non from acy_end ly.ok acy z) g
            rw [e1] at hv
            cases hv
        have e9 : d.length - k = (d.length - (k + 1)) + 1 := by omega
        rw [e9] at e
        refine ⟨_, fun σ' H' hN => ⟨d.length - (k + 1), by omega, hN⟩, ?_⟩
        refine ⟨_, rfl, .inl ⟨rfl, _, .inl (.inl l2)⟩, _, rfl, l, _, _, rfl, rfl, l2, by rw [List.length_map, sizeLine_eq]; omega, ?_⟩
        have x3 := x2.over (o := .lst (acc.map V.str ++ [.str g])) hl
        refine ⟨_, rfl, a, CT, dx, fs, _, rfl, x3 _ _ h1, T.cl, T.nl, h3, _, rfl, q, _, rfl, dget_ly ly (x3 _ _ h5) (List.mem_append_left _ hg), ?_⟩
        refine ⟨k + 1, acc ++ [g], _, rfl, kl, rfl, x3, by rw [upd_same, List.map_append]; rfl, by rw [List.length_append]; exact Nat.succ_le_succ al, ?_, ?_⟩
        · rw [it_succ, ← hv]
          rfl
        · rw [List.append_assoc]
          exact e
    · exact .inr (bad.ext xl)
theorem ok_tBelow (Fn : FunD K "below" "Tree.below" (defArgs s_Tree_below) (defBody s_Tree_below) (defScope s_Tree_below) [] [] f fd) (T : TreC K CT) (Z : HouseTxt P w K mg C CB) {fA : Addr} {fdA : FuncData} (tmA : Meth K CT "above" fA) (tA : FnOk P w K mg base (L2.CX P w) 6 fA fdA ["self", "node"] (spTAbove K CT C CN)) (tbA : Binds K fdA ["self", "node"] []) (hmust_be_folder : HasX P w K mg base 4 "must_be_folder" ["house", "thing"] (spMustFolder K C CF)) (gB_tuple : mg "tuple" = none) :
    FnOk P w K mg base (L2.CX P w) 7 f fd ["self", "folder"] (spTBelow K CT C CF) := by
  refine Fn.ok sc_Tree_below (fun vs H Q E h => ?_) (fun cdv A outer s H vs Q E hr h => ⟨_,
    (pss_cons (ps_expr (pe_hasX hmust_be_folder (hr.mono (by decide)) (pa_cons (pe_fld (pv 0) rfl) (pa_cons (pv 1) pa_nil)) (passes_call (takes_of rfl rfl rfl rfl) (fun _ _ _ _ h => h))))
      (pss_one (ps_ret (pe_callTy call_tup (by rfl) gB_tuple (by decide +kernel) (pa_cons (pe_lc (own := [("node", 2)]) (g := (gName 2)) rfl sc_Tree_below.nd (pi_tup (pe_fld (pe_fld (pv 0) rfl) rfl)) (blkOk_by (N := nm_Tree_below) (sc := defScope s_Tree_below) (by decide +kernel)) (fun _ _ _ _ _ => (pg_name (i := 2) sc_Tree_below.nd rfl (Or.inl rfl))) (fun _ _ _ _ _ => pts_one (pt_cmpR (opK (r := fun K => rIn K false) (K := K) rfl op_in_seq) (pv 1) (pe_meth (pv 0) T.cl tmA tA (hr.mono (by decide)) tbA .nil passL (pa_cons (pv 2) pa_nil)) (by rfl))) (fun _ _ _ _ _ => (pv 2))) pa_nil))))), ?_⟩)
  · obtain ⟨a, q, fo, th, d, y, rfl, _⟩ := h
    rfl
  · obtain ⟨a, q, fo, th, d, y, rfl, tr, hh⟩ := h
    obtain ⟨dx, fs, ho, h1, h2, h3, h4, h5, h7b⟩ := id tr
    obtain ⟨ly, acy, len, nd, meth⟩ := h7b
    refine ⟨_, rfl, a, CT, dx, fs, _, rfl, h1, T.cl, T.nh, h2, ?_⟩
    refine ⟨_, rfl, ho, y, fo, th, rfl, h4, ?_⟩
    rcases hh with ⟨g, rfl, hg, q'⟩ | bad
    · refine .inl ⟨g, rfl, hg, ?_⟩
      obtain ⟨⟨dh, hf, fa, ta, na, k1, k2, k3, k4, k5, k6, k7⟩, hok⟩ := id h4
      have e7 : fo.map V.str ++ th.map V.str = (fo ++ th).map V.str := (List.map_append ..).symm
      rw [e7] at k7
      refine ⟨_, rfl, a, CT, dx, fs, _, rfl, h1, T.cl, T.nh, h2, ho, C, dh, hf, _, rfl, k1, Z.T.cl, Z.T.nn, k4, na, rfl, ⟨_, k7⟩, fun D hD => ?_⟩
      refine lc_tup (K := K) (a := na) (xs := (fo ++ th).map V.str) (fun k H' => Ext H H' ∧ H' D = some (.lst ((((fo ++ th).take k).filter fun z => decide (g ∈ abv d z)).map V.str))) ⟨Ext.upd hD, upd_same⟩ (fun k H' _ z => k7.ext z.1) ?_ ?_
      · rintro k v H4 hv ⟨x4, d4⟩
        obtain ⟨z, hz, rfl⟩ := strs_at hv
        have tk : (fo ++ th).take (k + 1) = (fo ++ th).take k ++ [z] := by
          rw [List.take_add_one, hz]
          rfl
        rw [tk]
        refine ⟨rfl, ?_⟩
        refine ⟨_, rfl, _, rfl, a, dx, fs, rfl, x4 _ _ h1, meth _ (by decide), _, rfl, a, q, fo, th, d, _, rfl, tr.ext x4, .inl ⟨z, rfl, List.mem_of_getElem? hz, fun t H5 x5 st => ?_⟩⟩
        refine ⟨t, _, rfl, .inr st, rfl, flat_strs _, _, rfl, ?_⟩
        rw [inV_str]
        have d5 := x5 _ _ d4
        have cc : ∀ {b : Bool}, (if false = true then !b else b) = true → b = true := fun h => h
        refine ite2 (fun c => ?_) fun c => ?_
        · refine ⟨_, rfl, _, d5, ?_, (x4.trans x5).over hD, ?_⟩
          · rw [List.length_map]
            refine Nat.lt_of_le_of_lt (List.length_filter_le _ _) ?_
            rw [List.length_take, sizeLine_eq]
            omega
          · rw [upd_same, List.filter_append, List.filter_cons, if_pos (cc c), List.map_append]
            rfl
        · refine ⟨x4.trans x5, ?_⟩
          rw [d5, List.filter_append, List.filter_cons, if_neg (show ¬ decide (g ∈ abv d z) = true from c), List.filter_nil, List.append_nil]
      · rintro H5 ⟨x5, d5⟩
        rw [List.length_map, List.take_length] at d5
        exact ⟨_, _, rfl, .inl (SqL.of d5), fun t H6 x6 st => q' t H6 (x5.trans x6) st⟩
    · exact .inr bad
theorem ok_tLies (Fn : FunD K "lies" "Tree.lies" (defArgs s_Tree_lies) (defBody s_Tree_lies) (defScope s_Tree_lies) [] [] f fd) (T : TreC K CT) {fA : Addr} {fdA : FuncData} (tmA : Meth K CT "above" fA) (tA : FnOk P w K mg base (L2.CX P w) 6 fA fdA ["self", "node"] (spTAbove K CT C CN)) (tbA : Binds K fdA ["self", "node"] []) (hmust_be_folder : HasX P w K mg base 4 "must_be_folder" ["house", "thing"] (spMustFolder K C CF)) :
    FnOk P w K mg base (L2.CX P w) 7 f fd ["self", "node", "folder"] (spTLies K CT C CN CF) := by
  refine Fn.ok sc_Tree_lies (fun vs H Q E h => ?_) (fun cdv A outer s H vs Q E hr h => ⟨_,
    (pss_cons (ps_set (i := 3) sc_Tree_lies.nd rfl (Or.inl rfl) (pe_meth (pv 0) T.cl tmA tA (hr.mono (by decide)) tbA .nil (passes_call (takes_of rfl rfl rfl rfl) (fun _ _ _ _ h => h)) (pa_cons (pv 1) pa_nil)))
      (pss_cons (ps_expr (pe_hasX hmust_be_folder (hr.mono (by decide)) (pa_cons (pe_fld (pv 0) rfl) (pa_cons (pv 2) pa_nil)) (passes_call (takes_of rfl rfl rfl rfl) (fun _ _ _ _ h => h))))
      (pss_one (ps_ret (pe_cmpR op_in_seq (pv 2) (pv 3) (by rfl)))))), ?_⟩)
  · obtain ⟨a, q, fo, th, d, x, y, rfl, _⟩ := h
    rfl
  · obtain ⟨a, q, fo, th, d, x, y, rfl, tr, hh⟩ := h
    obtain ⟨dx, fs, ho, h1, h2, h3, h4, h5, h7b⟩ := id tr
    obtain ⟨ly, acy, len, nd, meth⟩ := h7b
    refine ⟨_, rfl, a, dx, fs, rfl, h1, meth _ (by decide), _, rfl, a, q, fo, th, d, x, rfl, tr, ?_⟩
    rcases hh with bad | ⟨z, rfl, hz, hh⟩
    · exact .inr bad
    refine .inl ⟨z, rfl, hz, fun t H1 x1 st => ?_⟩
    refine ⟨_, rfl, a, CT, dx, fs, _, rfl, x1 _ _ h1, T.cl, T.nh, h2, ?_⟩
    refine ⟨_, rfl, ho, y, fo, th, rfl, h4.ext x1, ?_⟩
    rcases hh with ⟨g, rfl, hg, q'⟩ | bad
    · refine .inl ⟨g, rfl, hg, ?_⟩
      refine ⟨_, rfl, _, rfl, t, _, rfl, .inr st, rfl, flat_strs _, ?_⟩
      show Q (.bl (inV _ _)) _
      rw [inV_str]
      exact q' H1 x1
    · exact .inr (bad.ext x1)
end
end My

namespace My
open PySem PySem.Spec PyProof.Rows L2
/-! ### names of the law -/
def stems : List Str := ["m", "c", "zz", "abcdefgh", "k", "ba", "x", "again", "d", "below", "a", "line", "y"]
theorem stems_ok : ∀ z, z ∈ stems → nameB z = true ∧ PyData.strOk z = true ∧ z.length ≤ 8 := by decide +kernel
theorem stems_nd : stems.Nodup := by decide +kernel
theorem seqIx {r n : Nat} (h : r < n) : PySem.seqIndex? (r : Int) n = some r := by
  unfold PySem.seqIndex?
  simp
  omega
theorem era_map {α β : Type} (f : α → β) : ∀ (xs : List α) (i : Nat), (xs.map f).eraseIdx i = (xs.eraseIdx i).map f
  | [], _ => rfl
  | _ :: _, 0 => rfl
  | x :: xs, i + 1 => congrArg (f x :: ·) (era_map f xs i)
theorem era_perm {α : Type} : ∀ (xs : List α) (i : Nat) (h : i < xs.length), (xs[i] :: xs.eraseIdx i).Perm xs
  | _ :: _, 0, _ => .refl _
  | x :: xs, i + 1, h => (List.Perm.swap x (xs[i]'(Nat.lt_of_succ_lt_succ h)) (xs.eraseIdx i)).trans (.cons x (era_perm xs i (Nat.lt_of_succ_lt_succ h)))
/-- names of the law: unlike ones out of the stems -/
def Nst (zs : List Str) : Prop := zs.Nodup ∧ ∀ z, z ∈ zs → z ∈ stems
theorem Nst.ok {zs : List Str} (h : Nst zs) : Nok zs := ⟨h.1, fun z hz => ⟨(stems_ok z (h.2 z hz)).1, (stems_ok z (h.2 z hz)).2.1, Nat.le_trans (stems_ok z (h.2 z hz)).2.2 (by rw [sizeLine_eq]; decide)⟩⟩
def spNames (K : PySem.W.Frag) : Sp := fun vs H Q _ => ∃ (p : Addr) (m : Nat) (n : Int), vs = [.ref p, .int (m : Int)] ∧ m ≤ 12 ∧ Pool H p n ∧ n < 1000000 ∧
  ∀ l zs H', But H H' p → Pool H' p (n + m) → H l = none → H' l = some (.lst (zs.map V.str)) → zs.length = m → Nst zs → Q (.ref l) H'
abbrev nm__law_names : List Str := ["_law_pool_here", "_law_many", "_law_stems", "_law_found", "_law_k"]
theorem sc__law_names : FnScope nm__law_names ["_law_pool_here", "_law_many"] (defScope s__law_names) := ⟨rfl, rfl, rfl, by decide +kernel, rfl, by decide +kernel, by decide +kernel⟩
section
variable {P : Program} {w : World} {K : PySem.W.Frag} {mg : Str → Option Value} {base : Heap} {f C CB : Addr} {fd : FuncData}
theorem ok_names (Fn : FnP K "_law_names" s__law_names f fd) (h_law_take : Has P w K mg base 1 "_law_take" ["_law_pool_here", "_law_many"] spTake) (gB_range : mg "range" = none) (gB_len : mg "len" = none) :
    FnOk P w K mg base CX0 2 f fd ["_law_pool_here", "_law_many"] (spNames K) := by
  refine Fn.ok sc__law_names (fun vs H Q E h => ?_) (fun cdv A outer s H vs Q E hr h => ⟨_, PSs.nox
    (pss_cons (ps_set (i := 2) sc__law_names.nd rfl (Or.inl rfl) (pe_lst (pa_cons pe_str (pa_cons pe_str (pa_cons pe_str (pa_cons pe_str (pa_cons pe_str (pa_cons pe_str (pa_cons pe_str (pa_cons pe_str (pa_cons pe_str (pa_cons pe_str (pa_cons pe_str (pa_cons pe_str (pa_cons pe_str pa_nil)))))))))))))))
      (pss_cons (ps_set (i := 3) sc__law_names.nd rfl (Or.inl rfl) (pe_lst pa_nil))
      (pss_cons (ps_for PassesOwn.never rfl (pi_range1 (by rfl) gB_range (pa_cons (pv 1) pa_nil)) (pg_name (i := 4) sc__law_names.nd rfl (Or.inl rfl))
      (pss_one (ps_expr (pe_bm PySem.F.plainAttrs_list PySem.F.slot_list_append PySem.F.type_list_append mt_append (pv 3) (pa_cons (pe_bm PySem.F.plainAttrs_list PySem.F.slot_list_pop PySem.F.type_list_pop mt_popAt (pv 2) (pa_cons (pe_has h_law_take (hr.mono (by decide)) (pa_cons (pv 0) (pa_cons (pe_callB call_len (by rfl) gB_len boot_len (pa_cons (pv 2) pa_nil)) pa_nil))) pa_nil)) pa_nil)))))
      (pss_one (ps_ret (pv 3)))))), ?_⟩)
  · obtain ⟨p, m, n, rfl, _⟩ := h
    rfl
  · obtain ⟨p, m, n, rfl, hm, hp, hn, q⟩ := h
    refine ⟨Nat.le_of_ble_eq_true rfl, fun s hs => ⟨Nat.le_of_ble_eq_true rfl, fun l hl => ?_⟩⟩
    obtain ⟨H0, hH0⟩ : ∃ H0, H0 = upd (upd H s (.lst [.str "m", .str "c", .str "zz", .str "abcdefgh", .str "k", .str "ba", .str "x", .str "again", .str "d", .str "below", .str "a", .str "line", .str "y"])) l (.lst []) := ⟨_, rfl⟩
    have x0 : Ext H H0 := by
      rw [hH0]
      exact (Ext.upd hs).trans (Ext.upd hl)
    have nsl : s ≠ l := fun e => by rw [← e, upd_same] at hl; cases hl
    have hl0 : H l = none := by
      rw [upd_ne (Ne.symm nsl)] at hl
      exact hl
    have nsp : s ≠ p := pool_ne hp hs
    have nlp : l ≠ p := pool_ne hp hl0
    rw [← hH0]
    have s0 : H0 s = some (.lst (stems.map V.str)) := by rw [hH0, upd_ne nsl, upd_same]; rfl
    have l0 : H0 l = some (.lst (([] : List Str).map V.str)) := by rw [hH0, upd_same]; rfl
    refine ⟨_, rfl, (m : Int), rfl, Int.le_trans (by decide) (Int.natCast_nonneg m), Int.lt_of_le_of_lt (Int.ofNat_le.mpr hm) (by decide), for_range (lo := 0) (n := m) (fun k σ H' => ∃ (v : Option V) (rem fnd : List Str), σ = [some (.ref p), some (.int (m : Int)), some (.ref s), some (.ref l), v] ∧ But H H' p ∧ Pool H' p (n + k) ∧ H' s = some (.lst (rem.map V.str)) ∧ H' l = some (.lst (fnd.map V.str)) ∧ (fnd ++ rem).Perm stems ∧ fnd.length = k) ?_ ?_ ?_⟩
    · exact ⟨none, stems, [], rfl, ext_but x0, by rw [show n + ((0 : Nat) : Int) = n by omega]; exact pool_ext hp x0, s0, l0, .refl _, rfl⟩
    · rintro k σ H1 hk ⟨v, rem, fnd, rfl, b1, p1, s1, l1, pm, len⟩
      have lenrem : rem.length = 13 - k := by
        have z := pm.length_eq
        rw [List.length_append, len] at z
        have : stems.length = 13 := by decide +kernel
        omega
      refine ⟨_, rfl, .inl ⟨rfl, _, .inl (.inl l1)⟩, ?_⟩
      refine ⟨_, rfl, .inl ⟨rfl, _, .inl (.inl s1)⟩, ?_⟩
      refine ⟨_, rfl, _, rfl, _, _, rfl, .inl ⟨_, SqL.of s1, rfl⟩, ?_⟩
      refine ⟨p, _, _, rfl, ?_, ?_, p1, by omega, fun r o r0 r1 gp => ?_⟩
      · rw [List.length_map]; omega
      · rw [List.length_map]; omega
      obtain ⟨r, rfl⟩ := Int.eq_ofNat_of_zero_le r0
      rw [List.length_map] at r1
      have r1' : r < rem.length := by omega
      obtain ⟨H2, hH2⟩ : ∃ H2, H2 = upd H1 p o := ⟨_, rfl⟩
      rw [← hH2] at gp ⊢
      have s2 : H2 s = some (.lst (rem.map V.str)) := by rw [hH2, upd_ne nsp]; exact s1
      have l2 : H2 l = some (.lst (fnd.map V.str)) := by rw [hH2, upd_ne nlp]; exact l1
      refine ⟨s, _, (r : Int), r, .str rem[r], rfl, rfl, s2, Int.le_trans (by decide) (Int.natCast_nonneg r), by omega, seqIx (by rw [List.length_map]; exact r1'), by rw [List.getElem?_map, List.getElem?_eq_getElem r1']; rfl, ?_⟩
      have l3 : (upd H2 s (.lst ((rem.map V.str).eraseIdx r))) l = some (.lst (fnd.map V.str)) := by rw [upd_ne (Ne.symm nsl)]; exact l2
      refine ⟨l, _, _, rfl, rfl, l3, by rw [List.length_map, len, sizeLine_eq]; omega, ?_⟩
      have keep : ∀ b u, b ≠ p → b ≠ s → b ≠ l → H1 b = some u → (upd (upd H2 s (.lst ((rem.map V.str).eraseIdx r))) l (.lst (fnd.map V.str ++ [.str rem[r]]))) b = some u := fun b u h1 h2 h3 e => by
        rw [upd_ne h3, upd_ne h2, hH2, upd_ne h1]
        exact e
      have h0 : ∀ b u, H b = some u → b ≠ s ∧ b ≠ l := fun b u e => ⟨ne_of_none e hs, ne_of_none e hl0⟩
      refine ⟨_, rem.eraseIdx r, fnd ++ [rem[r]], rfl, ?_, ?_, ?_, ?_, ?_, ?_⟩
      · intro b u hb e
        exact keep b u hb (h0 b u e).1 (h0 b u e).2 (b1 b u hb e)
      · have e : (n + (k : Int) + 1) = n + ((k + 1 : Nat) : Int) := by omega
        rw [← e]
        exact pool_at gp (by rw [upd_ne (Ne.symm nlp), upd_ne (Ne.symm nsp)])
      · rw [upd_ne nsl, upd_same, era_map]
      · rw [upd_same, List.map_append]
        rfl
      · refine List.Perm.trans ?_ pm
        rw [List.append_assoc]
        refine List.Perm.append_left fnd ?_
        exact era_perm rem r r1'
      · rw [List.length_append, len]
        rfl
    · rintro σ H1 ⟨v, rem, fnd, rfl, b1, p1, s1, l1, pm, len⟩
      refine ⟨_, rfl, q l fnd H1 b1 p1 hl0 l1 len ?_⟩
      have nd := pm.nodup_iff.mpr stems_nd
      exact ⟨(List.nodup_append.mp nd).1, fun z hz => pm.mem_iff.mp (List.mem_append_left _ hz)⟩
end
def liesN (d : Dic) (f : Str) : Nat → V → Bool
  | 0, _ => false
  | n + 1, h => decide (h = .str f) || liesN d f n (stepV d h)
def liesB (d : Dic) (a f : Str) : Bool := liesN d f 9 ((getD d a).getD .non)
theorem lies_no {fo : List Str} {d : Dic} {f : Str} (h : DicOk fo d) (hf : f ∉ fo) : ∀ n v, Opt fo v → liesN d f n v = false
  | 0, _, _ => rfl
  | n + 1, v, hv => by
    unfold liesN
    rw [lies_no h hf n _ (step_opt h hv), Bool.or_false]
    refine decide_eq_false fun e => ?_
    rcases hv with rfl | ⟨z, hz, rfl⟩
    · cases e
    · injection e with e
      exact hf (e ▸ hz)
def holdsB (d : Dic) (w a b : Str) : Bool := if w = "below" then liesB d a b else if w = "not" then !liesB d a b else liesB d a b || liesB d b a
def holdsR (d : Dic) : List Str → Bool
  | [w, a, b] => holdsB d w a b
  | _ => true
def spLies (K : PySem.W.Frag) : Sp := fun vs H Q _ => ∃ (p : Addr) (d : Dic) (fo : List Str) (a f : Str), vs = [.ref p, .str a, .str f] ∧ H p = some (.dK (kd d)) ∧ DicOk fo d ∧ Q (.bl (liesB d a f)) H
def spHolds (K : PySem.W.Frag) : Sp := fun vs H Q _ => ∃ (p t : Addr) (d : Dic) (fo : List Str) (wd a f : Str), vs = [.ref p, .ref t] ∧ H p = some (.dK (kd d)) ∧ DicOk fo d ∧ SqT K H t [.str wd, .str a, .str f] ∧ Q (.bl (holdsB d wd a f)) H
abbrev nm__law_lies : List Str := ["_law_over_here", "_law_node", "_law_folder", "_law_here", "_law_turn"]
theorem sc__law_lies : FnScope nm__law_lies ["_law_over_here", "_law_node", "_law_folder"] (defScope s__law_lies) := ⟨rfl, rfl, rfl, by decide +kernel, rfl, by decide +kernel, by decide +kernel⟩
abbrev nm__law_holds : List Str := ["_law_over_here", "_law_fact", "_law_word", "_law_one", "_law_other"]
theorem sc__law_holds : FnScope nm__law_holds ["_law_over_here", "_law_fact"] (defScope s__law_holds) := ⟨rfl, rfl, rfl, by decide +kernel, rfl, by decide +kernel, by decide +kernel⟩
section
variable {P : Program} {w : World} {K : PySem.W.Frag} {mg : Str → Option Value} {base : Heap} {f C CB : Addr} {fd : FuncData}
theorem ok_lies (Fn : FnP K "_law_lies" s__law_lies f fd) (gB_range : mg "range" = none) : FnOk P w K mg base CX0 1 f fd ["_law_over_here", "_law_node", "_law_folder"] (spLies K) := by
  refine Fn.ok sc__law_lies (fun vs H Q E h => ?_) (fun cdv A outer s H vs Q E hr h => ⟨_, PSs.nox
    (pss_cons (ps_set (i := 3) sc__law_lies.nd rfl (Or.inl rfl) (pe_dget1 (hu_of hr) (pv 0) (pv 1) ⟨rfl, rfl, rfl, rfl⟩))
      (pss_cons (ps_for PassesOwn.never rfl (pi_range1 (by rfl) gB_range (pa_cons pe_int pa_nil)) (pg_name (i := 4) sc__law_lies.nd rfl (Or.inl rfl))
      (pss_cons (ps_if (pt_cmpR op_eq (pv 3) (pv 2) (nomark _)) (pss_one (ps_ret pe_bl)) pss_nil)
      (pss_one (ps_if (pt_cmpR op_notN (pv 3) pe_non (nomark _)) (pss_one (ps_set (i := 3) sc__law_lies.nd rfl (Or.inl rfl) (pe_dget1 (hu_of hr) (pv 0) (pv 3) ⟨rfl, rfl, rfl, rfl⟩))) pss_nil))))
      (pss_one (ps_ret pe_bl)))), ?_⟩)
  · obtain ⟨p, d, fo, a, f, rfl, _⟩ := h
    rfl
  · obtain ⟨p, d, fo, a, fs, rfl, hp, ok, q⟩ := h
    refine ⟨_, rfl, p, rfl, .inl ⟨_, .inl hp⟩, _, rfl, _, DGet.k (k := Sum.inr a) hp, ?_⟩
    rw [val_kd]
    refine ⟨_, rfl, by decide, by decide, for_range (lo := 0) (n := 9) (fun k σ H' => H' = H ∧ ∃ v h, σ = [some (.ref p), some (.str a), some (.str fs), some h, v] ∧ Opt fo h ∧ liesN d fs (9 - k) h = liesB d a fs) ?_ ?_ ?_⟩
    · exact ⟨rfl, none, _, rfl, getD_opt ok a, rfl⟩
    · rintro k σ H1 hk ⟨rfl, v, h, rfl, oh, e⟩
      have e9 : 9 - k = (9 - (k + 1)) + 1 := by omega
      rw [e9] at e
      unfold liesN at e
      refine ⟨_, rfl, _, rfl, ?_, _, rfl, ?_⟩
      · rcases oh with rfl | ⟨z, _, rfl⟩ <;> rfl
      refine ite2 (fun c => ?_) fun c => ?_
      · rw [c, Bool.true_or] at e
        rw [← e] at q
        exact q
      · have c' : decide (h = .str fs) = false := by simpa using c
        rw [c', Bool.false_or] at e
        refine ⟨_, rfl, rfl, _, rfl, ?_⟩
        rcases oh with rfl | ⟨z, hz, rfl⟩
        · exact ⟨rfl, _, _, rfl, .inl rfl, e⟩
        · refine ⟨_, rfl, p, rfl, .inl ⟨_, .inl hp⟩, _, rfl, _, DGet.k (k := Sum.inr z) hp, ?_⟩
          rw [val_kd]
          exact ⟨rfl, _, _, rfl, getD_opt ok z, e⟩
    · rintro σ H1 ⟨rfl, v, h, rfl, oh, e⟩
      rw [← e] at q
      exact q
theorem ok_holds (Fn : FnP K "_law_holds" s__law_holds f fd) (h_law_lies : Has P w K mg base 1 "_law_lies" ["_law_over_here", "_law_node", "_law_folder"] (spLies K)) : FnOk P w K mg base CX0 2 f fd ["_law_over_here", "_law_fact"] (spHolds K) := by
  refine Fn.ok sc__law_holds (fun vs H Q E h => ?_) (fun cdv A outer s H vs Q E hr h => ⟨_, PSs.nox
    (pss_cons (ps_asg (pv 1) (pg_tup rfl (pgs_cons (pg_name (i := 2) sc__law_holds.nd rfl (Or.inl rfl)) (pgs_cons (pg_name (i := 3) sc__law_holds.nd rfl (Or.inl rfl)) (pgs_cons (pg_name (i := 4) sc__law_holds.nd rfl (Or.inl rfl)) pgs_nil)))))
      (pss_cons (ps_if (pt_cmpR op_eq (pv 2) pe_str (nomark _)) (pss_one (ps_ret (pe_has h_law_lies (hr.mono (by decide)) (pa_cons (pv 0) (pa_cons (pv 3) (pa_cons (pv 4) pa_nil)))))) pss_nil)
      (pss_cons (ps_if (pt_cmpR op_eq (pv 2) pe_str (nomark _)) (pss_one (ps_ret (pe_not (pe_has h_law_lies (hr.mono (by decide)) (pa_cons (pv 0) (pa_cons (pv 3) (pa_cons (pv 4) pa_nil))))))) pss_nil)
      (pss_one (ps_ret (pe_or (pe_has h_law_lies (hr.mono (by decide)) (pa_cons (pv 0) (pa_cons (pv 3) (pa_cons (pv 4) pa_nil)))) (pe_one (pe_has h_law_lies (hr.mono (by decide)) (pa_cons (pv 0) (pa_cons (pv 4) (pa_cons (pv 3) pa_nil))))))))))), ?_⟩)
  · obtain ⟨p, t, d, fo, wd, a, f, rfl, _⟩ := h
    rfl
  · obtain ⟨p, t, d, fo, wd, a, fs, rfl, hp, ok, sq, q⟩ := h
    refine ⟨_, rfl, t, _, rfl, sq, rfl, _, _, rfl, _, _, rfl, _, _, rfl, rfl, ?_⟩
    unfold holdsB at q
    refine ⟨_, rfl, rfl, _, rfl, ?_⟩
    refine ite2 (fun e => ?_) fun e => ?_
    · have e' : wd = "below" := by
        have z := of_decide_eq_true e
        injection z
      rw [if_pos e'] at q
      exact ⟨_, rfl, _, rfl, _, rfl, p, d, fo, _, _, rfl, hp, ok, q⟩
    have e' : wd ≠ "below" := fun z => e (decide_eq_true (by rw [z]))
    refine ⟨_, rfl, rfl, _, rfl, ?_⟩
    refine ite2 (fun e2 => ?_) fun e2 => ?_
    · have e2' : wd = "not" := by
        have z := of_decide_eq_true e2
        injection z
      rw [if_neg e', if_pos e2'] at q
      exact ⟨_, rfl, _, rfl, _, rfl, p, d, fo, _, _, rfl, hp, ok, _, rfl, q⟩
    have e2' : wd ≠ "not" := fun z => e2 (decide_eq_true (by rw [z]))
    rw [if_neg e', if_neg e2'] at q
    refine ⟨_, rfl, _, rfl, _, rfl, p, d, fo, _, _, rfl, hp, ok, _, rfl, ?_⟩
    refine ite2 (fun c => ?_) fun c => ?_
    · rw [c, Bool.true_or] at q
      exact q
    · have c' : liesB d a fs = false := by simpa using c
      rw [c', Bool.false_or] at q
      exact ⟨_, rfl, _, rfl, _, rfl, p, d, fo, _, _, rfl, hp, ok, q⟩
end
abbrev nm__law_plan : List Str := ["_law_pool_here", "_law_folders", "_law_things", "_law_names_here", "_law_many"]
theorem sc__law_plan : FnScope nm__law_plan ["_law_pool_here", "_law_folders", "_law_things"] (defScope s__law_plan) := ⟨rfl, rfl, rfl, by decide +kernel, rfl, by decide +kernel, by decide +kernel⟩
abbrev nm__law_house : List Str := ["_law_parts"]
theorem sc__law_house : FnScope nm__law_house ["_law_parts"] (defScope s__law_house) := ⟨rfl, rfl, rfl, by decide +kernel, rfl, by decide +kernel, by decide +kernel⟩
/-- a pair of lists of names -/
def PairAt (K : PySem.W.Frag) (H : Hp) (t : Addr) (fo th : List Str) : Prop := ∃ lf lt, SqT K H t [.ref lf, .ref lt] ∧ H lf = some (.lst (fo.map V.str)) ∧ H lt = some (.lst (th.map V.str))
theorem PairAt.ext {K : PySem.W.Frag} {H H' : Hp} {t : Addr} {fo th : List Str} (h : PairAt K H t fo th) (e : Ext H H') : PairAt K H' t fo th := by
  obtain ⟨lf, lt, h1, h2, h3⟩ := h
  exact ⟨lf, lt, h1.ext e, e _ _ h2, e _ _ h3⟩
def spPlan (K : PySem.W.Frag) : Sp := fun vs H Q _ => ∃ (p : Addr) (n : Int) (fm tm : Nat), vs = [.ref p, .int (fm : Int), .int (tm : Int)] ∧ 1 ≤ fm ∧ fm + tm ≤ 8 ∧ Pool H p n ∧ n < 900000 ∧
  ∀ t lf lt fo th H', But H H' p → Pool H' p (n + 20) → SqT K H' t [.ref lf, .ref lt] → H' lf = some (.lst (fo.map V.str)) → H' lt = some (.lst (th.map V.str)) → lf ≠ p → lt ≠ p → Nst (fo ++ th) → 1 ≤ fo.length → fo.length ≤ fm → th.length ≤ tm → Q (.ref t) H'
def spLawHouse (K : PySem.W.Frag) (C : Addr) : Sp := fun vs H Q _ => ∃ t fo th, vs = [.ref t] ∧ PairAt K H t fo th ∧ Nok (fo ++ th) ∧ fo ≠ [] ∧ (fo ++ th).length ≤ 100 ∧ ∀ h H', Ext H H' → Hou H' K C h fo th → Q (.ref h) H'
section
variable {P : Program} {w : World} {K : PySem.W.Frag} {mg : Str → Option Value} {base : Heap} {f C CB : Addr} {fd : FuncData}
theorem ok_lawHouse (Fn : FnP K "_law_house" s__law_house f fd) (Z : HouseTxt P w K mg C CB) (gB_tuple : mg "tuple" = none) (gB_list : mg "list" = none) : FnOk P w K mg base CX0 6 f fd ["_law_parts"] (spLawHouse K C) := by
  refine Fn.ok sc__law_house (fun vs H Q E h => ?_) (fun cdv A outer s H vs Q E hr h => ⟨_, PSs.nox
    (pss_one (ps_ret (pe_make Z.M (Z.I _) (hr.mono (by decide)) (by rfl) Z.gH Z.bI .nil passL (pa_cons (pe_callTy call_tup (by rfl) gB_tuple (by decide +kernel) (pa_cons (pe_ix ix_tup (pv 0) pe_int (fun _ _ => rfl)) pa_nil)) (pa_cons (pe_callTy call_lstS (by rfl) gB_list (by decide +kernel) (pa_cons (pe_ix ix_tup (pv 0) pe_int (fun _ _ => rfl)) pa_nil)) pa_nil))))), ?_⟩)
  · obtain ⟨t, fo, th, rfl, _⟩ := h
    rfl
  · obtain ⟨t, fo, th, rfl, ⟨lf, lt, sq, hf, ht⟩, nok, ne, len, q⟩ := h
    refine ⟨_, rfl, t, _, _, _, rfl, rfl, sq, rfl, lf, _, rfl, .inl (SqL.of hf), fun a H1 x1 sa => ?_⟩
    refine ⟨_, rfl, t, _, _, _, rfl, rfl, sq.ext x1, rfl, lt, _, rfl, .inl (SqL.of (x1 _ _ ht)), fun b hb => ?_⟩
    intro x dx hx hdx nx
    refine mk_at (a := a) (b := b) (fo := fo) (th := th) (.inr (sa.ext (Ext.upd hb))) (.inl (SqL.of upd_same)) nok ne (by rw [sizeLine_eq]; omega) hx hdx nx fun H' x' hou => ?_
    exact q x H' (x1.trans ((Ext.upd hb).trans x')) hou
theorem ok_plan (Fn : FnP K "_law_plan" s__law_plan f fd) (h_law_take : Has P w K mg base 1 "_law_take" ["_law_pool_here", "_law_many"] spTake) (h_law_names : Has P w K mg base 2 "_law_names" ["_law_pool_here", "_law_many"] (spNames K)) (gB_len : mg "len" = none) (gB_min : mg "min" = none) : FnOk P w K mg base CX0 3 f fd ["_law_pool_here", "_law_folders", "_law_things"] (spPlan K) := by
  refine Fn.ok sc__law_plan (fun vs H Q E h => ?_) (fun cdv A outer s H vs Q E hr h => ⟨_, PSs.nox
    (pss_cons (ps_set (i := 3) sc__law_plan.nd rfl (Or.inl rfl) (pe_has h_law_names (hr.mono (by decide)) (pa_cons (pv 0) (pa_cons (pe_op op_add (pe_op op_add pe_int (pe_has h_law_take (hr.mono (by decide)) (pa_cons (pv 0) (pa_cons (pv 1) pa_nil)))) (pe_has h_law_take (hr.mono (by decide)) (pa_cons (pv 0) (pa_cons (pe_op op_add (pv 2) pe_int) pa_nil)))) pa_nil))))
      (pss_cons (ps_set (i := 4) sc__law_plan.nd rfl (Or.inl rfl) (pe_op op_add pe_int (pe_has h_law_take (hr.mono (by decide)) (pa_cons (pv 0) (pa_cons (pe_callB (call_min2 rfl) (by rfl) gB_min boot_min (pa_cons (pv 1) (pa_cons (pe_callB call_len (by rfl) gB_len boot_len (pa_cons (pv 3) pa_nil)) pa_nil))) pa_nil)))))
      (C8.pss_cut (ps_if (pt_cmpR op_gt (pe_op op_sub (pe_callB call_len (by rfl) gB_len boot_len (pa_cons (pv 3) pa_nil)) (pv 4)) (pv 2) (nomark _)) (pss_one (ps_set (i := 4) sc__law_plan.nd rfl (Or.inl rfl) (pe_op op_sub (pe_callB call_len (by rfl) gB_len boot_len (pa_cons (pv 3) pa_nil)) (pv 2)))) pss_nil)
      (pss_one (ps_ret (pe_tup (pa_cons (pe_slice sl_list (pv 3) po_none (po_some (pv 4))) (pa_cons (pe_slice sl_list (pv 3) (po_some (pv 4)) po_none) pa_nil)))))))), ?_⟩)
  · obtain ⟨p, n, fm, tm, rfl, _⟩ := h
    rfl
  · obtain ⟨p, n, fm, tm, rfl, f1, ft8, hp, hn, q⟩ := h
    refine ⟨_, rfl, _, rfl, _, rfl, p, (fm : Int), n, rfl, by omega, by omega, hp, by omega, fun r o r0 r1 gp => ?_⟩
    obtain ⟨H1, hH1⟩ : ∃ H1, H1 = L2.upd H p o := ⟨_, rfl⟩
    rw [← hH1] at gp
    rw [← hH1]
    have b1 : But H H1 p := by
      rw [hH1]
      exact But.upd (ext_but Ext.rfl')
    obtain ⟨r', rfl⟩ := Int.eq_ofNat_of_zero_le r0
    refine ⟨_, _, rfl, rfl, ?_⟩
    refine ⟨_, rfl, _, rfl, _, _, rfl, rfl, p, (tm : Int) + 1, _, rfl, by omega, by omega, gp, by omega, fun r2 o2 r20 r21 gp2 => ?_⟩
    obtain ⟨H2, hH2⟩ : ∃ H2, H2 = L2.upd H1 p o2 := ⟨_, rfl⟩
    rw [← hH2] at gp2
    rw [← hH2]
    have b2 : But H H2 p := b1.trans (by
      rw [hH2]
      exact But.upd (ext_but Ext.rfl'))
    obtain ⟨r2', rfl⟩ := Int.eq_ofNat_of_zero_le r20
    refine ⟨_, _, rfl, rfl, p, 1 + r' + r2', n + 1 + 1, rfl, by omega, gp2, by omega, fun l zs H3 b3 p3 ln3 l3 len3 nst3 => ?_⟩
    have lp : l ≠ p := pool_ne gp2 ln3
    have lm : (zs.map V.str).length = zs.length := List.length_map _
    refine ⟨_, rfl, _, rfl, _, rfl, _, _, rfl, .inl ⟨_, SqL.of l3, rfl⟩, _, _, rfl, ?_⟩
    obtain ⟨mi, hmi, hm1, hm3, hml⟩ : ∃ mi : Nat, (if (((zs.map V.str).length : Nat) : Int) < (fm : Int) then (((zs.map V.str).length : Nat) : Int) else (fm : Int)) = (mi : Int) ∧ 1 ≤ mi ∧ mi ≤ fm ∧ mi ≤ zs.length := by
      rw [lm]
      by_cases c : ((zs.length : Nat) : Int) < (fm : Int)
      · rw [if_pos c]
        exact ⟨zs.length, rfl, by omega, by omega, Nat.le_refl _⟩
      · rw [if_neg c]
        exact ⟨fm, rfl, f1, Nat.le_refl _, by omega⟩
    rw [hmi]
    refine ⟨p, mi, _, rfl, by omega, by omega, p3, by omega, fun r4 o4 r40 r41 gp4 => ?_⟩
    obtain ⟨r4', rfl⟩ := Int.eq_ofNat_of_zero_le r40
    obtain ⟨H4, hH4⟩ : ∃ H4, H4 = L2.upd H3 p o4 := ⟨_, rfl⟩
    rw [← hH4] at gp4
    rw [← hH4]
    have b4 : But H H4 p := (b2.trans b3).trans (by
      rw [hH4]
      exact But.upd (ext_but Ext.rfl'))
    have l4 : H4 l = some (.lst (zs.map V.str)) := by rw [hH4, upd_ne lp]; exact l3
    refine ⟨_, _, rfl, rfl, ?_⟩
    refine ⟨fun σ' H' => H' = H4 ∧ ∃ mm : Nat, σ' = [some (.ref p), some (.int (fm : Int)), some (.int (tm : Int)), some (.ref l), some (.int (mm : Int))] ∧ 1 ≤ mm ∧ mm ≤ fm ∧ mm ≤ zs.length ∧ zs.length - mm ≤ tm, ?_, ?_⟩
    · refine ⟨_, rfl, _, _, rfl, .inl ⟨_, SqL.of l4, rfl⟩, _, rfl, _, _, rfl, rfl, _, rfl, _, _, rfl, rfl, _, rfl, ?_⟩
      rw [lm]
      refine ite2 (fun c => ?_) fun c => ?_
      · have c' := of_decide_eq_true c
        refine ⟨_, rfl, _, _, rfl, .inl ⟨_, SqL.of l4, rfl⟩, _, rfl, _, _, rfl, rfl, rfl, zs.length - tm, ?_, by omega, by omega, by omega, by omega⟩
        have e : (zs.length : Int) - (tm : Int) = ((zs.length - tm : Nat) : Int) := by omega
        rw [lm, ← e]
        rfl
      · have c' : ¬ _ := fun z => c (decide_eq_true z)
        exact ⟨rfl, 1 + r4', rfl, by omega, by omega, by omega, by omega⟩
    · rintro σ' H' ⟨rfl, mm, rfl, m1, m3, ml, mt⟩
      refine ⟨_, rfl, _, rfl, _, rfl, l, _, rfl, SqL.of l4, fun u1 hu1 => ?_⟩
      have y1 := Ext.upd (o := .lst (cutV (zs.map V.str) none (some (mm : Int)))) hu1
      refine ⟨_, rfl, _, rfl, _, rfl, l, _, rfl, SqL.of (y1 _ _ l4), fun u2 hu2 => ?_⟩
      have y2 := Ext.upd (o := .lst (cutV (zs.map V.str) (some (mm : Int)) none)) hu2
      refine ⟨Nat.le_of_ble_eq_true rfl, fun t ht => ?_⟩
      have y3 := Ext.upd (o := .tup [.ref u1, .ref u2]) ht
      have ee : zs.take mm ++ zs.drop mm = zs := List.take_append_drop _ _
      refine q t u1 u2 (zs.take mm) (zs.drop mm) _ (b4.ext (y1.trans (y2.trans y3))) (pool_mono (pool_ext gp4 (y1.trans (y2.trans y3))) (by omega)) (SqT.of upd_same) ?_ ?_ (pool_ne gp4 hu1) (pool_ne (pool_ext gp4 y1) hu2) (by rw [ee]; exact nst3) ?_ ?_ ?_
      · rw [List.map_take, ← cutV_take (by rw [lm]; exact ml)]
        exact y3 _ _ (y2 _ _ upd_same)
      · rw [List.map_drop, ← cutV_drop (by rw [lm]; exact ml)]
        exact y3 _ _ upd_same
      · rw [List.length_take]; omega
      · rw [List.length_take]; omega
      · rw [List.length_drop]; exact mt
end
end My

namespace My
open PySem PySem.Spec PyProof.Rows L2
def spPicked (K : PySem.W.Frag) : Sp := fun vs H Q _ => ∃ (p l : Addr) (zs : List Str) (sh : Nat) (n : Int), vs = [.ref p, .ref l, .int (sh : Int)] ∧ H l = some (.lst (zs.map V.str)) ∧ l ≠ p ∧ zs.length ≤ 20 ∧ Pool H p n ∧ n < 900000 ∧
  ∀ l' ys rest H', But H H' p → Pool H' p (n + 40) → H l' = none → H' l' = some (.lst (ys.map V.str)) → (ys ++ rest).Perm zs → (4 ≤ sh → rest = []) → Q (.ref l') H'
def spDrawnTree (K : PySem.W.Frag) : Sp := fun vs H Q _ => ∃ (p t lf lt : Addr) (fo th : List Str) (n : Int), vs = [.ref p, .ref t] ∧ SqT K H t [.ref lf, .ref lt] ∧ H lf = some (.lst (fo.map V.str)) ∧ H lt = some (.lst (th.map V.str)) ∧ lf ≠ p ∧ lt ≠ p ∧ fo.length ≤ 8 ∧ th.length ≤ 8 ∧ Pool H p n ∧ n < 800000 ∧
  ∀ D d H', But H H' p → Pool H' p (n + 60) → H D = none → H' D = some (.dK (kd d)) → DicOk fo d → Q (.ref D) H'
theorem sqT_p {K : PySem.W.Frag} {H H' : Hp} {p t : Addr} {xs : List V} {n : Int} (h : SqT K H t xs) (hp : Pool H p n) (b : But H H' p) : SqT K H' t xs := by
  obtain ⟨ys, e⟩ := hp.lst
  exact sqT_butL e b h
abbrev nm__law_picked : List Str := ["_law_pool_here", "_law_things", "_law_share", "_law_left", "_law_found", "_law_k", "_law_thing"]
theorem sc__law_picked : FnScope nm__law_picked ["_law_pool_here", "_law_things", "_law_share"] (defScope s__law_picked) := ⟨rfl, rfl, rfl, by decide +kernel, rfl, by decide +kernel, by decide +kernel⟩
abbrev nm__law_drawn_tree : List Str := ["_law_pool_here", "_law_parts", "_law_over_here", "_law_placed", "_law_folder", "_law_spot", "_law_thing"]
theorem sc__law_drawn_tree : FnScope nm__law_drawn_tree ["_law_pool_here", "_law_parts"] (defScope s__law_drawn_tree) := ⟨rfl, rfl, rfl, by decide +kernel, rfl, by decide +kernel, by decide +kernel⟩
section
variable {P : Program} {w : World} {K : PySem.W.Frag} {mg : Str → Option Value} {base : Heap} {f C CB : Addr} {fd : FuncData}
theorem ok_picked (Fn : FnP K "_law_picked" s__law_picked f fd) (h_law_take : Has P w K mg base 1 "_law_take" ["_law_pool_here", "_law_many"] spTake) (gB_range : mg "range" = none) (gB_len : mg "len" = none) (gB_list : mg "list" = none) :
    FnOk P w K mg base CX0 2 f fd ["_law_pool_here", "_law_things", "_law_share"] (spPicked K) := by
  refine Fn.ok sc__law_picked (fun vs H Q E h => ?_) (fun cdv A outer s H vs Q E hr h => ⟨_, PSs.nox
    (pss_cons (ps_set (i := 3) sc__law_picked.nd rfl (Or.inl rfl) (pe_callTy call_lstS (by rfl) gB_list (by decide +kernel) (pa_cons (pv 1) pa_nil)))
      (pss_cons (ps_set (i := 4) sc__law_picked.nd rfl (Or.inl rfl) (pe_lst pa_nil))
      (pss_cons (ps_for PassesOwn.never rfl (pi_range1 (by rfl) gB_range (pa_cons (pe_callB call_len (by rfl) gB_len boot_len (pa_cons (pv 1) pa_nil)) pa_nil)) (pg_name (i := 5) sc__law_picked.nd rfl (Or.inl rfl))
      (pss_cons (ps_set (i := 6) sc__law_picked.nd rfl (Or.inl rfl) (pe_bm PySem.F.plainAttrs_list PySem.F.slot_list_pop PySem.F.type_list_pop mt_popAt (pv 3) (pa_cons (pe_has h_law_take (hr.mono (by decide)) (pa_cons (pv 0) (pa_cons (pe_callB call_len (by rfl) gB_len boot_len (pa_cons (pv 3) pa_nil)) pa_nil))) pa_nil)))
      (pss_one (ps_if (pt_cmpR op_lt (pe_has h_law_take (hr.mono (by decide)) (pa_cons (pv 0) (pa_cons pe_int pa_nil))) (pv 2) (nomark _)) (pss_one (ps_expr (pe_bm PySem.F.plainAttrs_list PySem.F.slot_list_append PySem.F.type_list_append mt_append (pv 4) (pa_cons (pv 6) pa_nil)))) pss_nil))))
      (pss_one (ps_ret (pv 4)))))), ?_⟩)
  · obtain ⟨p, l, zs, sh, n, rfl, _⟩ := h
    rfl
  · obtain ⟨p, l, zs, sh, n, rfl, hl, nlp, len, hp, hn, q⟩ := h
    refine ⟨_, rfl, l, _, rfl, .inl (SqL.of hl), fun s hs => ?_⟩
    refine ⟨Nat.le_of_ble_eq_true rfl, fun g hg => ?_⟩
    have x1 : Ext H (L2.upd H s (.lst (zs.map V.str))) := Ext.upd hs
    have hg0 : H g = none := ext_none x1 hg
    have nsp : s ≠ p := pool_ne hp hs
    have ngp : g ≠ p := pool_ne hp hg0
    have nsg : s ≠ g := fun e => by rw [← e, upd_same] at hg; cases hg
    obtain ⟨H1, hH1⟩ : ∃ H1, H1 = L2.upd (L2.upd H s (.lst (zs.map V.str))) g (.lst []) := ⟨_, rfl⟩
    have x2 : Ext H H1 := by rw [hH1]; exact x1.trans (Ext.upd hg)
    have s1 : H1 s = some (.lst (zs.map V.str)) := by rw [hH1, upd_ne nsg, upd_same]
    have g1 : H1 g = some (.lst (([] : List Str).map V.str)) := by rw [hH1, upd_same]; rfl
    rw [← hH1]
    refine ⟨_, rfl, _, zs.length, rfl, .inl ⟨_, SqL.of (x2 _ _ hl), (List.length_map _).symm⟩, (zs.length : Int), rfl, by omega, by omega, for_range (lo := 0) (n := zs.length) (fun k σ H' => ∃ (v5 v6 : Option V) (rem fnd rest : List Str), σ = [some (.ref p), some (.ref l), some (.int (sh : Int)), some (.ref s), some (.ref g), v5, v6] ∧ But H H' p ∧ Pool H' p (n + 2 * k) ∧
      H' s = some (.lst (rem.map V.str)) ∧ H' g = some (.lst (fnd.map V.str)) ∧ ((fnd ++ rest) ++ rem).Perm zs ∧ (fnd ++ rest).length = k ∧ (4 ≤ sh → rest = [])) ?_ ?_ ?_⟩
    · exact ⟨_, _, zs, [], [], rfl, ext_but x2, by simpa using pool_ext hp x2, s1, g1, .refl _, rfl, fun _ => rfl⟩
    · rintro k σ H2 hk ⟨v5, v6, rem, fnd, rest, rfl, b2, p2, s2, g2, pm, cnt, full⟩
      have lenrem : rem.length = zs.length - k := by
        have z := pm.length_eq
        rw [List.length_append, cnt] at z
        omega
      refine ⟨_, rfl, .inl ⟨rfl, _, SqL.of s2⟩, ?_⟩
      refine ⟨_, rfl, _, rfl, _, _, rfl, .inl ⟨_, SqL.of s2, rfl⟩, ?_⟩
      refine ⟨p, _, _, rfl, ?_, ?_, p2, by omega, fun r o r0 r1 gp => ?_⟩
      · rw [List.length_map]; omega
      · rw [List.length_map]; omega
      obtain ⟨r, rfl⟩ := Int.eq_ofNat_of_zero_le r0
      rw [List.length_map] at r1
      have r1' : r < rem.length := by omega
      obtain ⟨H3, hH3⟩ : ∃ H3, H3 = L2.upd H2 p o := ⟨_, rfl⟩
      rw [← hH3] at gp ⊢
      have b23 : But H2 H3 p := by rw [hH3]; exact But.upd (ext_but Ext.rfl')
      have s3 := b23 _ _ nsp s2
      have g3 := b23 _ _ ngp g2
      refine ⟨s, _, (r : Int), r, .str rem[r], rfl, rfl, s3, Int.le_trans (by decide) (Int.natCast_nonneg r), by omega, seqIx (by rw [List.length_map]; exact r1'), by rw [List.getElem?_map, List.getElem?_eq_getElem r1']; rfl, ?_⟩
      obtain ⟨H4, hH4⟩ : ∃ H4, H4 = L2.upd H3 s (.lst ((rem.map V.str).eraseIdx r)) := ⟨_, rfl⟩
      have s4 : H4 s = some (.lst ((rem.eraseIdx r).map V.str)) := by rw [hH4, upd_same, era_map]
      have g4 : H4 g = some (.lst (fnd.map V.str)) := by rw [hH4, upd_ne nsg.symm]; exact g3
      have p4 : Pool H4 p (n + 2 * k + 1) := by rw [hH4]; exact pool_upd gp nsp
      have b4 : But H H4 p := fun b u nb hb => by
        rw [hH4, upd_ne (ne_of_none hb hs)]
        exact b23 _ _ nb (b2 _ _ nb hb)
      rw [← hH4]
      have pm4 : ∀ (a b : List Str), ((a ++ b) ++ rem).Perm zs → ((a ++ b) ++ (rem[r] :: rem.eraseIdx r)).Perm zs := fun a b h => (List.Perm.append_left _ (era_perm rem r r1')).trans h
      have pm5 := pm4 fnd rest pm
      refine ⟨_, rfl, p, 4, _, rfl, by decide, by decide, p4, by omega, fun r2 o2 r20 r21 gp2 => ?_⟩
      obtain ⟨H5, hH5⟩ : ∃ H5, H5 = L2.upd H4 p o2 := ⟨_, rfl⟩
      rw [← hH5] at gp2 ⊢
      have b45 : But H4 H5 p := by rw [hH5]; exact But.upd (ext_but Ext.rfl')
      have s5 := b45 _ _ nsp s4
      have g5 := b45 _ _ ngp g4
      have b5 := b4.trans b45
      have ee : n + 2 * ((k + 1 : Nat) : Int) = n + 2 * (k : Int) + 1 + 1 := by omega
      refine ⟨_, rfl, _, _, rfl, rfl, _, rfl, ?_⟩
      refine ite2 (fun c => ?_) fun c => ?_
      · refine ⟨_, rfl, .inl ⟨rfl, _, SqL.of g5⟩, _, rfl, g, _, _, rfl, rfl, g5, ?_, ?_⟩
        · rw [List.length_map, sizeLine_eq]
          rw [List.length_append] at cnt
          omega
        refine ⟨_, _, rem.eraseIdx r, fnd ++ [rem[r]], rest, rfl, fun b u nb hb => ?_, by rw [ee]; exact pool_upd gp2 ngp, ?_, ?_, ?_, ?_, full⟩
        · rw [upd_ne (ne_of_none hb hg0)]
          exact b5 _ _ nb hb
        · rw [upd_ne nsg]
          exact s5
        · rw [upd_same, List.map_append]
          rfl
        · refine List.Perm.trans ?_ pm5
          rw [List.append_assoc fnd, List.append_assoc, List.append_assoc fnd]
          refine List.Perm.append_left fnd ?_
          rw [List.singleton_append, List.cons_append]
          exact List.perm_middle.symm
        · simp only [List.length_append, List.length_singleton] at cnt ⊢
          omega
      · refine ⟨_, _, rem.eraseIdx r, fnd, rest ++ [rem[r]], rfl, b5, by rw [ee]; exact gp2, s5, g5, ?_, ?_, fun h4 => ?_⟩
        · refine List.Perm.trans ?_ pm5
          rw [← List.append_assoc fnd rest, List.append_assoc (fnd ++ rest), List.singleton_append]
        · simp only [List.length_append, List.length_singleton] at cnt ⊢
          omega
        · exact absurd (decide_eq_true (show r2 < ((sh : Nat) : Int) by omega)) c
    · rintro σ H2 ⟨v5, v6, rem, fnd, rest, rfl, b2, p2, s2, g2, pm, cnt, full⟩
      have rn : rem = [] := by
        have z := pm.length_eq
        rw [List.length_append, cnt] at z
        exact List.eq_nil_of_length_eq_zero (by omega)
      rw [rn, List.append_nil] at pm
      exact ⟨_, rfl, q g fnd rest H2 b2 (pool_mono p2 (by omega)) hg0 g2 pm full⟩
theorem ok_drawnTree (Fn : FnP K "_law_drawn_tree" s__law_drawn_tree f fd) (h_law_take : Has P w K mg base 1 "_law_take" ["_law_pool_here", "_law_many"] spTake) (h_law_picked : Has P w K mg base 2 "_law_picked" ["_law_pool_here", "_law_things", "_law_share"] (spPicked K)) (gB_len : mg "len" = none) :
    FnOk P w K mg base CX0 3 f fd ["_law_pool_here", "_law_parts"] (spDrawnTree K) := by
  refine Fn.ok sc__law_drawn_tree (fun vs H Q E h => ?_) (fun cdv A outer s H vs Q E hr h => ⟨_, PSs.nox
    (pss_cons (ps_set (i := 2) sc__law_drawn_tree.nd rfl (Or.inl rfl) pe_dnewK)
      (pss_cons (ps_set (i := 3) sc__law_drawn_tree.nd rfl (Or.inl rfl) (pe_lst pa_nil))
      (pss_cons (ps_for PassesOwn.never rfl (pi_list (pe_has h_law_picked (hr.mono (by decide)) (pa_cons (pv 0) (pa_cons (pe_ix ix_tup (pv 1) pe_int (fun _ _ => rfl)) (pa_cons pe_int pa_nil))))) (pg_name (i := 4) sc__law_drawn_tree.nd rfl (Or.inl rfl))
      (pss_cons (ps_set (i := 5) sc__law_drawn_tree.nd rfl (Or.inl rfl) (pe_has h_law_take (hr.mono (by decide)) (pa_cons (pv 0) (pa_cons (pe_op op_add (pe_callB call_len (by rfl) gB_len boot_len (pa_cons (pv 3) pa_nil)) pe_int) pa_nil))))
      (C8.pss_cut (ps_if (pt_cmpR op_gt (pv 5) pe_int (nomark _)) (pss_one (ps_dput (hu_of hr) (pv 2) (pv 4) (pe_ix ix_list (pv 3) (pe_op op_sub (pv 5) pe_int) (fun _ _ => rfl)) rfl)) pss_nil)
      (pss_one (ps_expr (pe_bm PySem.F.plainAttrs_list PySem.F.slot_list_append PySem.F.type_list_append mt_append (pv 3) (pa_cons (pv 4) pa_nil)))))))
      (pss_cons (ps_for PassesOwn.never rfl (pi_list (pe_ix ix_tup (pv 1) pe_int (fun _ _ => rfl))) (pg_name (i := 6) sc__law_drawn_tree.nd rfl (Or.inl rfl))
      (pss_cons (ps_set (i := 5) sc__law_drawn_tree.nd rfl (Or.inl rfl) (pe_has h_law_take (hr.mono (by decide)) (pa_cons (pv 0) (pa_cons (pe_op op_add (pe_callB call_len (by rfl) gB_len boot_len (pa_cons (pv 3) pa_nil)) pe_int) pa_nil))))
      (pss_one (ps_if (pt_cmpR op_gt (pv 5) pe_int (nomark _)) (pss_one (ps_dput (hu_of hr) (pv 2) (pv 6) (pe_ix ix_list (pv 3) (pe_op op_sub (pv 5) pe_int) (fun _ _ => rfl)) rfl)) pss_nil))))
      (pss_one (ps_ret (pv 2))))))), ?_⟩)
  · obtain ⟨p, t, lf, lt, fo, th, n, rfl, _⟩ := h
    rfl
  · obtain ⟨p, t, lf, lt, fo, th, n, rfl, sq, hf, ht, nfp, ntp, f8, t8, hp, hn, q⟩ := h
    have lm : ∀ zs : List Str, (zs.map V.str).length = zs.length := fun zs => List.length_map _
    refine fun D hD => ?_
    refine ⟨Nat.le_of_ble_eq_true rfl, fun g hg => ?_⟩
    have x1 : Ext H (L2.upd H D (.dK [])) := Ext.upd hD
    have hg0 : H g = none := ext_none x1 hg
    have nDp : D ≠ p := pool_ne hp hD
    have ngp : g ≠ p := pool_ne hp hg0
    have nDg : D ≠ g := fun e => by rw [← e, upd_same] at hg; cases hg
    obtain ⟨H1, hH1⟩ : ∃ H1, H1 = L2.upd (L2.upd H D (.dK [])) g (.lst []) := ⟨_, rfl⟩
    have x2 : Ext H H1 := by rw [hH1]; exact x1.trans (Ext.upd hg)
    have D1 : H1 D = some (.dK (kd [])) := by rw [hH1, upd_ne nDg, upd_same]; rfl
    have g1 : H1 g = some (.lst (([] : List Str).map V.str)) := by rw [hH1, upd_same]; rfl
    rw [← hH1]
    clear hH1
    refine ⟨_, rfl, _, rfl, t, _, 0, .ref lf, rfl, rfl, sq.ext x2, rfl, p, lf, fo, 4, n, rfl, x2 _ _ hf, nfp, by omega, pool_ext hp x2, by omega, fun lk ys rest H2 b2 p2 hlk hlk2 pm full => ?_⟩
    have full := full (Nat.le_refl _)
    subst full
    rw [List.append_nil] at pm
    have ylen : ys.length ≤ 8 := by rw [pm.length_eq]; exact f8
    have yfo : ∀ z, z ∈ ys → z ∈ fo := fun z hz => pm.mem_iff.mp hz
    have D2 := b2 _ _ nDp D1
    have g2 := b2 _ _ ngp g1
    have b02 : But H H2 p := (ext_but x2).trans b2
    have nkp : lk ≠ p := pool_ne (pool_ext hp x2) hlk
    have nkg : lk ≠ g := fun e => by rw [e, g1] at hlk; cases hlk
    have nkD : lk ≠ D := fun e => by rw [e, D1] at hlk; cases hlk
    refine ⟨lk, rfl, ⟨_, SqL.of hlk2⟩, for_list (K := K) (a := lk) (xs := ys.map V.str) (fun i σ H' => ∃ v4 v5 v6 d pl, σ = [some (.ref p), some (.ref t), some (.ref D), some (.ref g), v4, v5, v6] ∧ But H H' p ∧ Pool H' p (n + 40 + i) ∧ H' D = some (.dK (kd d)) ∧ H' g = some (.lst (pl.map V.str)) ∧ H' lk = some (.lst (ys.map V.str)) ∧ DicOk fo d ∧ (∀ z, z ∈ pl → z ∈ fo) ∧ pl.length ≤ i ∧ d.length ≤ i)
      ⟨_, _, _, [], [], rfl, b02, by simpa using p2, D2, g2, hlk2, (fun q hq => nomatch hq), (fun z hz => nomatch hz), Nat.le_refl _, Nat.le_refl _⟩ (fun i σ H' _ z => ?_) ?_ ?_⟩
    · obtain ⟨_, _, _, _, _, _, _, _, _, _, h, _⟩ := z
      exact SqL.of h
    · rintro i v σ H3 hv ⟨v4, v5, v6, d, pl, rfl, b3, p3, D3, g3, k3, ok, sub, pll, dll⟩
      obtain ⟨z, hz, rfl⟩ := strs_at hv
      have il := (List.getElem?_eq_some_iff.mp hz).1
      have zfo : z ∈ fo := yfo z (List.mem_of_getElem? hz)
      refine ⟨_, rfl, _, rfl, _, _, rfl, .inl ⟨_, SqL.of g3, rfl⟩, _, _, rfl, rfl, p, _, _, rfl, by omega, by rw [lm]; omega, p3, by omega, fun r o r0 r1 gp => ?_⟩
      rw [lm] at r1
      obtain ⟨H4, hH4⟩ : ∃ H4, H4 = L2.upd H3 p o := ⟨_, rfl⟩
      rw [← hH4] at gp ⊢
      have b34 : But H3 H4 p := by rw [hH4]; exact But.upd (ext_but Ext.rfl')
      have b4 := b3.trans b34
      have D4 := b34 _ _ nDp D3
      have g4 := b34 _ _ ngp g3
      have k4 := b34 _ _ nkp k3
      have ee : n + 40 + ((i + 1 : Nat) : Int) = n + 40 + (i : Int) + 1 := by omega
      refine ⟨fun σ H' => ∃ d', σ = [some (.ref p), some (.ref t), some (.ref D), some (.ref g), some (.str z), some (.int r), v6] ∧ But H H' p ∧ Pool H' p (n + 40 + i + 1) ∧ H' D = some (.dK (kd d')) ∧ H' g = some (.lst (pl.map V.str)) ∧ H' lk = some (.lst (ys.map V.str)) ∧ DicOk fo d' ∧ d'.length ≤ i + 1, ?_, ?_⟩
      · refine ⟨_, rfl, _, _, rfl, rfl, _, rfl, ?_⟩
        refine ite2 (fun c => ?_) fun c => ?_
        · obtain ⟨m, rfl⟩ : ∃ m : Nat, r = ((m + 1 : Nat) : Int) := ⟨(r - 1).toNat, by have := of_decide_eq_true c; omega⟩
          have ml : m < pl.length := by omega
          have em : ((m + 1 : Nat) : Int) - 1 = (m : Int) := by omega
          refine ⟨_, rfl, _, rfl, _, _, rfl, rfl, g, _, _, .str pl[m], rfl, rfl, SqL.of g4, by rw [em]; exact atI_nat (by rw [List.getElem?_map, List.getElem?_eq_getElem ml]; rfl), _, rfl, _, rfl, D, _, rfl, .inl ⟨_, Sum.inr z, D4, rfl, by rw [kd_len, sizeLine_eq]; omega, rfl⟩, ?_⟩
          refine ⟨setD d z (.str pl[m]), rfl, fun b u nb hb => ?_, pool_upd gp nDp, by rw [upd_same, put_kd], by rw [upd_ne nDg.symm]; exact g4, by rw [upd_ne nkD]; exact k4, fun q hq => ?_, ?_⟩
          · rw [upd_ne (ne_of_none hb hD)]
            exact b4 _ _ nb hb
          · rcases setD_mem hq with h | h
            · exact ok q h
            · exact .inr ⟨_, sub _ (List.getElem_mem ml), h⟩
          · have := setD_len d z (.str pl[m])
            omega
        · exact ⟨d, rfl, b4, gp, D4, g4, k4, ok, Nat.le_succ_of_le dll⟩
      · rintro σ H5 ⟨d', rfl, b5, p5, D5, g5, k5, ok5, dl5⟩
        refine ⟨_, rfl, .inl ⟨rfl, _, SqL.of g5⟩, _, rfl, g, _, _, rfl, rfl, g5, by rw [lm, sizeLine_eq]; omega, ?_⟩
        refine ⟨_, _, _, d', pl ++ [z], rfl, fun b u nb hb => ?_, by rw [ee]; exact pool_upd p5 ngp, by rw [upd_ne nDg]; exact D5, by rw [upd_same, List.map_append]; rfl, by rw [upd_ne nkg]; exact k5, ok5, fun y hy => ?_, ?_, dl5⟩
        · rw [upd_ne (ne_of_none hb hg0)]
          exact b5 _ _ nb hb
        · rcases List.mem_append.mp hy with h | h
          · exact sub y h
          · rw [List.mem_singleton.mp h]
            exact zfo
        · rw [List.length_append, List.length_singleton]
          omega
    · rintro σ H3 ⟨v4, v5, v6, d, pl, rfl, b3, p3, D3, g3, k3, ok, sub, pll, dll⟩
      rw [lm] at p3 pll dll
      refine ⟨_, rfl, t, _, 1, .ref lt, rfl, rfl, sqT_p sq hp b3, rfl, lt, rfl, ⟨_, SqL.of (b3 _ _ ntp ht)⟩, for_list (K := K) (a := lt) (xs := th.map V.str) (fun i σ H' => ∃ v4 v5 v6 d, σ = [some (.ref p), some (.ref t), some (.ref D), some (.ref g), v4, v5, v6] ∧ But H H' p ∧ Pool H' p (n + 50 + i) ∧ H' D = some (.dK (kd d)) ∧ H' g = some (.lst (pl.map V.str)) ∧ DicOk fo d ∧ d.length ≤ 8 + i)
        ⟨_, _, _, d, rfl, b3, by exact pool_mono p3 (by omega), D3, g3, ok, by omega⟩ (fun i σ H' _ z => ?_) ?_ ?_⟩
      · obtain ⟨_, _, _, _, _, b, _⟩ := z
        exact SqL.of (b _ _ ntp ht)
      · rintro i v σ H4 hv ⟨v4, v5, v6, d, rfl, b4, p4, D4, g4, ok, dll⟩
        obtain ⟨z, hz, rfl⟩ := strs_at hv
        have il := (List.getElem?_eq_some_iff.mp hz).1
        refine ⟨_, rfl, _, rfl, _, _, rfl, .inl ⟨_, SqL.of g4, rfl⟩, _, _, rfl, rfl, p, _, _, rfl, by omega, by rw [lm]; omega, p4, by omega, fun r o r0 r1 gp => ?_⟩
        rw [lm] at r1
        obtain ⟨H5, hH5⟩ : ∃ H5, H5 = L2.upd H4 p o := ⟨_, rfl⟩
        rw [← hH5] at gp ⊢
        have b45 : But H4 H5 p := by rw [hH5]; exact But.upd (ext_but Ext.rfl')
        have b5 := b4.trans b45
        have D5 := b45 _ _ nDp D4
        have g5 := b45 _ _ ngp g4
        have ee : n + 50 + ((i + 1 : Nat) : Int) = n + 50 + (i : Int) + 1 := by omega
        refine ⟨_, rfl, _, _, rfl, rfl, _, rfl, ?_⟩
        refine ite2 (fun c => ?_) fun c => ?_
        · obtain ⟨m, rfl⟩ : ∃ m : Nat, r = ((m + 1 : Nat) : Int) := ⟨(r - 1).toNat, by have := of_decide_eq_true c; omega⟩
          have ml : m < pl.length := by omega
          have em : ((m + 1 : Nat) : Int) - 1 = (m : Int) := by omega
          refine ⟨_, rfl, _, rfl, _, _, rfl, rfl, g, _, _, .str pl[m], rfl, rfl, SqL.of g5, by rw [em]; exact atI_nat (by rw [List.getElem?_map, List.getElem?_eq_getElem ml]; rfl), _, rfl, _, rfl, D, _, rfl, .inl ⟨_, Sum.inr z, D5, rfl, by rw [kd_len, sizeLine_eq]; omega, rfl⟩, ?_⟩
          refine ⟨_, _, _, setD d z (.str pl[m]), rfl, fun b u nb hb => ?_, by rw [ee]; exact pool_upd gp nDp, by rw [upd_same, put_kd], by rw [upd_ne nDg.symm]; exact g5, fun q hq => ?_, ?_⟩
          · rw [upd_ne (ne_of_none hb hD)]
            exact b5 _ _ nb hb
          · rcases setD_mem hq with h | h
            · exact ok q h
            · exact .inr ⟨_, sub _ (List.getElem_mem ml), h⟩
          · have := setD_len d z (.str pl[m])
            omega
        · exact ⟨_, _, _, d, rfl, b5, by rw [ee]; exact gp, D5, g5, ok, by omega⟩
      · rintro σ H4 ⟨v4, v5, v6, d, rfl, b4, p4, D4, g4, ok, dll⟩
        rw [lm] at p4
        exact ⟨_, rfl, q D d H4 b4 (pool_mono p4 (by omega)) hD D4 ok⟩
end
end My

namespace My
open PySem PySem.Spec PyProof.Rows L2
def spDrawnFact (K : PySem.W.Frag) : Sp := fun vs H Q _ => ∃ (p t lf lt : Addr) (fo th : List Str) (n : Int), vs = [.ref p, .ref t] ∧ SqT K H t [.ref lf, .ref lt] ∧ H lf = some (.lst (fo.map V.str)) ∧ H lt = some (.lst (th.map V.str)) ∧ lf ≠ p ∧ lt ≠ p ∧ (fo ++ th).Nodup ∧ 1 ≤ fo.length ∧ 2 ≤ (fo ++ th).length ∧ (fo ++ th).length ≤ 16 ∧ Pool H p n ∧ n < 900000 ∧
  ∀ t' w a b H', But H H' p → Pool H' p (n + 5) → H t' = none → H' t' = some (.tup [.str w, .str a, .str b]) → IsF fo th w a b → Q (.ref t') H'
abbrev nm__law_drawn_fact : List Str := ["_law_pool_here", "_law_parts", "_law_nodes", "_law_folder", "_law_others_here", "_law_node", "_law_word"]
theorem sc__law_drawn_fact : FnScope nm__law_drawn_fact ["_law_pool_here", "_law_parts"] (defScope s__law_drawn_fact) := ⟨rfl, rfl, rfl, by decide +kernel, rfl, by decide +kernel, by decide +kernel⟩
section
variable {P : Program} {w : World} {K : PySem.W.Frag} {mg : Str → Option Value} {base : Heap} {f C CB : Addr} {fd : FuncData}
theorem ok_drawnFact (Fn : FnP K "_law_drawn_fact" s__law_drawn_fact f fd) (h_law_take : Has P w K mg base 1 "_law_take" ["_law_pool_here", "_law_many"] spTake) (gB_len : mg "len" = none) :
    FnOk P w K mg base CX0 2 f fd ["_law_pool_here", "_law_parts"] (spDrawnFact K) := by
  refine Fn.ok sc__law_drawn_fact (fun vs H Q E h => ?_) (fun cdv A outer s H vs Q E hr h => ⟨_, PSs.nox
    (pss_cons (ps_set (i := 2) sc__law_drawn_fact.nd rfl (Or.inl rfl) (pe_op L2.op_cat (pe_ix ix_tup (pv 1) pe_int (fun _ _ => rfl)) (pe_ix ix_tup (pv 1) pe_int (fun _ _ => rfl))))
      (pss_cons (ps_set (i := 3) sc__law_drawn_fact.nd rfl (Or.inr rfl) (pe_ix ix_list (pe_ix ix_tup (pv 1) pe_int (fun _ _ => rfl)) (pe_has h_law_take (hr.mono (by decide)) (pa_cons (pv 0) (pa_cons (pe_callB call_len (by rfl) gB_len boot_len (pa_cons (pe_ix ix_tup (pv 1) pe_int (fun _ _ => rfl)) pa_nil)) pa_nil))) (fun _ _ => rfl)))
      (pss_cons (ps_setLc (i := 4) (own := [("_law_node", 5)]) (g := (gName 5)) rfl sc__law_drawn_fact.nd rfl rfl (sw_true rfl rfl rfl (by decide +kernel)) (pi_list (pv 2)) (blkOk_by (N := nm__law_drawn_fact) (sc := defScope s__law_drawn_fact) (by decide +kernel)) (fun _ _ _ _ _ => (pg_name (i := 5) sc__law_drawn_fact.nd rfl (Or.inl rfl))) (fun _ _ _ _ _ => pts_one (pt_cmpR op_ne (pv 5) (pv 3) (nomark _))) (fun _ _ _ _ _ => (pv 5)))
      (pss_cons (ps_set (i := 5) sc__law_drawn_fact.nd rfl (Or.inl rfl) (pe_ix ix_list (pv 4) (pe_has h_law_take (hr.mono (by decide)) (pa_cons (pv 0) (pa_cons (pe_callB call_len (by rfl) gB_len boot_len (pa_cons (pv 4) pa_nil)) pa_nil))) (fun _ _ => rfl)))
      (pss_cons (ps_set (i := 6) sc__law_drawn_fact.nd rfl (Or.inl rfl) (pe_ix ix_list (pe_lst (pa_cons pe_str (pa_cons pe_str (pa_cons pe_str (pa_cons pe_str (pa_cons pe_str pa_nil)))))) (pe_has h_law_take (hr.mono (by decide)) (pa_cons (pv 0) (pa_cons pe_int pa_nil))) (fun _ _ => rfl)))
      (pss_cons (ps_if (PW.pt (pw_and (pt_cmpR op_eq (pv 6) pe_str (nomark _)) (pw_and (pt_cmpR op_gt (pe_callB call_len (by rfl) gB_len boot_len (pa_cons (pe_ix ix_tup (pv 1) pe_int (fun _ _ => rfl)) pa_nil)) pe_int (nomark _)) (pw_and1 (pt_cmpR op_eq (pe_has h_law_take (hr.mono (by decide)) (pa_cons (pv 0) (pa_cons pe_int pa_nil))) pe_int (nomark _)))))) (pss_one (ps_ret (pe_tup (pa_cons pe_str (pa_cons (pe_ix ix_list (pe_ix ix_tup (pv 1) pe_int (fun _ _ => rfl)) pe_int (fun _ _ => rfl)) (pa_cons (pe_ix ix_list (pe_ix ix_tup (pv 1) pe_int (fun _ _ => rfl)) pe_int (fun _ _ => rfl)) pa_nil)))))) pss_nil)
      (pss_cons (ps_if (PW.pt (pw_and (pt_cmpR op_eq (pv 6) pe_str (nomark _)) (pw_and1 (pt_cmpR op_eq (pe_has h_law_take (hr.mono (by decide)) (pa_cons (pv 0) (pa_cons pe_int pa_nil))) pe_int (nomark _))))) (pss_one (ps_ret (pe_tup (pa_cons pe_str (pa_cons (pv 3) (pa_cons (pv 5) pa_nil)))))) pss_nil)
      (pss_one (ps_ret (pe_tup (pa_cons (pv 6) (pa_cons (pv 5) (pa_cons (pv 3) pa_nil))))))))))))), ?_⟩)
  · obtain ⟨p, t, lf, lt, fo, th, n, rfl, _⟩ := h
    rfl
  · obtain ⟨p, t, lf, lt, fo, th, n, rfl, sq, hf, ht, nfp, ntp, nd, f1, l2, l16, hp, hn, q⟩ := h
    have lm : ∀ zs : List Str, (zs.map V.str).length = zs.length := fun zs => List.length_map _
    have len := List.length_append (as := fo) (bs := th)
    refine ⟨_, rfl, t, _, 0, .ref lf, rfl, rfl, sq, rfl, _, rfl, t, _, 1, .ref lt, rfl, rfl, sq, rfl, lf, lt, _, _, rfl, rfl, hf, ht, by rw [lm, lm, sizeLine_eq]; omega, fun ln hln => ?_⟩
    obtain ⟨H1, hH1⟩ : ∃ H1, H1 = L2.upd H ln (.lst (fo.map V.str ++ th.map V.str)) := ⟨_, rfl⟩
    rw [← hH1]
    have x1 : Ext H H1 := by
      rw [hH1]
      exact Ext.upd hln
    have n1 : H1 ln = some (.lst ((fo ++ th).map V.str)) := by rw [hH1, upd_same, List.map_append]
    clear hH1
    have nln : ln ≠ p := pool_ne hp hln
    have p1 := pool_ext hp x1
    have sq1 := sq.ext x1
    refine ⟨_, rfl, t, _, 0, .ref lf, rfl, rfl, sq1, rfl, _, rfl, _, rfl, t, _, 0, .ref lf, rfl, rfl, sq1, rfl, _, _, rfl, .inl ⟨_, SqL.of (x1 _ _ hf), rfl⟩, p, _, n, rfl, by rw [lm]; omega, by rw [lm]; omega, p1, by omega, fun r1 o1 r10 r11 gp => ?_⟩
    obtain ⟨r1, rfl⟩ := Int.eq_ofNat_of_zero_le r10
    rw [lm] at r11
    have r1' : r1 < fo.length := by omega
    obtain ⟨H2, hH2⟩ : ∃ H2, H2 = L2.upd H1 p o1 := ⟨_, rfl⟩
    rw [← hH2] at gp ⊢
    have b12 : But H1 H2 p := by rw [hH2]; exact But.upd (ext_but Ext.rfl')
    have b2 : But H H2 p := (ext_but x1).trans b12
    clear hH2
    have hf2 := b2 _ _ nfp hf
    have n2 := b12 _ _ nln n1
    obtain ⟨ot, hot⟩ : ∃ ot, ot = fo[r1] := ⟨_, rfl⟩
    have mo : ot ∈ fo := by rw [hot]; exact List.getElem_mem r1'
    refine ⟨lf, _, _, .str ot, rfl, rfl, SqL.of hf2, atI_nat (by rw [List.getElem?_map, List.getElem?_eq_getElem r1', hot]; rfl), ?_⟩
    refine ⟨_, rfl, ln, rfl, ⟨_, SqL.of n2⟩, fun D hD => ?_⟩
    refine lc_selL (K := K) (fun z => decide (z ≠ ot)) V.str hD (SqL.of n2) (by rw [sizeLine_eq]; omega) (fun z H4 Z N hz x4 yes no => ?_) fun H4 x4 d4 => ?_
    · refine ⟨rfl, _, rfl, _, rfl, rfl, _, rfl, ?_⟩
      by_cases e : z = ot
      · refine iteF' ?_ (no H4 Ext.rfl' (decide_eq_false fun k => k e))
        rw [e, decide_eq_true rfl]
        rfl
      · refine iteT' ?_ ⟨_, rfl, yes H4 Ext.rfl' (decide_eq_true e)⟩
        rw [decide_eq_false fun h => e (by injection h)]
        rfl
    · obtain ⟨rest, hrest⟩ : ∃ rest, rest = (fo ++ th).filter fun z => decide (z ≠ ot) := ⟨_, rfl⟩
      rw [← hrest] at d4
      have rlen : rest.length ≤ 16 := by
        rw [hrest]
        exact Nat.le_trans (List.length_filter_le _ _) l16
      have rmem : ∀ z, z ∈ rest → z ∈ fo ++ th ∧ z ≠ ot := fun z hz => by
        rw [hrest, List.mem_filter, decide_eq_true_iff] at hz
        exact hz
      have rpos : 0 < rest.length := by
        rcases Nat.eq_zero_or_pos rest.length with h | h
        · have e0 : rest = [] := List.eq_nil_of_length_eq_zero h
          have sub : ∀ z, z ∈ fo ++ th → z ∈ [ot] := fun z hz => by
            rw [hrest, List.filter_eq_nil_iff] at e0
            have := e0 z hz
            rw [List.mem_singleton]
            exact Classical.byContradiction fun n => this (decide_eq_true n)
          have := nodup_sub_len nd sub
          rw [List.length_singleton] at this
          omega
        · exact h
      clear hrest
      have nDp : D ≠ p := pool_ne gp hD
      have p4 := pool_ext gp x4
      refine ⟨_, rfl, _, rfl, _, rfl, _, _, rfl, .inl ⟨_, SqL.of d4, rfl⟩, p, _, _, rfl, by rw [lm]; omega, by rw [lm]; omega, p4, by omega, fun r2 o2 r20 r21 gp2 => ?_⟩
      obtain ⟨r2, rfl⟩ := Int.eq_ofNat_of_zero_le r20
      rw [lm] at r21
      have r2' : r2 < rest.length := by omega
      obtain ⟨H5, hH5⟩ : ∃ H5, H5 = L2.upd H4 p o2 := ⟨_, rfl⟩
      rw [← hH5] at gp2 ⊢
      have b45 : But H4 H5 p := by rw [hH5]; exact But.upd (ext_but Ext.rfl')
      clear hH5
      have b5 : But H H5 p := (b2.ext x4).trans b45
      obtain ⟨z, hz⟩ : ∃ z, z = rest[r2] := ⟨_, rfl⟩
      obtain ⟨mz, nz⟩ := rmem z (by rw [hz]; exact List.getElem_mem r2')
      refine ⟨D, _, _, .str z, rfl, rfl, SqL.of (b45 _ _ nDp d4), atI_nat (by rw [List.getElem?_map, List.getElem?_eq_getElem r2', hz]; rfl), ?_⟩
      -- the word
      refine ⟨Nat.le_of_ble_eq_true rfl, fun lw hlw => ?_⟩
      have hlw0 : H lw = none := by
        cases e : H lw with
        | none => rfl
        | some u =>
          by_cases c : lw = p
          · rw [c] at hlw
            obtain ⟨_, hh⟩ := gp2.lst
            rw [hh] at hlw
            cases hlw
          · rw [b5 _ _ c e] at hlw
            cases hlw
      have nlw : lw ≠ p := pool_ne gp2 hlw
      have p5 := pool_ext gp2 (Ext.upd (o := .lst [V.str "below", .str "not", .str "below", .str "not", .str "line"]) hlw)
      refine ⟨_, rfl, p, 5, _, rfl, by decide, by decide, p5, by omega, fun r3 o3 r30 r31 gp3 => ?_⟩
      obtain ⟨r3, rfl⟩ := Int.eq_ofNat_of_zero_le r30
      obtain ⟨H6, hH6⟩ : ∃ H6, H6 = L2.upd (L2.upd H5 lw (.lst [V.str "below", .str "not", .str "below", .str "not", .str "line"])) p o3 := ⟨_, rfl⟩
      have b6 : But H H6 p := b5.trans (by rw [hH6]; exact But.upd (ext_but (Ext.upd hlw)))
      have lw6 : H6 lw = some (.lst ((["below", "not", "below", "not", "line"] : List Str).map V.str)) := by rw [hH6, upd_ne nlw, upd_same]; rfl
      rw [← hH6] at gp3
      have r3' : r3 < (["below", "not", "below", "not", "line"] : List Str).length := by
        show r3 < 5
        omega
      obtain ⟨wd, hwd⟩ : ∃ wd, wd = (["below", "not", "below", "not", "line"] : List Str)[r3] := ⟨_, rfl⟩
      have mw : wd ∈ wordsS := by
        have : wd ∈ (["below", "not", "below", "not", "line"] : List Str) := by rw [hwd]; exact List.getElem_mem r3'
        exact (show ∀ z, z ∈ (["below", "not", "below", "not", "line"] : List Str) → z ∈ wordsS by decide) wd this
      refine ⟨lw, _, _, .str wd, rfl, rfl, SqL.of (by rw [← hH6]; exact lw6), atI_nat (by rw [List.getElem?_map, List.getElem?_eq_getElem r3', hwd]; rfl), ?_⟩
      rw [← hH6]
      clear hH6 hwd
      have mof : ot ∈ fo ++ th := List.mem_append_left _ mo
      have new0 : ∀ (H7 : Hp) (m : Int), But H H7 p → Pool H7 p m → ∀ t', H7 t' = none → H t' = none := fun H7 m b7 p7 t' ht' => by
        cases e : H t' with
        | none => rfl
        | some u =>
          by_cases c : t' = p
          · rw [c] at ht'
            obtain ⟨_, hh⟩ := p7.lst
            rw [hh] at ht'
            cases ht'
          · rw [b7 _ _ c e] at ht'
            cases ht'
      have give : ∀ (H7 : Hp) (m : Int) (w a b : Str), But H H7 p → Pool H7 p m → m ≤ n + 5 → IsF fo th w a b → ∀ t', H7 t' = none → Q (.ref t') (L2.upd H7 t' (.tup [.str w, .str a, .str b])) := fun H7 m w a b b7 p7 hm isf t' ht' =>
        q t' w a b _ (b7.ext (Ext.upd ht')) (pool_mono (pool_ext p7 (Ext.upd ht')) hm) (new0 H7 m b7 p7 t' ht') upd_same isf
      have fzo : IsF fo th wd z ot := ⟨mw, mz, mof, nz, .inr mo⟩
      refine ⟨_, rfl, rfl, _, rfl, ?_⟩
      refine ite2 (fun c => ?_) fun c => ?_
      · have ew : wd = "line" := by
          have z := of_decide_eq_true c
          injection z
        subst ew
        have foz : IsF fo th "line" ot z := ⟨by decide, mof, mz, nz.symm, .inl rfl⟩
        have ht6 := b6 _ _ ntp ht
        have sq6 := sqT_p sq hp b6
        refine ⟨_, rfl, t, _, 1, .ref lt, rfl, rfl, sq6, rfl, _, _, rfl, .inl ⟨_, SqL.of ht6, rfl⟩, _, _, rfl, rfl, _, rfl, ?_⟩
        rw [lm]
        refine ite2 (fun c1 => ?_) fun c1 => ?_
        · have t2 : 1 < th.length := by
            have := of_decide_eq_true c1
            omega
          refine ⟨_, rfl, p, 6, _, rfl, by decide, by decide, gp3, by omega, fun r4 o4 r40 r41 gp4 => ?_⟩
          obtain ⟨H7, hH7⟩ : ∃ H7, H7 = L2.upd H6 p o4 := ⟨_, rfl⟩
          rw [← hH7] at gp4 ⊢
          have b67 : But H6 H7 p := by rw [hH7]; exact But.upd (ext_but Ext.rfl')
          clear hH7
          have b7 := b6.trans b67
          have ht7 := b67 _ _ ntp ht6
          have sq7 := sqT_p sq hp b7
          refine ⟨rfl, _, rfl, ?_⟩
          refine ite2 (fun c2 => ?_) fun c2 => ?_
          · refine ⟨_, rfl, t, _, 1, .ref lt, rfl, rfl, sq7, rfl, lt, _, 1, .str th[1], rfl, rfl, SqL.of ht7, atI_nat (j := 1) (by rw [List.getElem?_map, List.getElem?_eq_getElem t2]; rfl), _, rfl, t, _, 1, .ref lt, rfl, rfl, sq7, rfl, lt, _, 0, .str (th[0]'(by omega)), rfl, rfl, SqL.of ht7, atI_nat (j := 0) (by rw [List.getElem?_map, List.getElem?_eq_getElem (by omega)]; rfl), Nat.le_of_ble_eq_true rfl, fun t' ht' => ?_⟩
            refine give H7 _ _ _ _ b7 gp4 (by omega) ⟨by decide, List.mem_append_right _ (List.getElem_mem t2), List.mem_append_right _ (List.getElem_mem (by omega)), fun e => ?_, .inl rfl⟩ t' ht'
            have ndt := (List.nodup_append.mp nd).2.1
            have := (List.getElem?_inj (i := 1) (j := 0) t2 ndt).mp (by rw [List.getElem?_eq_getElem t2, List.getElem?_eq_getElem (by omega), e])
            omega
          · refine ⟨_, rfl, rfl, _, rfl, ?_⟩
            refine iteT ?_
            refine ⟨_, rfl, p, 2, _, rfl, by decide, by decide, gp4, by omega, fun r5 o5 r50 r51 gp5 => ?_⟩
            obtain ⟨H8, hH8⟩ : ∃ H8, H8 = L2.upd H7 p o5 := ⟨_, rfl⟩
            rw [← hH8] at gp5 ⊢
            have b8 : But H H8 p := b7.trans (by rw [hH8]; exact But.upd (ext_but Ext.rfl'))
            clear hH8
            refine ⟨rfl, _, rfl, ?_⟩
            refine ite2 (fun c3 => ?_) fun c3 => ?_
            · exact ⟨_, rfl, _, rfl, Nat.le_of_ble_eq_true rfl, give H8 _ _ _ _ b8 gp5 (by omega) foz⟩
            · exact ⟨_, rfl, _, rfl, _, rfl, Nat.le_of_ble_eq_true rfl, give H8 _ _ _ _ b8 gp5 (by omega) fzo⟩
        · refine ⟨_, rfl, rfl, _, rfl, ?_⟩
          refine iteT ?_
          refine ⟨_, rfl, p, 2, _, rfl, by decide, by decide, gp3, by omega, fun r5 o5 r50 r51 gp5 => ?_⟩
          obtain ⟨H8, hH8⟩ : ∃ H8, H8 = L2.upd H6 p o5 := ⟨_, rfl⟩
          rw [← hH8] at gp5 ⊢
          have b8 : But H H8 p := b6.trans (by rw [hH8]; exact But.upd (ext_but Ext.rfl'))
          clear hH8
          refine ⟨rfl, _, rfl, ?_⟩
          refine ite2 (fun c3 => ?_) fun c3 => ?_
          · exact ⟨_, rfl, _, rfl, Nat.le_of_ble_eq_true rfl, give H8 _ _ _ _ b8 gp5 (by omega) foz⟩
          · exact ⟨_, rfl, _, rfl, _, rfl, Nat.le_of_ble_eq_true rfl, give H8 _ _ _ _ b8 gp5 (by omega) fzo⟩
      · refine ⟨_, rfl, rfl, _, rfl, ?_⟩
        refine iteF' (Bool.eq_false_iff.mpr c) ?_
        exact ⟨_, rfl, _, rfl, _, rfl, Nat.le_of_ble_eq_true rfl, give H6 _ _ _ _ b6 gp3 (by omega) fzo⟩
end
end My

namespace My
open PySem PySem.Spec PyProof.Rows L2
def spDrawnFacts (K : PySem.W.Frag) : Sp := fun vs H Q _ => ∃ (p t lf lt : Addr) (fo th : List Str) (most : Nat) (n : Int), vs = [.ref p, .ref t, .int (most : Int)] ∧ SqT K H t [.ref lf, .ref lt] ∧ H lf = some (.lst (fo.map V.str)) ∧ H lt = some (.lst (th.map V.str)) ∧ lf ≠ p ∧ lt ≠ p ∧ (fo ++ th).Nodup ∧ 1 ≤ fo.length ∧ fo.length ≤ 8 ∧ th.length ≤ 8 ∧ most ≤ 30 ∧ Pool H p n ∧ n < 700000 ∧
  ∀ l ys rs H', But H H' p → Pool H' p (n + 300) → H l = none → H' l = some (.lst ys) → Rows K H' ys rs → FactR fo th rs → rs.length ≤ most → Q (.ref l) H'
theorem new_of {H H' : Hp} {p t : Addr} {n : Int} (b : But H H' p) (hp : Pool H' p n) (h : H' t = none) : H t = none := by
  cases e : H t with
  | none => rfl
  | some u =>
    by_cases c : t = p
    · rw [c] at h
      obtain ⟨_, hh⟩ := hp.lst
      rw [hh] at h
      cases h
    · rw [b _ _ c e] at h
      cases h
abbrev nm__law_drawn_facts : List Str := ["_law_pool_here", "_law_parts", "_law_most", "_law_found", "_law_over_here", "_law_way", "_law_k", "_law_fact"]
theorem sc__law_drawn_facts : FnScope nm__law_drawn_facts ["_law_pool_here", "_law_parts", "_law_most"] (defScope s__law_drawn_facts) := ⟨rfl, rfl, rfl, by decide +kernel, rfl, by decide +kernel, by decide +kernel⟩
section
variable {P : Program} {w : World} {K : PySem.W.Frag} {mg : Str → Option Value} {base : Heap} {f C CB : Addr} {fd : FuncData}
theorem ok_drawnFacts (Fn : FnP K "_law_drawn_facts" s__law_drawn_facts f fd) (h_law_take : Has P w K mg base 1 "_law_take" ["_law_pool_here", "_law_many"] spTake) (h_law_drawn_tree : Has P w K mg base 3 "_law_drawn_tree" ["_law_pool_here", "_law_parts"] (spDrawnTree K)) (h_law_drawn_fact : Has P w K mg base 2 "_law_drawn_fact" ["_law_pool_here", "_law_parts"] (spDrawnFact K))
    (h_law_holds : Has P w K mg base 2 "_law_holds" ["_law_over_here", "_law_fact"] (spHolds K)) (gB_len : mg "len" = none) (gB_range : mg "range" = none) :
    FnOk P w K mg base CX0 4 f fd ["_law_pool_here", "_law_parts", "_law_most"] (spDrawnFacts K) := by
  refine Fn.ok sc__law_drawn_facts (fun vs H Q E h => ?_) (fun cdv A outer s H vs Q E hr h => ⟨_, PSs.nox
    (pss_cons (ps_set (i := 3) sc__law_drawn_facts.nd rfl (Or.inl rfl) (pe_lst pa_nil))
      (pss_cons (ps_if (pt_cmpR op_lt (pe_callB call_len (by rfl) gB_len boot_len (pa_cons (pe_op L2.op_cat (pe_ix ix_tup (pv 1) pe_int (fun _ _ => rfl)) (pe_ix ix_tup (pv 1) pe_int (fun _ _ => rfl))) pa_nil)) pe_int (nomark _)) (pss_one (ps_ret (pv 3))) pss_nil)
      (pss_cons (ps_set (i := 4) sc__law_drawn_facts.nd rfl (Or.inl rfl) (pe_has h_law_drawn_tree (hr.mono (by decide)) (pa_cons (pv 0) (pa_cons (pv 1) pa_nil))))
      (pss_cons (ps_set (i := 5) sc__law_drawn_facts.nd rfl (Or.inl rfl) (pe_has h_law_take (hr.mono (by decide)) (pa_cons (pv 0) (pa_cons pe_int pa_nil))))
      (pss_cons (ps_for PassesOwn.never rfl (pi_range1 (by rfl) gB_range (pa_cons (pe_has h_law_take (hr.mono (by decide)) (pa_cons (pv 0) (pa_cons (pe_op op_add (pv 2) pe_int) pa_nil))) pa_nil)) (pg_name (i := 6) sc__law_drawn_facts.nd rfl (Or.inl rfl))
      (pss_cons (ps_set (i := 7) sc__law_drawn_facts.nd rfl (Or.inl rfl) (pe_has h_law_drawn_fact (hr.mono (by decide)) (pa_cons (pv 0) (pa_cons (pv 1) pa_nil))))
      (pss_one (ps_if (PW.pt (pw_or (pt_cmpR op_eq (pv 5) pe_int (nomark _)) (pw_or (pt_val (pe_has h_law_holds (hr.mono (by decide)) (pa_cons (pv 4) (pa_cons (pv 7) pa_nil)))) (pw_or1 (PW.pt (pw_and (pt_cmpR op_eq (pv 5) pe_int (nomark _)) (pw_and1 (pt_cmpR op_eq (pv 6) pe_int (nomark _))))))))) (pss_one (ps_expr (pe_bm PySem.F.plainAttrs_list PySem.F.slot_list_append PySem.F.type_list_append mt_append (pv 3) (pa_cons (pv 7) pa_nil)))) (pss_one (ps_if (pt_cmpR op_eq (pe_ix ix_tup (pv 7) pe_int (fun _ _ => rfl)) pe_str (nomark _)) (pss_one (ps_expr (pe_bm PySem.F.plainAttrs_list PySem.F.slot_list_append PySem.F.type_list_append mt_append (pv 3) (pa_cons (pe_tup (pa_cons pe_str (pa_cons (pe_ix ix_tup (pv 7) pe_int (fun _ _ => rfl)) (pa_cons (pe_ix ix_tup (pv 7) pe_int (fun _ _ => rfl)) pa_nil)))) pa_nil)))) (pss_one (ps_if (pt_cmpR op_eq (pe_ix ix_tup (pv 7) pe_int (fun _ _ => rfl)) pe_str (nomark _)) (pss_one (ps_expr (pe_bm PySem.F.plainAttrs_list PySem.F.slot_list_append PySem.F.type_list_append mt_append (pv 3) (pa_cons (pe_tup (pa_cons pe_str (pa_cons (pe_ix ix_tup (pv 7) pe_int (fun _ _ => rfl)) (pa_cons (pe_ix ix_tup (pv 7) pe_int (fun _ _ => rfl)) pa_nil)))) pa_nil)))) pss_nil))))))))
      (pss_one (ps_ret (pv 3)))))))), ?_⟩)
  · obtain ⟨p, t, lf, lt, fo, th, most, n, rfl, _⟩ := h
    rfl
  · obtain ⟨p, t, lf, lt, fo, th, most, n, rfl, sq, hf, ht, nfp, ntp, nd, f1, f8, t8, m30, hp, hn, q⟩ := h
    have lm : ∀ zs : List Str, (zs.map V.str).length = zs.length := fun zs => List.length_map _
    have len := List.length_append (as := fo) (bs := th)
    refine ⟨Nat.le_of_ble_eq_true rfl, fun g hg => ?_⟩
    obtain ⟨H1, hH1⟩ : ∃ H1, H1 = L2.upd H g (.lst []) := ⟨_, rfl⟩
    have x1 : Ext H H1 := by rw [hH1]; exact Ext.upd hg
    have g1 : H1 g = some (.lst []) := by rw [hH1, upd_same]
    rw [← hH1]
    clear hH1
    have ngp : g ≠ p := pool_ne hp hg
    have sq1 := sq.ext x1
    refine ⟨_, rfl, t, _, 0, .ref lf, rfl, rfl, sq1, rfl, _, rfl, t, _, 1, .ref lt, rfl, rfl, sq1, rfl, lf, lt, _, _, rfl, rfl, x1 _ _ hf, x1 _ _ ht, by rw [lm, lm, sizeLine_eq]; omega, fun ln hln => ?_⟩
    obtain ⟨H2, hH2⟩ : ∃ H2, H2 = L2.upd H1 ln (.lst (fo.map V.str ++ th.map V.str)) := ⟨_, rfl⟩
    have x2 : Ext H1 H2 := by rw [hH2]; exact Ext.upd hln
    have n2 : H2 ln = some (.lst ((fo ++ th).map V.str)) := by rw [hH2, upd_same, List.map_append]
    rw [← hH2]
    clear hH2
    have x02 := x1.trans x2
    refine ⟨_, _, rfl, .inl ⟨_, SqL.of n2, rfl⟩, _, _, rfl, rfl, _, rfl, ?_⟩
    rw [lm]
    refine ite2 (fun c => ?_) fun c => ?_
    · exact ⟨_, rfl, q g [] [] H2 (ext_but x02) (pool_mono (pool_ext hp x02) (by omega)) hg (x2 _ _ g1) True.intro (fun r hr => nomatch hr) (Nat.zero_le _)⟩
    · have l2 : 2 ≤ (fo ++ th).length := by
        have : ¬ (((fo ++ th).length : Nat) : Int) < 2 := fun z => c (decide_eq_true z)
        omega
      refine ⟨_, rfl, _, rfl, p, t, lf, lt, fo, th, n, rfl, sq.ext x02, x02 _ _ hf, x02 _ _ ht, nfp, ntp, f8, t8, pool_ext hp x02, by omega, fun D d H3 b3 p3 hD D3 ok => ?_⟩
      have b03 : But H H3 p := (ext_but x02).trans b3
      have nDp : D ≠ p := pool_ne (pool_ext hp x02) hD
      have nDg : D ≠ g := fun e => by
        rw [e, x2 _ _ g1] at hD
        cases hD
      have hD0 : H D = none := ext_none x02 hD
      have g3 := b3 _ _ ngp (x2 _ _ g1)
      refine ⟨_, rfl, p, 4, _, rfl, by decide, by decide, p3, by omega, fun way o w0 w4 gp => ?_⟩
      obtain ⟨H4, hH4⟩ : ∃ H4, H4 = L2.upd H3 p o := ⟨_, rfl⟩
      rw [← hH4] at gp ⊢
      have b34 : But H3 H4 p := by rw [hH4]; exact But.upd (ext_but Ext.rfl')
      clear hH4
      refine ⟨_, rfl, _, rfl, _, _, rfl, rfl, p, _, _, rfl, by omega, by omega, gp, by omega, fun many o2 m0 m1 gp2 => ?_⟩
      obtain ⟨many, rfl⟩ := Int.eq_ofNat_of_zero_le m0
      obtain ⟨H5, hH5⟩ : ∃ H5, H5 = L2.upd H4 p o2 := ⟨_, rfl⟩
      rw [← hH5] at gp2 ⊢
      have b35 : But H3 H5 p := b34.trans (by rw [hH5]; exact But.upd (ext_but Ext.rfl'))
      clear hH5
      have b05 := b03.trans b35
      refine ⟨_, rfl, by omega, by omega, for_range (lo := 0) (n := many) (fun k σ H' => ∃ v6 v7 ys rs, σ = [some (.ref p), some (.ref t), some (.int (most : Int)), some (.ref g), some (.ref D), some (.int way), v6, v7] ∧ But H H' p ∧ Pool H' p (n + 62 + 6 * k) ∧ H' D = some (.dK (kd d)) ∧ H' g = some (.lst ys) ∧ Rows K H' ys rs ∧ FactR fo th rs ∧ ys.length ≤ k) ?_ ?_ ?_⟩
      · exact ⟨_, _, [], [], rfl, b05, pool_mono gp2 (by omega), b35 _ _ nDp D3, b35 _ _ ngp g3, True.intro, (fun r hr => nomatch hr), Nat.le_refl _⟩
      · rintro k σ H6 hk ⟨v6, v7, ys, rs, rfl, b6, p6, D6, g6, rw6, fr6, yl⟩
        refine ⟨_, rfl, _, rfl, p, t, lf, lt, fo, th, _, rfl, sqT_p sq hp b6, b6 _ _ nfp hf, b6 _ _ ntp ht, nfp, ntp, nd, f1, l2, by omega, p6, by omega, fun T wd a b H7 b67 p7 hT T7 isf => ?_⟩
        have b7 := b6.trans b67
        have D7 := b67 _ _ nDp D6
        have g7 := b67 _ _ ngp g6
        have rw7 : Rows K H7 ys rs := by
          obtain ⟨_, e⟩ := p6.lst
          exact rw6.butL e b67
        have sT7 : SqT K H7 T [.str wd, .str a, .str b] := SqT.of T7
        have ee : n + 62 + 6 * ((k + 1 : Nat) : Int) = n + 62 + 6 * (k : Int) + 5 + 1 := by omega
        have core : ∀ (H8 : Hp) (T' : Addr) (w' a' b' : Str), Ext H7 H8 → H8 T' = some (.tup [.str w', .str a', .str b']) → IsF fo th w' a' b' → But H (L2.upd H8 g (.lst (ys ++ [.ref T']))) p ∧ Pool (L2.upd H8 g (.lst (ys ++ [.ref T']))) p (n + 62 + 6 * ((k + 1 : Nat) : Int)) ∧ (L2.upd H8 g (.lst (ys ++ [.ref T']))) D = some (.dK (kd d)) ∧
            (L2.upd H8 g (.lst (ys ++ [.ref T']))) g = some (.lst (ys ++ [.ref T'])) ∧ Rows K (L2.upd H8 g (.lst (ys ++ [.ref T']))) (ys ++ [.ref T']) (rs ++ [[w', a', b']]) ∧ FactR fo th (rs ++ [[w', a', b']]) ∧ (ys ++ [V.ref T']).length ≤ k + 1 := fun H8 T' w' a' b' x8 hT' isf' => by
          have g8 := x8 _ _ g7
          refine ⟨fun b u nb hb => ?_, pool_upd (pool_mono (pool_ext p7 x8) (by omega)) ngp, ?_, upd_same, ?_, fun r hr => ?_, ?_⟩
          · rw [upd_ne (ne_of_none hb hg)]
            exact x8 _ _ (b7 _ _ nb hb)
          · rw [upd_ne nDg]
            exact x8 _ _ D7
          · exact Rows.upd g8 (Rows.app (rw7.ext x8) ⟨⟨T', rfl, SqT.of hT'⟩, True.intro⟩)
          · rcases List.mem_append.mp hr with h | h
            · exact fr6 r h
            · exact ⟨_, _, _, List.mem_singleton.mp h, isf'⟩
          · rw [List.length_append, List.length_singleton]
            omega
        dsimp only [gName, tIfS]
        refine tor_pure (a := decide (V.int way = V.int 3)) (fun Q q => ⟨_, rfl, rfl, _, rfl, q⟩) (fun Q q => tor_pure (a := holdsB d wd a b) (fun Q q => ⟨_, rfl, _, rfl, D, T, d, fo, wd, a, b, rfl, D7, ok, sT7, _, rfl, q⟩) (fun Q q => tand_pure (a := decide (V.int way = V.int 2)) (fun Q q => ⟨_, rfl, rfl, _, rfl, q⟩) (fun Q q => ⟨_, rfl, rfl, _, rfl, q⟩) q) q) ?_
        refine ite2 (fun c => ?_) fun c => ?_
        · refine ⟨_, rfl, .inl ⟨rfl, _, SqL.of g7⟩, _, rfl, g, ys, _, rfl, rfl, g7, by rw [sizeLine_eq]; omega, ?_⟩
          obtain ⟨c1, c2, c3, c4, c5, c6, c7⟩ := core H7 T wd a b Ext.rfl' T7 isf
          exact ⟨_, _, _, _, rfl, c1, c2, c3, c4, c5, c6, c7⟩
        · refine ⟨_, rfl, T, _, 0, .str wd, rfl, rfl, sT7, rfl, rfl, _, rfl, ?_⟩
          refine ite2 (fun c1 => ?_) fun c1 => ?_
          · have e : wd = "below" := by
              have z := of_decide_eq_true c1
              injection z
            subst e
            have bf : b ∈ fo := isf.2.2.2.2.resolve_left (by decide)
            refine ⟨_, rfl, .inl ⟨rfl, _, SqL.of g7⟩, _, rfl, T, _, 1, .str a, rfl, rfl, sT7, rfl, _, rfl, T, _, 2, .str b, rfl, rfl, sT7, rfl, Nat.le_of_ble_eq_true rfl, fun T' hT' => ⟨g, ys, _, rfl, rfl, Ext.upd hT' _ _ g7, by rw [sizeLine_eq]; omega, ?_⟩⟩
            obtain ⟨c1, c2, c3, c4, c5, c6, c7⟩ := core _ T' "not" a b (Ext.upd hT') upd_same ⟨by decide, isf.2.1, isf.2.2.1, isf.2.2.2.1, .inr bf⟩
            exact ⟨_, _, _, _, rfl, c1, c2, c3, c4, c5, c6, c7⟩
          · refine ⟨_, rfl, T, _, 0, .str wd, rfl, rfl, sT7, rfl, rfl, _, rfl, ?_⟩
            refine ite2 (fun c2 => ?_) fun c2 => ?_
            · have e : wd = "not" := by
                have z := of_decide_eq_true c2
                injection z
              subst e
              have bf : b ∈ fo := isf.2.2.2.2.resolve_left (by decide)
              refine ⟨_, rfl, .inl ⟨rfl, _, SqL.of g7⟩, _, rfl, T, _, 1, .str a, rfl, rfl, sT7, rfl, _, rfl, T, _, 2, .str b, rfl, rfl, sT7, rfl, Nat.le_of_ble_eq_true rfl, fun T' hT' => ⟨g, ys, _, rfl, rfl, Ext.upd hT' _ _ g7, by rw [sizeLine_eq]; omega, ?_⟩⟩
              obtain ⟨c1, c2, c3, c4, c5, c6, c7⟩ := core _ T' "below" a b (Ext.upd hT') upd_same ⟨by decide, isf.2.1, isf.2.2.1, isf.2.2.2.1, .inr bf⟩
              exact ⟨_, _, _, _, rfl, c1, c2, c3, c4, c5, c6, c7⟩
            · exact ⟨_, _, ys, rs, rfl, b7, pool_mono p7 (by omega), D7, g7, rw7, fr6, Nat.le_succ_of_le yl⟩
      · rintro σ H6 ⟨v6, v7, ys, rs, rfl, b6, p6, D6, g6, rw6, fr6, yl⟩
        exact ⟨_, rfl, q g ys rs H6 b6 (pool_mono p6 (by omega)) hg g6 rw6 fr6 (by rw [← rw6.len]; omega)⟩
end
end My

namespace My
open PySem PySem.Spec PyProof.Rows L2
/-- facts handed over, tuples or lists that stand neither at p nor at D -/
def Hand (K : PySem.W.Frag) (p D : Addr) (H : Hp) (xs : List V) (rs : List (List Str)) : Prop := xs.length = rs.length ∧ ∀ (i : Nat) (x : V), xs[i]? = some x → ∃ (t : Addr) (r : List Str), x = .ref t ∧ rs[i]? = some r ∧ (SqT K H t (r.map V.str) ∨ t ≠ p ∧ t ≠ D ∧ H t = some (.lst (r.map V.str)))
theorem Hand.upd {K : PySem.W.Frag} {p D : Addr} {H : Hp} {xs : List V} {rs : List (List Str)} {ys zs : List V} (h : Hand K p D H xs rs) (hD : H D = some (.lst ys)) : Hand K p D (L2.upd H D (.lst zs)) xs rs := ⟨h.1, fun i x hx => by
  obtain ⟨t, r, h1, h2, h3⟩ := h.2 i x hx
  refine ⟨t, r, h1, h2, h3.imp (fun s => sqT_upd s hD) fun s => ⟨s.1, s.2.1, ?_⟩⟩
  rw [upd_ne s.2.1]
  exact s.2.2⟩
theorem Hand.but {K : PySem.W.Frag} {p D : Addr} {H H' : Hp} {xs : List V} {rs : List (List Str)} {n : Int} (h : Hand K p D H xs rs) (hp : Pool H p n) (b : But H H' p) : Hand K p D H' xs rs := ⟨h.1, fun i x hx => by
  obtain ⟨t, r, h1, h2, h3⟩ := h.2 i x hx
  exact ⟨t, r, h1, h2, h3.imp (fun s => sqT_p s hp b) fun s => ⟨s.1, s.2.1, b _ _ s.1 s.2.2⟩⟩⟩
theorem Hand.raws {K : PySem.W.Frag} {p D : Addr} {H : Hp} {xs : List V} {rs : List (List Str)} (h : Hand K p D H xs rs) : Raws K H xs rs := ⟨h.1, fun i x hx => by
  obtain ⟨t, r, h1, h2, h3⟩ := h.2 i x hx
  exact ⟨t, r, h1, h2, h3.elim .inr fun s => .inl (SqL.of s.2.2)⟩⟩
theorem Hand.snoc {K : PySem.W.Frag} {p D t : Addr} {H : Hp} {xs : List V} {rs : List (List Str)} {r : List Str} (h : Hand K p D H xs rs) (ht : SqT K H t (r.map V.str) ∨ t ≠ p ∧ t ≠ D ∧ H t = some (.lst (r.map V.str))) : Hand K p D H (xs ++ [.ref t]) (rs ++ [r]) := by
  refine ⟨by rw [List.length_append, List.length_append, h.1]; rfl, fun i v hv => ?_⟩
  by_cases c : i < xs.length
  · rw [List.getElem?_append_left c] at hv
    obtain ⟨t, x, h1, h2, h3⟩ := h.2 i v hv
    exact ⟨t, x, h1, by rw [List.getElem?_append_left (by rw [← h.1]; exact c)]; exact h2, h3⟩
  · rw [List.getElem?_append_right (by omega)] at hv
    have e0 : i - xs.length = 0 := by
      have := (List.getElem?_eq_some_iff.mp hv).1
      rw [List.length_singleton] at this
      omega
    rw [e0] at hv
    injection hv with hv
    refine ⟨t, r, hv.symm, ?_, ht⟩
    rw [List.getElem?_append_right (by rw [← h.1]; omega), ← h.1, e0]
    rfl
def spLoose (K : PySem.W.Frag) : Sp := fun vs H Q _ => ∃ (p l : Addr) (xs : List V) (rs : List (List Str)) (n : Int), vs = [.ref p, .ref l] ∧ H l = some (.lst xs) ∧ Rows K H xs rs ∧ l ≠ p ∧ xs.length ≤ 40 ∧ Pool H p n ∧ n < 900000 ∧
  ∀ a ys H', But H H' p → Pool H' p (n + 50) → SeqAt2 K H' a ys → Raws K H' ys rs → Q (.ref a) H'
def spFactsL (K : PySem.W.Frag) (CF C : Addr) : Sp := fun vs H Q _ => ∃ (p t l : Addr) (fo th : List Str) (xs : List V) (rs : List (List Str)) (n : Int), vs = [.ref p, .ref t, .ref l] ∧ PairAt K H t fo th ∧ Nok (fo ++ th) ∧ fo ≠ [] ∧ (fo ++ th).length ≤ 100 ∧ H l = some (.lst xs) ∧ Rows K H xs rs ∧ FactR fo th rs ∧ l ≠ p ∧ xs.length ≤ 40 ∧ Pool H p n ∧ n < 900000 ∧
  ∀ a H', But H H' p → Pool H' p (n + 50) → FacAt H' K CF C a fo th (onceR (rs.map (toldR (fo ++ th)))) → Q (.ref a) H'
abbrev nm__law_loose : List Str := ["_law_pool_here", "_law_told_here", "_law_found", "_law_fact"]
theorem sc__law_loose : FnScope nm__law_loose ["_law_pool_here", "_law_told_here"] (defScope s__law_loose) := ⟨rfl, rfl, rfl, by decide +kernel, rfl, by decide +kernel, by decide +kernel⟩
abbrev nm__law_facts : List Str := ["_law_pool_here", "_law_parts", "_law_told_here"]
theorem sc__law_facts : FnScope nm__law_facts ["_law_pool_here", "_law_parts", "_law_told_here"] (defScope s__law_facts) := ⟨rfl, rfl, rfl, by decide +kernel, rfl, by decide +kernel, by decide +kernel⟩
section
variable {P : Program} {w : World} {K : PySem.W.Frag} {mg : Str → Option Value} {base : Heap} {f C CB CF : Addr} {fd : FuncData}
theorem ok_loose (Fn : FnP K "_law_loose" s__law_loose f fd) (h_law_take : Has P w K mg base 1 "_law_take" ["_law_pool_here", "_law_many"] spTake) (gB_list : mg "list" = none) (gB_tuple : mg "tuple" = none) :
    FnOk P w K mg base CX0 2 f fd ["_law_pool_here", "_law_told_here"] (spLoose K) := by
  refine Fn.ok sc__law_loose (fun vs H Q E h => ?_) (fun cdv A outer s H vs Q E hr h => ⟨_, PSs.nox
    (pss_cons (ps_setLc (i := 2) (own := [("_law_fact", 3)]) (g := (gName 3)) (tt := tYes) rfl sc__law_loose.nd rfl rfl (sw_true rfl rfl rfl (by decide +kernel)) (pi_list (pv 1)) (blkOk_by (N := nm__law_loose) (sc := defScope s__law_loose) (by decide +kernel)) (fun _ _ _ _ _ => (pg_name (i := 3) sc__law_loose.nd rfl (Or.inl rfl))) (fun _ _ _ _ _ => pts_nil) (fun _ _ _ _ _ => (pe_ix (ixK (r := rIxL) (K := K) rfl ix_list) (pe_lst (pa_cons (pe_callTy (caK (r := rLstS) (K := K) rfl call_lstS) (by rfl) gB_list (by decide +kernel) (pa_cons (pv 3) pa_nil)) (pa_cons (pv 3) pa_nil))) (pe_has h_law_take (hr.mono (by decide)) (pa_cons (pv 0) (pa_cons pe_int pa_nil))) (fun _ _ => rfl))))
      (pss_one (ps_ret (pe_ix ix_list (pe_lst (pa_cons (pv 2) (pa_cons (pe_callTy call_tup (by rfl) gB_tuple (by decide +kernel) (pa_cons (pv 2) pa_nil)) pa_nil))) (pe_has h_law_take (hr.mono (by decide)) (pa_cons (pv 0) (pa_cons pe_int pa_nil))) (fun _ _ => rfl))))), ?_⟩)
  · obtain ⟨p, l, xs, rs, n, rfl, _⟩ := h
    rfl
  · obtain ⟨p, l, xs, rs, n, rfl, hl, rw0, nlp, len, hp, hn, q⟩ := h
    have lx := rw0.len
    refine ⟨_, rfl, l, rfl, ⟨_, SqL.of hl⟩, fun D hD => ?_⟩
    have nDp : D ≠ p := pool_ne hp hD
    refine lc_list (K := K) (a := l) (xs := xs) (fun i H' => But H H' p ∧ Pool H' p (n + i) ∧ Rows K H' xs rs ∧ ∃ acc, H' D = some (.lst acc) ∧ Hand K p D H' acc (rs.take i)) ⟨ext_but (Ext.upd hD), by simpa using pool_ext hp (Ext.upd hD), rw0.ext (Ext.upd hD), [], upd_same, rfl, fun i x hx => by cases hx⟩ (fun i H' _ z => SqL.of (z.1 _ _ nlp hl)) ?_ ?_
    · rintro i v H1 hv ⟨b1, p1, rw1, acc, d1, ha⟩
      have il := (List.getElem?_eq_some_iff.mp hv).1
      obtain ⟨t, r, rfl, sq, hr⟩ := rw1.at_ hv
      have tk : rs.take (i + 1) = rs.take i ++ [r] := by
        rw [List.take_add_one, hr]
        rfl
      have al : acc.length ≤ 40 := by
        rw [ha.1, List.length_take]
        omega
      refine ⟨rfl, ?_⟩
      refine ⟨_, rfl, t, _, rfl, .inr sq, fun c hc => ⟨_, rfl, Nat.le_of_ble_eq_true rfl, fun dl hdl => ?_⟩⟩
      have xc : Ext H1 (L2.upd H1 c (.lst (r.map V.str))) := Ext.upd hc
      have x2 : Ext H1 (L2.upd (L2.upd H1 c (.lst (r.map V.str))) dl (.lst [.ref c, .ref t])) := xc.trans (Ext.upd hdl)
      obtain ⟨H2, hH2⟩ : ∃ H2, H2 = L2.upd (L2.upd H1 c (.lst (r.map V.str))) dl (.lst [.ref c, .ref t]) := ⟨_, rfl⟩
      have c2 : H2 c = some (.lst (r.map V.str)) := by
        rw [hH2]
        exact Ext.upd hdl _ _ upd_same
      have dl2 : H2 dl = some (.lst [.ref c, .ref t]) := by rw [hH2, upd_same]
      rw [← hH2] at x2 ⊢
      clear hH2
      have ncp : c ≠ p := pool_ne p1 hc
      have ndp : dl ≠ p := pool_ne (pool_ext p1 xc) hdl
      have ncD : c ≠ D := fun e => by rw [e, d1] at hc; cases hc
      have p2 := pool_ext p1 x2
      refine ⟨_, rfl, p, 2, _, rfl, by decide, by decide, p2, by omega, fun r0 o r00 r01 gp => ?_⟩
      obtain ⟨H3, hH3⟩ : ∃ H3, H3 = L2.upd H2 p o := ⟨_, rfl⟩
      rw [← hH3] at gp ⊢
      have b23 : But H2 H3 p := by rw [hH3]; exact But.upd (ext_but Ext.rfl')
      clear hH3
      have b13 : But H1 H3 p := (ext_but x2).trans b23
      have d3 := b13 _ _ nDp d1
      have fin : ∀ t' : Addr, (SqT K H3 t' (r.map V.str) ∨ t' ≠ p ∧ t' ≠ D ∧ H3 t' = some (.lst (r.map V.str))) → ∃ acc, H3 D = some (.lst acc) ∧ acc.length < sizeLine ∧ But H (L2.upd H3 D (.lst (acc ++ [.ref t']))) p ∧ Pool (L2.upd H3 D (.lst (acc ++ [.ref t']))) p (n + ((i + 1 : Nat) : Int)) ∧ Rows K (L2.upd H3 D (.lst (acc ++ [.ref t']))) xs rs ∧ ∃ acc', (L2.upd H3 D (.lst (acc ++ [.ref t']))) D = some (.lst acc') ∧ Hand K p D (L2.upd H3 D (.lst (acc ++ [.ref t']))) acc' (rs.take (i + 1)) := fun t' ht' => by
        refine ⟨acc, d3, by rw [sizeLine_eq]; omega, fun b u nb hb => ?_, pool_upd (pool_mono gp (by omega)) nDp, ?_, _, upd_same, ?_⟩
        · rw [upd_ne (ne_of_none hb hD)]
          exact b13 _ _ nb (b1 _ _ nb hb)
        · obtain ⟨_, e⟩ := p1.lst
          exact (rw1.butL e b13).upd d3
        · rw [tk]
          exact ((ha.but p1 b13).snoc ht').upd d3
      have h01 : r0 = 0 ∨ r0 = 1 := by omega
      rcases h01 with rfl | rfl
      · exact ⟨dl, _, _, .ref c, rfl, rfl, SqL.of (b23 _ _ ndp dl2), rfl, fin c (.inr ⟨ncp, ncD, b23 _ _ ncp c2⟩)⟩
      · exact ⟨dl, _, _, .ref t, rfl, rfl, SqL.of (b23 _ _ ndp dl2), rfl, fin t (.inl (sqT_p sq p1 b13))⟩
    · rintro H1 ⟨b1, p1, rw1, acc, d1, ha⟩
      rw [lx, List.take_length] at ha
      refine ⟨_, rfl, _, rfl, D, _, rfl, .inl (SqL.of d1), fun tt H2 x2 st => ⟨Nat.le_of_ble_eq_true rfl, fun dl hdl => ?_⟩⟩
      have x3 : Ext H1 (L2.upd H2 dl (.lst [.ref D, .ref tt])) := x2.trans (Ext.upd hdl)
      obtain ⟨H3, hH3⟩ : ∃ H3, H3 = L2.upd H2 dl (.lst [.ref D, .ref tt]) := ⟨_, rfl⟩
      have dl3 : H3 dl = some (.lst [.ref D, .ref tt]) := by rw [hH3, upd_same]
      have st3 : SqT K H3 tt acc := by rw [hH3]; exact st.ext (Ext.upd hdl)
      rw [← hH3] at x3 ⊢
      clear hH3
      have ndp : dl ≠ p := pool_ne (pool_ext p1 x2) hdl
      have p3 := pool_ext p1 x3
      refine ⟨_, rfl, p, 2, _, rfl, by decide, by decide, p3, by omega, fun r0 o r00 r01 gp => ?_⟩
      obtain ⟨H4, hH4⟩ : ∃ H4, H4 = L2.upd H3 p o := ⟨_, rfl⟩
      rw [← hH4] at gp ⊢
      have b34 : But H3 H4 p := by rw [hH4]; exact But.upd (ext_but Ext.rfl')
      clear hH4
      have b14 : But H1 H4 p := (ext_but x3).trans b34
      have b04 := b1.trans b14
      have raw4 := (ha.but p1 b14).raws
      have h01 : r0 = 0 ∨ r0 = 1 := by omega
      rcases h01 with rfl | rfl
      · exact ⟨dl, _, _, .ref D, rfl, rfl, SqL.of (b34 _ _ ndp dl3), rfl, q D acc H4 b04 (pool_mono gp (by omega)) (.inl (SqL.of (b14 _ _ nDp d1))) raw4⟩
      · exact ⟨dl, _, _, .ref tt, rfl, rfl, SqL.of (b34 _ _ ndp dl3), rfl, q tt acc H4 b04 (pool_mono gp (by omega)) (.inr (sqT_p st3 p3 b34)) raw4⟩
theorem ok_factsL (Fn : FnP K "_law_facts" s__law_facts f fd) (F : FacTxt P w K mg CF C CB) (h_law_loose : Has P w K mg base 2 "_law_loose" ["_law_pool_here", "_law_told_here"] (spLoose K)) (h_law_house : Has P w K mg base 6 "_law_house" ["_law_parts"] (spLawHouse K C)) :
    FnOk P w K mg base CX0 9 f fd ["_law_pool_here", "_law_parts", "_law_told_here"] (spFactsL K CF C) := by
  refine Fn.ok sc__law_facts (fun vs H Q E h => ?_) (fun cdv A outer s H vs Q E hr h => ⟨_, PSs.nox
    (pss_one (ps_ret (pe_make F.M (F.I _) (hr.mono (by decide)) (by rfl) F.gF F.bI .nil passL (pa_cons (pe_has h_law_house (hr.mono (by decide)) (pa_cons (pv 1) pa_nil)) (pa_cons (pe_has h_law_loose (hr.mono (by decide)) (pa_cons (pv 0) (pa_cons (pv 2) pa_nil))) pa_nil))))), ?_⟩)
  · obtain ⟨p, t, l, fo, th, xs, rs, n, rfl, _⟩ := h
    rfl
  · obtain ⟨p, t, l, fo, th, xs, rs, n, rfl, pa, nok, ne, len, hl, rw0, fr, nlp, xl, hp, hn, q⟩ := h
    refine ⟨_, rfl, t, fo, th, rfl, pa, nok, ne, len, fun h H1 x1 hou => ?_⟩
    refine ⟨_, rfl, _, rfl, p, l, xs, rs, n, rfl, x1 _ _ hl, rw0.ext x1, nlp, xl, pool_ext hp x1, hn, fun a ys H2 b2 p2 sq raw => ?_⟩
    have hou2 : Hou H2 K C h fo th := by
      obtain ⟨_, e⟩ := (pool_ext hp x1).lst
      exact hou_butL e b2 hou
    have rl : rs.length < 1000 := by rw [← rw0.len]; omega
    refine fun x' dx hx hdx ndx => ?_
    exact mkF hou2 nok.1 (by rw [sizeLine_eq]; omega) (fun z hz => (nok.2 z hz).2.1) sq raw fr rl hx hdx ndx fun H' x' fa => q _ H' (((ext_but x1).trans b2).ext x') (pool_ext p2 x') fa
end
end My

namespace My
open PySem PySem.Spec PyProof.Rows L2
/-! ### what a laid tree holds -/
/-- b lies over a -/
inductive Anc (ov : Str → Option Str) : Str → Str → Prop
  | one {a b : Str} : ov a = some b → Anc ov a b
  | up {a y b : Str} : ov a = some y → Anc ov y b → Anc ov a b
/-- b is f or lies over it -/
def Abv (ov : Str → Option Str) (f : Option Str) (b : Str) : Prop := ∃ y, f = some y ∧ (b = y ∨ Anc ov y b)
theorem anc_abv {ov : Str → Option Str} {a b : Str} (h : Anc ov a b) : Abv ov (ov a) b := by
  cases h with
  | one h => exact ⟨b, h, .inl rfl⟩
  | up h k => exact ⟨_, h, .inr k⟩
theorem abv_anc {ov : Str → Option Str} {a b : Str} (h : Abv ov (ov a) b) : Anc ov a b := by
  obtain ⟨y, h, rfl | k⟩ := h
  · exact .one h
  · exact .up h k
theorem Anc.trans {ov : Str → Option Str} {a b c : Str} (h : Anc ov a b) (k : Anc ov b c) : Anc ov a c := by
  induction h with
  | one h => exact .up h k
  | up h _ ih => exact .up h (ih k)
/-- of two over one node one is over the other -/
theorem Anc.lin {ov : Str → Option Str} {x a b : Str} (h : Anc ov x a) (k : Anc ov x b) : a = b ∨ Anc ov a b ∨ Anc ov b a := by
  induction h with
  | @one x a h =>
    obtain ⟨y, e, k⟩ := anc_abv k
    rw [h] at e
    injection e with e
    subst e
    rcases k with rfl | k
    · exact .inl rfl
    · exact .inr (.inl k)
  | @up x y a h h2 ih =>
    obtain ⟨y', e, k⟩ := anc_abv k
    rw [h] at e
    injection e with e
    subst e
    rcases k with rfl | k
    · exact .inr (.inr h2)
    · exact ih k
section
variable {fo : List Str} {rows : List (List Str)} {ov : Str → Option Str}
theorem Lays.clo {f : Option Str} {zs : List Str} (h : Lays fo rows ov f zs) : ∀ a, a ∈ zs → ∀ b, Anc ov a b → b ∈ zs ∨ Abv ov f b := by
  induction h with
  | nil => intro a ha; cases ha
  | @cons f zs p t ne rc ht tp hov l1 l2 ih1 ih2 =>
    intro a ha b hab
    have htz := (List.mem_filter.mp ht).1
    have ht2 : ∀ b, Anc ov t b → b ∈ zs ∨ Abv ov f b := fun b h => by
      have := anc_abv h
      rw [hov] at this
      exact .inr this
    by_cases pa : p a = true
    · by_cases e : a = t
      · subst e
        exact ht2 b hab
      · rcases ih1 a (List.mem_filter.mpr ⟨List.mem_filter.mpr ⟨ha, pa⟩, decide_eq_true e⟩) b hab with h | ⟨y, e, h⟩
        · exact .inl (List.mem_filter.mp (List.mem_filter.mp h).1).1
        · injection e with e
          subst e
          rcases h with rfl | h
          · exact .inl htz
          · exact ht2 b h
    · have pa' : (!p a) = true := by simpa using pa
      exact (ih2 a (List.mem_filter.mpr ⟨ha, pa'⟩) b hab).imp (fun h => (List.mem_filter.mp h).1) id
theorem Lays.up {f : Option Str} {zs : List Str} (h : Lays fo rows ov f zs) : ∀ y, f = some y → ∀ a, a ∈ zs → Anc ov a y := by
  induction h with
  | nil => intro y _ a ha; cases ha
  | @cons f zs p t ne rc ht tp hov l1 l2 ih1 ih2 =>
    intro y hy a ha
    by_cases pa : p a = true
    · by_cases e : a = t
      · subst e
        exact .one (hov.trans hy)
      · exact (ih1 t rfl a (List.mem_filter.mpr ⟨List.mem_filter.mpr ⟨ha, pa⟩, decide_eq_true e⟩)).trans (.one (hov.trans hy))
    · have pa' : (!p a) = true := by simpa using pa
      exact ih2 y hy a (List.mem_filter.mpr ⟨ha, pa'⟩)
theorem out1 {f : Option Str} {zs : List Str} {p : Str → Bool} {t : Str} (out : ∀ b, Abv ov f b → b ∉ zs) (hov : ov t = f) : ∀ b, Abv ov (some t) b → b ∉ (zs.filter p).filter fun z => decide (z ≠ t) := by
  rintro b ⟨y, e, h⟩ m
  injection e with e
  subst e
  obtain ⟨m1, m2⟩ := List.mem_filter.mp m
  rcases h with rfl | h
  · exact absurd rfl (of_decide_eq_true m2)
  · have := anc_abv h
    rw [hov] at this
    exact out b this (List.mem_filter.mp m1).1
theorem Lays.irr {f : Option Str} {zs : List Str} (h : Lays fo rows ov f zs) : (∀ b, Abv ov f b → b ∉ zs) → ∀ a, a ∈ zs → ¬ Anc ov a a := by
  induction h with
  | nil => intro _ a ha; cases ha
  | @cons f zs p t ne rc ht tp hov l1 l2 ih1 ih2 =>
    intro out a ha k
    by_cases pa : p a = true
    · by_cases e : a = t
      · subst e
        have := anc_abv k
        rw [hov] at this
        exact out a this ha
      · exact ih1 (out1 out hov) a (List.mem_filter.mpr ⟨List.mem_filter.mpr ⟨ha, pa⟩, decide_eq_true e⟩) k
    · have pa' : (!p a) = true := by simpa using pa
      exact ih2 (fun b hb m => out b hb (List.mem_filter.mp m).1) a (List.mem_filter.mpr ⟨ha, pa'⟩) k
/-- a fact holds -/
def FHold (ov : Str → Option Str) (w a b : Str) : Prop := (w = "below" → Anc ov a b) ∧ (w = "not" → ¬ Anc ov a b) ∧ (w = "line" → Anc ov a b ∨ Anc ov b a)
theorem Lays.facts {f : Option Str} {zs : List Str} (three : ∀ r, r ∈ rows → ∃ w a b, r = [w, a, b]) (h : Lays fo rows ov f zs) : (∀ b, Abv ov f b → b ∉ zs) → ∀ w a b, [w, a, b] ∈ rows → a ∈ zs → b ∈ zs → a ≠ b → FHold ov w a b := by
  induction h with
  | nil => intro _ w a b _ ha; cases ha
  | @cons f zs p t ne rc ht tp hov l1 l2 ih1 ih2 =>
    intro out w a b hr ha hb nab
    have jn : w ≠ "not" → (p a = true ↔ p b = true) := fun hw => ⟨fun h => rc.1.2 a ha b hb h ⟨w, hw, .inl hr⟩, fun h => rc.1.2 b hb a ha h ⟨w, hw, .inr hr⟩⟩
    have tno : ∀ b, Anc ov t b → b ∉ zs := fun b h => by
      have := anc_abv h
      rw [hov] at this
      exact out b this
    have nobar : ∀ o, o ∈ zs → p o = true → o ≠ t → ¬ Bars rows t o := fun o ho po ne hb => by
      have mo : o ∈ zs.filter p := List.mem_filter.mpr ⟨ho, po⟩
      rcases tp with l1 | tp
      · obtain ⟨z, hz⟩ := List.length_eq_one_iff.mp l1
        rw [hz] at mo ht
        exact ne ((List.mem_singleton.mp mo).trans (List.mem_singleton.mp ht).symm)
      · unfold topB at tp
        obtain ⟨_, n2⟩ := Bool.and_eq_true_iff.mp tp
        have k : ((zs.filter p).any fun o => decide (o ∈ barS rows t)) = true := List.any_eq_true.mpr ⟨o, mo, decide_eq_true ((mem_bar three).mpr hb)⟩
        rw [k] at n2
        cases n2
    have inP : ∀ z, z ∈ zs → p z = true → z ≠ t → z ∈ (zs.filter p).filter fun z => decide (z ≠ t) := fun z hz pz n => List.mem_filter.mpr ⟨List.mem_filter.mpr ⟨hz, pz⟩, decide_eq_true n⟩
    have htz := (List.mem_filter.mp ht).1
    by_cases pa : p a = true <;> by_cases pb : p b = true
    · by_cases ea : a = t
      · subst ea
        have hb' := inP b hb pb (Ne.symm nab)
        exact ⟨fun e => absurd (.inr (e ▸ hr)) (nobar b hb pb (Ne.symm nab)), fun _ k => tno b k hb, fun _ => .inr (l1.up a rfl b hb')⟩
      · by_cases eb : b = t
        · subst eb
          have ha' := inP a ha pa ea
          exact ⟨fun _ => l1.up b rfl a ha', fun e => absurd (.inl (e ▸ hr)) (nobar a ha pa ea), fun _ => .inl (l1.up b rfl a ha')⟩
        · exact ih1 (out1 out hov) w a b hr (inP a ha pa ea) (inP b hb pb eb) nab
    · have hw : w = "not" := Classical.byContradiction fun n => pb ((jn n).mp pa)
      subst hw
      refine ⟨fun e => absurd e (by decide), fun _ k => ?_, fun e => absurd e (by decide)⟩
      by_cases ea : a = t
      · subst ea
        exact tno b k hb
      · rcases l1.clo a (inP a ha pa ea) b k with h | ⟨y, e, h⟩
        · exact pb (List.mem_filter.mp (List.mem_filter.mp h).1).2
        · injection e with e
          subst e
          rcases h with rfl | h
          · exact pb (List.mem_filter.mp ht).2
          · exact tno b h hb
    · have hw : w = "not" := Classical.byContradiction fun n => pa ((jn n).mpr pb)
      subst hw
      have pa' : (!p a) = true := by simpa using pa
      refine ⟨fun e => absurd e (by decide), fun _ k => ?_, fun e => absurd e (by decide)⟩
      rcases l2.clo a (List.mem_filter.mpr ⟨ha, pa'⟩) b k with h | h
      · have := (List.mem_filter.mp h).2
        rw [pb] at this
        cases this
      · exact out b h hb
    · have pa' : (!p a) = true := by simpa using pa
      have pb' : (!p b) = true := by simpa using pb
      exact ih2 (fun b hb m => out b hb (List.mem_filter.mp m).1) w a b hr (List.mem_filter.mpr ⟨ha, pa'⟩) (List.mem_filter.mpr ⟨hb, pb'⟩) nab
end
/-- in a list with a node there is one with nothing of the list over it -/
theorem top_of {ov : Str → Option Str} : ∀ (zs : List Str) (z0 : Str), z0 ∈ zs → (∀ a, ¬ Anc ov a a) → ∃ t, t ∈ zs ∧ (t = z0 ∨ Anc ov z0 t) ∧ ∀ b, Anc ov t b → b ∉ zs := by
  intro zs
  induction h : zs.length using Nat.strongRecOn generalizing zs with
  | ind n ih =>
    intro z0 hz irr
    by_cases c : ∃ b, Anc ov z0 b ∧ b ∈ zs
    · obtain ⟨b, hb, mb⟩ := c
      have nb : b ≠ z0 := fun e => irr z0 (by rw [e] at hb; exact hb)
      have mb' : b ∈ zs.filter fun z => decide (z ≠ z0) := List.mem_filter.mpr ⟨mb, decide_eq_true nb⟩
      have lt : (zs.filter fun z => decide (z ≠ z0)).length < n := by
        rw [← h]
        have : (zs.filter fun z => decide (z ≠ z0)).length ≤ zs.length := List.length_filter_le _ _
        rcases Nat.lt_or_eq_of_le this with k | k
        · exact k
        · have := (List.length_filter_eq_length_iff.mp k) z0 hz
          exact absurd rfl (of_decide_eq_true this)
      obtain ⟨t, h1, h2, h3⟩ := ih _ lt (zs.filter fun z => decide (z ≠ z0)) rfl b mb' irr
      refine ⟨t, (List.mem_filter.mp h1).1, .inr ?_, fun x hx mx => ?_⟩
      · rcases h2 with rfl | h2
        · exact hb
        · exact hb.trans h2
      · refine h3 x hx (List.mem_filter.mpr ⟨mx, decide_eq_true fun e => ?_⟩)
        subst e
        rcases h2 with rfl | h2
        · exact irr _ (hb.trans hx)
        · exact irr _ ((hb.trans h2).trans hx)
    · exact ⟨z0, hz, .inl rfl, fun b hb mb => c ⟨b, hb, mb⟩⟩
/-- nodes without a top, and a tree that keeps all facts -/
theorem topless_no {fo : List Str} {rows : List (List Str)} {ov : Str → Option Str} {zs : List Str} (irr : ∀ a, ¬ Anc ov a a) (fol : ∀ a b, Anc ov a b → b ∈ fo) (hold : ∀ w a b, [w, a, b] ∈ rows → a ∈ zs → b ∈ zs → FHold ov w a b)
    (word : ∀ w a b, [w, a, b] ∈ rows → w = "below" ∨ w = "not" ∨ w = "line") (ne : ∀ w a b, [w, a, b] ∈ rows → a ≠ b) (l2 : 2 ≤ zs.length) (nd : zs.Nodup) (tp : Topless fo rows zs) : False := by
  obtain ⟨jo, bar⟩ := tp
  obtain ⟨z0, hz0⟩ : ∃ z0, zs.head? = some z0 := by
    cases zs with
    | nil => simp at l2
    | cons a _ => exact ⟨a, rfl⟩
  obtain ⟨t, ht, h0, htop⟩ := top_of zs z0 (List.mem_of_head? hz0) irr
  have all := jo (fun x => x = t ∨ Anc ov x t) ⟨fun z hz => by
    rw [hz0] at hz
    injection hz with hz
    subst hz
    exact h0.imp Eq.symm id, fun x hx y hy qx ⟨w, hw, hr⟩ => by
    have cmp : Anc ov x y ∨ Anc ov y x := by
      rcases hr with hr | hr
      · rcases word _ _ _ hr with e | e | e
        · exact .inl ((hold _ _ _ hr hx hy).1 e)
        · exact absurd e hw
        · exact (hold _ _ _ hr hx hy).2.2 e
      · rcases word _ _ _ hr with e | e | e
        · exact .inr ((hold _ _ _ hr hy hx).1 e)
        · exact absurd e hw
        · exact ((hold _ _ _ hr hy hx).2.2 e).symm
    rcases qx with rfl | qx
    · rcases cmp with k | k
      · exact absurd hy (htop y k)
      · exact .inr k
    · rcases cmp with k | k
      · rcases k.lin qx with e | e | e
        · exact .inl e
        · exact .inr e
        · exact absurd hy (htop y e)
      · exact .inr (k.trans qx)⟩
  obtain ⟨o, ho, no⟩ : ∃ o, o ∈ zs ∧ o ≠ t := by
    match zs, l2, nd with
    | a :: b :: _, _, nd =>
      by_cases e : a = t
      · refine ⟨b, by simp, fun e2 => ?_⟩
        have := (List.nodup_cons.mp nd).1
        exact this (by rw [e, ← e2]; exact List.mem_cons_self)
      · exact ⟨a, by simp, e⟩
  have tf : t ∈ fo := fol o t ((all o ho).resolve_left no)
  obtain ⟨o2, ho2, b⟩ := bar t ht tf
  rcases b with b | b
  · have h := (hold _ _ _ b ho2 ht).2.1 rfl
    rcases all o2 ho2 with e | e
    · exact ne _ _ _ b e
    · exact h e
  · exact htop o2 ((hold _ _ _ b ht ho2).1 rfl) ho2
end My

namespace My
open PySem PySem.Spec PyProof.Rows L2
/-! ### a dict without what is not told -/
def cutN (d : Dic) : Dic := d.filter fun p => !decide (p.2 = .non)
theorem cutN_snoc (d : Dic) (p : Str × V) : cutN (d ++ [p]) = cutN d ++ if (!decide (p.2 = .non)) = true then [p] else [] := by
  unfold cutN
  rw [List.filter_append]
  by_cases c : (!decide (p.2 = .non)) = true
  · rw [List.filter_cons, if_pos c, if_pos c]
    rfl
  · rw [List.filter_cons, if_neg c, if_neg c]
    rfl
theorem cutN_key {d : Dic} {z : Str} (h : z ∈ (cutN d).map (·.1)) : z ∈ d.map (·.1) := by
  obtain ⟨p, hp, rfl⟩ := List.mem_map.mp h
  exact List.mem_map.mpr ⟨p, (List.mem_filter.mp hp).1, rfl⟩
theorem cutN_nd {d : Dic} (nd : (d.map (·.1)).Nodup) : ((cutN d).map (·.1)).Nodup := (List.filter_sublist.map _).nodup nd
theorem getD_cut {w : Str} : ∀ {d : Dic}, (d.map (·.1)).Nodup → (getD (cutN d) w).getD .non = (getD d w).getD .non
  | [], _ => rfl
  | p :: d, nd => by
    rw [List.map_cons] at nd
    obtain ⟨n1, n2⟩ := List.nodup_cons.mp nd
    have ih := getD_cut (w := w) n2
    have e : cutN (p :: d) = if (!decide (p.2 = .non)) = true then p :: cutN d else cutN d := List.filter_cons
    rw [e, getD_cons w p d]
    by_cases c : (!decide (p.2 = .non)) = true
    · rw [if_pos c, getD_cons w p (cutN d)]
      by_cases k : p.1 = w
      · rw [if_pos k, if_pos k]
      · rw [if_neg k, if_neg k]
        exact ih
    · rw [if_neg c, ih]
      have c' : p.2 = .non := by simpa using c
      by_cases k : p.1 = w
      · rw [if_pos k, c']
        cases h : getD d w with
        | none => rfl
        | some v => exact absurd (getD_key h) (by rw [← k]; exact n1)
      · rw [if_neg k]
theorem ly_cut {fo th : List Str} {d : Dic} (ly : LyD fo th d) (nd : (fo ++ th).Nodup) : lyD (fo ++ th) (cutN d) = d := by
  have nk : (d.map (·.1)).Nodup := by rw [ly.keys]; exact nd
  refine dic_ext ?_ ?_ fun w hw => ?_
  · rw [ly_keys, ly.keys]
  · rw [ly_keys]
    exact nd
  · rw [ly_keys] at hw
    rw [ly_get hw, getD_cut nk]
    obtain ⟨x, hx⟩ := getD_some (d := d) (z := w) (by rw [ly.keys]; exact hw)
    rw [hx]
    rfl
theorem cut_vals {fo : List Str} {d : Dic} (ok : DicOk fo d) {v : V} (h : v ∈ (cutN d).map (·.2)) : ∃ s, v = .str s ∧ s ∈ fo := by
  obtain ⟨p, hp, rfl⟩ := List.mem_map.mp h
  obtain ⟨h1, h2⟩ := List.mem_filter.mp hp
  rcases ok p h1 with e | ⟨s, hs, e⟩
  · rw [decide_eq_true e] at h2
    cases h2
  · exact ⟨s, e, hs⟩
theorem merge_kd (e : Dic) : ∀ a : Dic, ((a ++ e).map (·.1)).Nodup → mergeK (kd a) (kd e) = kd (a ++ e) := by
  induction e with
  | nil => intro a _; rw [List.append_nil]; rfl
  | cons p e ih =>
    intro a nd
    have na : p.1 ∉ a.map (·.1) := fun m => by
      rw [List.map_append] at nd
      exact (List.nodup_append.mp nd).2.2 p.1 m p.1 (List.mem_map.mpr ⟨p, List.mem_cons_self, rfl⟩) rfl
    show mergeK (putK (kd a) (Sum.inr p.1) p.2) (kd e) = _
    rw [put_kd, set_new na, ih (a ++ [(p.1, p.2)]) (by rw [List.append_assoc]; exact nd), List.append_assoc]
    rfl
end My

namespace My
open PySem PySem.Spec PyProof.Rows L2
theorem look_step {d : Dic} {a b : Str} : look d a = some b ↔ stepV d (.str a) = .str b := by
  unfold look
  show _ ↔ (getD d a).getD .non = .str b
  cases e : getD d a with
  | none =>
    constructor
    · intro h
      cases h
    · intro h
      cases h
  | some v =>
    cases v with
    | str z =>
      constructor
      · intro h
        injection h with h
        rw [h]
        rfl
      · intro h
        injection (show V.str z = V.str b from h) with h
        rw [h]
    | _ =>
      constructor
      · intro h
        cases h
      · intro h
        cases (show _ = V.str b from h)
theorem step_of_look {d : Dic} {a b : Str} (h : look d a = some b) : stepV d (.str a) = .str b := look_step.mp h
theorem anc_it {fo : List Str} {d : Dic} (ok : DicOk fo d) {a b : Str} : Anc (look d) a b ↔ ∃ n, itV d (n + 1) (.str a) = .str b := by
  constructor
  · intro h
    induction h with
    | one h => exact ⟨0, look_step.mp h⟩
    | @up a y b h _ ih =>
      obtain ⟨n, e⟩ := ih
      refine ⟨n + 1, ?_⟩
      show itV d (n + 1) (stepV d (.str a)) = _
      rw [look_step.mp h]
      exact e
  · rintro ⟨n, e⟩
    induction n generalizing a with
    | zero => exact .one (look_step.mpr e)
    | succ n ih =>
      have e2 : itV d (n + 1) (stepV d (.str a)) = .str b := e
      rcases step_str ok a with h | ⟨y, _, h⟩
      · rw [h, it_non] at e2
        cases e2
      · rw [h] at e2
        exact .up (look_step.mpr h) (ih e2)
theorem cyc_anc {fo : List Str} {d : Dic} (ok : DicOk fo d) {c : Str} : Cyc d c ↔ Anc (look d) c c := by
  rw [anc_it ok]
  constructor
  · rintro ⟨n, hn, e⟩
    exact ⟨n - 1, by rw [Nat.sub_add_cancel hn]; exact e⟩
  · rintro ⟨n, e⟩
    exact ⟨n + 1, Nat.succ_pos n, e⟩
theorem getD_no {d : Dic} {z : Str} (h : z ∉ d.map (·.1)) : getD d z = none := by
  cases e : getD d z with
  | none => rfl
  | some v => exact absurd (getD_key e) h
theorem look_none {d : Dic} {z : Str} (h : getD d z = none) : look d z = none := by
  unfold look
  rw [h]
theorem look_ly {ns : List Str} {d : Dic} (h : ∀ k v, getD d k = some v → k ∈ ns) : look (lyD ns d) = look d := by
  funext z
  by_cases hz : z ∈ ns
  · unfold look
    rw [ly_get hz]
    cases e : getD d z with
    | none => rfl
    | some v => cases v <;> rfl
  · have e : getD d z = none := by
      cases e : getD d z with
      | none => rfl
      | some v => exact absurd (h z v e) hz
    rw [look_none e, look_none (getD_no (by rw [ly_keys]; exact hz))]
theorem look_cut {d : Dic} (nd : (d.map (·.1)).Nodup) : look (cutN d) = look d := by
  funext z
  cases e : look d z with
  | some b =>
    rw [look_step] at e ⊢
    exact (getD_cut nd).trans e
  | none =>
    cases e2 : look (cutN d) z with
    | none => rfl
    | some b =>
      rw [look_step] at e2
      have : look d z = some b := look_step.mpr ((getD_cut nd).symm.trans e2)
      rw [e] at this
      cases this
section
variable {fo ns : List Str} {rows : List (List Str)} {d : Dic}
theorem laid_in (h : Laid fo rows ns d) : ∀ k v, getD d k = some v → k ∈ ns := fun k v e => (h.1 k v e).1
theorem anc_fst {d : Dic} {a b : Str} (h : Anc (look d) a b) : ∃ v, getD d a = some v := by
  obtain ⟨y, e, _⟩ := anc_abv h
  unfold look at e
  cases e2 : getD d a with
  | none => rw [e2] at e; cases e
  | some v => exact ⟨v, rfl⟩
theorem laid_irr (h : Laid fo rows ns d) (a : Str) : ¬ Anc (look d) a a := fun k => by
  obtain ⟨v, e⟩ := anc_fst k
  exact h.2.2.irr (fun b ⟨_, e, _⟩ => by cases e) a (laid_in h a v e) k
theorem laid_fol (h : Laid fo rows ns d) {a b : Str} (k : Anc (look d) a b) : b ∈ fo := by
  have one : ∀ a b, look d a = some b → b ∈ fo := fun a b e => by
    have e2 := look_step.mp e
    cases e3 : getD d a with
    | none =>
      rw [look_none e3] at e
      cases e
    | some v =>
      obtain ⟨f, hf, rfl⟩ := (h.1 a v e3).2
      have : (getD d a).getD .non = .str b := e2
      rw [e3] at this
      injection (show V.str f = V.str b from this) with this
      exact this ▸ hf
  induction k with
  | one h => exact one _ _ h
  | up _ _ ih => exact ih
theorem laid_hold (three : ∀ r, r ∈ rows → ∃ w a b, r = [w, a, b]) (h : Laid fo rows ns d) {w a b : Str} (hr : [w, a, b] ∈ rows) (ha : a ∈ ns) (hb : b ∈ ns) (n : a ≠ b) : FHold (look d) w a b :=
  h.2.2.facts three (fun b ⟨_, e, _⟩ => by cases e) w a b hr ha hb n
theorem lyD_ok (h : Laid fo rows ns d) : DicOk fo (lyD ns d) := fun p hp => by
  unfold lyD at hp
  obtain ⟨z, hz, rfl⟩ := List.mem_map.mp hp
  show (getD d z).getD .non = .non ∨ _
  cases e : getD d z with
  | none => exact .inl rfl
  | some v =>
    obtain ⟨f, hf, rfl⟩ := (h.1 z v e).2
    exact .inr ⟨f, hf, rfl⟩
theorem laid_nocyc (h : Laid fo rows ns d) (c : Str) : ¬ Cyc (lyD ns d) c := fun k => by
  have := (cyc_anc (lyD_ok h)).mp k
  rw [look_ly (laid_in h)] at this
  exact laid_irr h c this
end
/-! ### the law's own look -/
theorem liesN_iff {d : Dic} {f : Str} : ∀ n v, liesN d f n v = true ↔ ∃ i, i < n ∧ itV d i v = .str f
  | 0, v => ⟨fun h => (nomatch h), fun ⟨i, h, _⟩ => absurd h (Nat.not_lt_zero i)⟩
  | n + 1, v => by
    unfold liesN
    rw [Bool.or_eq_true, decide_eq_true_iff, liesN_iff n]
    constructor
    · rintro (h | ⟨i, hi, h⟩)
      · exact ⟨0, Nat.succ_pos n, h⟩
      · exact ⟨i + 1, Nat.succ_lt_succ hi, h⟩
    · rintro ⟨i, hi, h⟩
      cases i with
      | zero => exact .inl h
      | succ i => exact .inr ⟨i, Nat.lt_of_succ_lt_succ hi, h⟩
theorem lies_iff {fo : List Str} {d : Dic} (ok : DicOk fo d) (irr : ∀ a, ¬ Anc (look d) a a) (len : d.length ≤ 8) (a f : Str) : liesB d a f = true ↔ Anc (look d) a f := by
  unfold liesB
  rw [liesN_iff, anc_it ok]
  constructor
  · rintro ⟨i, _, h⟩
    exact ⟨i, h⟩
  · rintro ⟨i, h⟩
    refine ⟨i, ?_, h⟩
    refine Nat.lt_of_not_le fun k => ?_
    have e := way_end ok (fun c hc => irr c ((cyc_anc ok).mp hc)) a
    have := it_stay (m := i + 1) e (by omega)
    rw [h] at this
    cases this
theorem holds_iff {fo : List Str} {d : Dic} (ok : DicOk fo d) (irr : ∀ a, ¬ Anc (look d) a a) (len : d.length ≤ 8) {w a b : Str} (hw : w ∈ wordsS) : holdsB d w a b = true ↔ FHold (look d) w a b := by
  have l := lies_iff ok irr len
  unfold holdsB FHold
  unfold wordsS at hw
  simp only [List.mem_cons, List.not_mem_nil, or_false] at hw
  rcases hw with rfl | rfl | rfl
  · rw [if_pos rfl, l]
    exact ⟨fun h => ⟨fun _ => h, fun e => absurd e (by decide), fun e => absurd e (by decide)⟩, fun h => h.1 rfl⟩
  · rw [if_neg (by decide), if_pos rfl]
    constructor
    · intro h
      refine ⟨fun e => absurd e (by decide), fun _ k => ?_, fun e => absurd e (by decide)⟩
      rw [(l a b).mpr k] at h
      cases h
    · intro h
      cases e : liesB d a b with
      | false => rfl
      | true => exact absurd ((l a b).mp e) (h.2.1 rfl)
  · rw [if_neg (by decide), if_neg (by decide), Bool.or_eq_true, l, l]
    exact ⟨fun h => ⟨fun e => absurd e (by decide), fun e => absurd e (by decide), fun _ => h⟩, fun h => h.2.2 rfl⟩
/-- joined is joined from wherever one begins -/
theorem joined_set {rs : List (List Str)} {zs ys : List Str} (h : Joined rs zs) (e : ∀ z, z ∈ ys ↔ z ∈ zs) : Joined rs ys := fun q hq => by
  intro z hz
  refine Classical.byContradiction fun nz => ?_
  obtain ⟨y0, h0⟩ : ∃ y0, ys.head? = some y0 := by
    cases ys with
    | nil => cases hz
    | cons a _ => exact ⟨a, rfl⟩
  have m0 := (e y0).mp (List.mem_of_head? h0)
  obtain ⟨x0, hx0⟩ : ∃ x0, zs.head? = some x0 := by
    cases zs with
    | nil => cases m0
    | cons a _ => exact ⟨a, rfl⟩
  by_cases c : q x0
  · exact nz (h q ⟨fun z hz => by rw [hx0] at hz; injection hz with hz; exact hz ▸ c, fun x hx y hy => hq.2 x ((e x).mpr hx) y ((e y).mpr hy)⟩ z ((e z).mp hz))
  · have := h (fun x => ¬ q x) ⟨fun z hz => by rw [hx0] at hz; injection hz with hz; exact hz ▸ c, fun x hx y hy nx j qy => nx (hq.2 y ((e y).mpr hy) x ((e x).mpr hx) qy j.symm)⟩ y0 m0
    exact this (hq.1 y0 h0)
theorem topless_set {fo : List Str} {rs : List (List Str)} {zs ys : List Str} (h : Topless fo rs zs) (e : ∀ z, z ∈ ys ↔ z ∈ zs) : Topless fo rs ys := ⟨joined_set h.1 e, fun z hz hf => by
  obtain ⟨o, ho, b⟩ := h.2 z ((e z).mp hz) hf
  exact ⟨o, (e o).mpr ho, b⟩⟩
theorem getD_pair : ∀ {d : Dic} {p : Str × V}, (d.map (·.1)).Nodup → p ∈ d → getD d p.1 = some p.2
  | [], _, _, h => by cases h
  | q :: d, p, nd, h => by
    rw [getD_cons]
    obtain ⟨n1, n2⟩ := List.nodup_cons.mp nd
    rcases List.mem_cons.mp h with rfl | h
    · rw [if_pos rfl]
    · rw [if_neg fun e => n1 (List.mem_map.mpr ⟨p, h, e.symm⟩)]
      exact getD_pair n2 h
end My

namespace My
open PySem PySem.Spec PyProof.Rows L2
theorem FacAt.butL {H H' : Hp} {K : PySem.W.Frag} {CF C a p : Addr} {fo th : List Str} {rows : List (List Str)} {ys : List V} (hp : H p = some (.lst ys)) (b : But H H' p) (h : FacAt H K CF C a fo th rows) : FacAt H' K CF C a fo th rows := by
  obtain ⟨dx, fs, ho, r, ys, h1, h2, h3, h4, h5, h6, h7, h8⟩ := h
  exact ⟨dx, fs, ho, r, ys, b _ _ (ne_of h1 hp (fun z => nomatch z)) h1, h2, h3, hou_butL hp b h4, sqT_butL hp b h5, Rows.butL hp b h6, h7, h8⟩
/-! ### told once, and joined as before -/
theorem told_told' {fo th : List Str} (nd : (fo ++ th).Nodup) {w a b : Str} (h : IsF fo th w a b) : ∃ c d, toldS (fo ++ th) w a b = [w, c, d] ∧ IsT fo th w c d := by
  obtain ⟨c, d, e, hcd⟩ := told_three nd h
  rcases hcd with ⟨rfl, rfl⟩ | ⟨rfl, rfl, rfl⟩
  · exact ⟨_, _, e, h, e⟩
  · refine ⟨_, _, e, ⟨h.1, h.2.2.1, h.2.1, Ne.symm h.2.2.2.1, .inl rfl⟩, ?_⟩
    rw [← e]
    unfold toldS
    rw [if_pos rfl, if_pos rfl]
    congr 1
    unfold ordS
    refine List.filter_congr fun n _ => ?_
    rw [Bool.or_comm]
theorem told_fact {fo th : List Str} (nd : (fo ++ th).Nodup) {rs : List (List Str)} (h : FactR fo th rs) : FactR fo th (onceR (rs.map (toldR (fo ++ th)))) := fun r hr => by
  obtain ⟨x, hx, rfl⟩ := List.mem_map.mp (once_mem hr)
  obtain ⟨w, a, b, rfl, isf⟩ := h x hx
  obtain ⟨c, d, e, i⟩ := told_told' nd isf
  exact ⟨w, c, d, e, i.1⟩
theorem once_in : ∀ (rs acc : List (List Str)) (r : List Str), r ∈ acc ∨ r ∈ rs → r ∈ rs.foldl (fun acc r => if r ∈ acc then acc else acc ++ [r]) acc
  | [], acc, r, h => h.resolve_right fun z => by cases z
  | x :: rs, acc, r, h => by
    refine once_in rs _ r ?_
    show r ∈ (if x ∈ acc then acc else acc ++ [x]) ∨ r ∈ rs
    rcases h with h | h
    · left
      split
      · exact h
      · exact List.mem_append_left _ h
    · rcases List.mem_cons.mp h with rfl | h
      · left
        split
        · assumption
        · exact List.mem_append_right _ (List.mem_singleton.mpr rfl)
      · exact .inr h
theorem mem_once {rs : List (List Str)} {r : List Str} : r ∈ onceR rs ↔ r ∈ rs := ⟨once_mem, fun h => once_in rs [] r (.inr h)⟩
theorem told_of {fo th : List Str} (nd : (fo ++ th).Nodup) {rs : List (List Str)} (fr : FactR fo th rs) {w c d : Str} (h : [w, c, d] ∈ onceR (rs.map (toldR (fo ++ th)))) : [w, c, d] ∈ rs ∨ w = "line" ∧ [w, d, c] ∈ rs := by
  obtain ⟨r, hr, e⟩ := List.mem_map.mp (once_mem h)
  obtain ⟨w', a, b, rfl, isf⟩ := fr r hr
  obtain ⟨c', d', e', k⟩ := told_three nd isf
  have e2 : toldS (fo ++ th) w' a b = [w, c, d] := e
  rw [e'] at e2
  injection e2 with e3 e2
  injection e2 with e4 e2
  injection e2 with e5 _
  subst e3 e4 e5
  rcases k with ⟨rfl, rfl⟩ | ⟨k1, rfl, rfl⟩
  · exact .inl hr
  · exact .inr ⟨k1, hr⟩
theorem told_to {fo th : List Str} (nd : (fo ++ th).Nodup) {rs : List (List Str)} (fr : FactR fo th rs) {w a b : Str} (h : [w, a, b] ∈ rs) : [w, a, b] ∈ onceR (rs.map (toldR (fo ++ th))) ∨ w = "line" ∧ [w, b, a] ∈ onceR (rs.map (toldR (fo ++ th))) := by
  obtain ⟨w', a', b', e0, isf⟩ := fr _ h
  injection e0 with e3 e2
  injection e2 with e4 e2
  injection e2 with e5 _
  subst e3 e4 e5
  obtain ⟨c', d', e', k⟩ := told_three nd isf
  have m : [w, c', d'] ∈ onceR (rs.map (toldR (fo ++ th))) := mem_once.mpr (List.mem_map.mpr ⟨_, h, e'⟩)
  rcases k with ⟨rfl, rfl⟩ | ⟨k1, rfl, rfl⟩
  · exact .inl m
  · exact .inr ⟨k1, m⟩
theorem told_jn {fo th : List Str} (nd : (fo ++ th).Nodup) {rs : List (List Str)} (fr : FactR fo th rs) (x y : Str) : Jn rs x y ↔ Jn (onceR (rs.map (toldR (fo ++ th)))) x y := by
  constructor
  · rintro ⟨w, hw, h | h⟩
    · exact ⟨w, hw, (told_to nd fr h).imp id And.right⟩
    · exact ⟨w, hw, ((told_to nd fr h).imp id And.right).symm⟩
  · rintro ⟨w, hw, h | h⟩
    · exact ⟨w, hw, (told_of nd fr h).imp id And.right⟩
    · exact ⟨w, hw, ((told_of nd fr h).imp id And.right).symm⟩
theorem told_bars {fo th : List Str} (nd : (fo ++ th).Nodup) {rs : List (List Str)} (fr : FactR fo th rs) (x y : Str) : Bars rs x y ↔ Bars (onceR (rs.map (toldR (fo ++ th)))) x y := by
  constructor
  · rintro (h | h)
    · exact .inl ((told_to nd fr h).resolve_right fun z => absurd z.1 (by decide))
    · exact .inr ((told_to nd fr h).resolve_right fun z => absurd z.1 (by decide))
  · rintro (h | h)
    · exact .inl ((told_of nd fr h).resolve_right fun z => absurd z.1 (by decide))
    · exact .inr ((told_of nd fr h).resolve_right fun z => absurd z.1 (by decide))
theorem told_topO {fo th : List Str} (nd : (fo ++ th).Nodup) {rs : List (List Str)} (fr : FactR fo th rs) (o : Option (List V)) : TopO fo th rs o ↔ TopO fo th (onceR (rs.map (toldR (fo ++ th)))) o := by
  have k := fun zs => topless_iff (fo := fo) (zs := zs) (told_jn nd fr) (told_bars nd fr)
  constructor
  · rintro ⟨xs, e, zs, h1, h2, h3, h4, h5⟩
    exact ⟨xs, e, zs, h1, h2, h3, h4, (k zs).mp h5⟩
  · rintro ⟨xs, e, zs, h1, h2, h3, h4, h5⟩
    exact ⟨xs, e, zs, h1, h2, h3, h4, (k zs).mpr h5⟩
theorem fact_three {fo th : List Str} {rs : List (List Str)} (h : FactR fo th rs) : Three rs := fun r hr => by
  obtain ⟨w, a, b, e, _⟩ := h r hr
  exact ⟨w, a, b, e⟩
theorem fact_okr {fo th : List Str} (oks : OkS (fo ++ th)) {rs : List (List Str)} (h : FactR fo th rs) : OkR rs := fun r hr z hz => by
  obtain ⟨w, a, b, rfl, h1, h2, h3, _⟩ := h r hr
  simp at hz
  rcases hz with rfl | rfl | rfl
  · exact wordsOk _ h1
  · exact oks _ h2
  · exact oks _ h3
end My

namespace My
open PySem PySem.Spec PyProof.Rows L2
theorem look_nil (z : Str) : look [] z = none := rfl
theorem dicOk_cut {fo : List Str} {d : Dic} (h : DicOk fo d) : DicOk fo (cutN d) := fun p hp => h p (List.mem_filter.mp hp).1
theorem cutN_len (d : Dic) : (cutN d).length ≤ d.length := List.length_filter_le _ _
theorem acy_irr {fo : List Str} {d : Dic} (ok : DicOk fo d) (ac : Acy d) (nd : (d.map (·.1)).Nodup) (a : Str) : ¬ Anc (look (cutN d)) a a := fun k => by
  rw [look_cut nd] at k
  exact acy_nocyc ac a ((cyc_anc ok).mpr k)
/-- the items of a dict in the order of its keys -/
theorem dic_at {ns : List Str} {d : Dic} (e : d.map (·.1) = ns) (nd : ns.Nodup) {i : Nat} {z : Str} (h : ns[i]? = some z) : d[i]? = some (z, (getD d z).getD .non) := by
  rw [← e, List.getElem?_map] at h
  cases hd : d[i]? with
  | none => rw [hd] at h; cases h
  | some p =>
    rw [hd] at h
    injection h with h
    have := getD_pair (d := d) (p := p) (by rw [e]; exact nd) (List.mem_of_getElem? hd)
    obtain ⟨a, b⟩ := p
    subst h
    show some (a, b) = some (a, (getD d a).getD .non)
    rw [this]
    rfl
theorem cutN_take {ns : List Str} {d : Dic} (e : d.map (·.1) = ns) (nd : ns.Nodup) {i : Nat} {z : Str} (h : ns[i]? = some z) : cutN (d.take (i + 1)) = cutN (d.take i) ++ if (!decide ((getD d z).getD .non = .non)) = true then [(z, (getD d z).getD .non)] else [] := by
  rw [List.take_add_one, dic_at e nd h]
  exact cutN_snoc _ _
theorem cut_key {ns : List Str} {d : Dic} (e : d.map (·.1) = ns) (nd : ns.Nodup) {i : Nat} {z : Str} (h : ns[i]? = some z) : z ∉ (cutN (d.take i)).map (·.1) := fun m => by
  have m2 := cutN_key m
  rw [List.map_take, e] at m2
  obtain ⟨j, hj⟩ := List.mem_iff_getElem?.mp m2
  have jl := (List.getElem?_eq_some_iff.mp hj).1
  rw [List.length_take] at jl
  rw [List.getElem?_take_of_lt (by omega)] at hj
  have := (List.getElem?_inj (by omega) nd).mp (hj.trans h.symm)
  omega
end My

namespace My
open PySem PySem.Spec PyProof.Rows L2
theorem laid_topless {fo th : List Str} {rows : List (List Str)} {d : Dic} {zs : List Str} (nd : (fo ++ th).Nodup) (fr : FactR fo th rows) (la : Laid fo rows (fo ++ th) d) (l2 : 2 ≤ zs.length) (sub : zs.Sublist (fo ++ th)) (tp : Topless fo rows zs) : False := by
  have three := fact_three fr
  have isf : ∀ w a b, [w, a, b] ∈ rows → IsF fo th w a b := fun w a b h => by
    obtain ⟨w', a', b', e, i⟩ := fr _ h
    injection e with e1 e
    injection e with e2 e
    injection e with e3 _
    subst e1 e2 e3
    exact i
  refine topless_no (fo := fo) (rows := rows) (ov := look d) (zs := zs) (laid_irr la) (fun a b h => laid_fol la h) (fun w a b h ha hb => laid_hold three la h (sub.subset ha) (sub.subset hb) (isf w a b h).2.2.2.1) (fun w a b h => ?_) (fun w a b h => (isf w a b h).2.2.2.1) l2 (sub.nodup nd) tp
  have := (isf w a b h).1
  unfold wordsS at this
  simpa using this
theorem laid_all {fo th : List Str} {rs : List (List Str)} {d : Dic} (nd : (fo ++ th).Nodup) (len : (fo ++ th).length ≤ 8) (fr : FactR fo th rs) (la : Laid fo (onceR (rs.map (toldR (fo ++ th)))) (fo ++ th) d) : rs.all (holdsR (cutN (lyD (fo ++ th) d))) = true := by
  rw [List.all_eq_true]
  intro r hr
  obtain ⟨w, a, b, rfl, isf⟩ := fr r hr
  have frt := told_fact nd fr
  have ok := lyD_ok la
  have e1 : look (cutN (lyD (fo ++ th) d)) = look d := by rw [look_cut (by rw [ly_keys]; exact nd), look_ly (laid_in la)]
  have irr : ∀ a, ¬ Anc (look (cutN (lyD (fo ++ th) d))) a a := fun a k => by
    rw [e1] at k
    exact laid_irr la a k
  have l8 : (cutN (lyD (fo ++ th) d)).length ≤ 8 := by
    have := cutN_len (lyD (fo ++ th) d)
    have e : (lyD (fo ++ th) d).length = (fo ++ th).length := by
      unfold lyD
      rw [List.length_map]
    omega
  show holdsB _ w a b = true
  rw [holds_iff (dicOk_cut ok) irr l8 isf.1, e1]
  rcases told_to nd fr hr with h | ⟨rfl, h⟩
  · exact laid_hold (fact_three frt) la h isf.2.1 isf.2.2.1 isf.2.2.2.1
  · have := laid_hold (fact_three frt) la h isf.2.2.1 isf.2.1 (Ne.symm isf.2.2.2.1)
    exact ⟨fun e => absurd e (by decide), fun e => absurd e (by decide), fun e => (this.2.2 e).symm⟩
theorem told_top {fo th : List Str} (nd : (fo ++ th).Nodup) {rs : List (List Str)} (fr : FactR fo th rs) {zs : List Str} : Topless fo rs zs ↔ Topless fo (onceR (rs.map (toldR (fo ++ th)))) zs := topless_iff (told_jn nd fr) (told_bars nd fr)
theorem laid_treeOk {fo th : List Str} {rows : List (List Str)} {d : Dic} (la : Laid fo rows (fo ++ th) d) : (∀ a b, look d a = some b → a ∈ fo ++ th ∧ b ∈ fo) ∧ ∀ a, ¬ Anc (look d) a a := by
  refine ⟨fun a b e => ?_, laid_irr la⟩
  refine ⟨?_, laid_fol la (.one e)⟩
  obtain ⟨v, hv⟩ := anc_fst (.one e)
  exact laid_in la a v hv
end My

namespace My
open PySem PySem.Spec PyProof.Rows L2
/-! ### what fits facts -/
def Val (fo ns : List Str) (e : Str → Option Str) : Prop := (∀ a b, e a = some b → a ∈ ns ∧ b ∈ fo) ∧ ∀ a, ¬ Anc e a a
def KeepsE (e : Str → Option Str) (rows : List (List Str)) : Prop := ∀ w a b, [w, a, b] ∈ rows → FHold e w a b
def Fits (fo ns : List Str) (rows : List (List Str)) : Prop := ∃ e, Val fo ns e ∧ KeepsE e rows
open Classical in
noncomputable def fitB (fo ns : List Str) (rows : List (List Str)) : Bool := decide (Fits fo ns rows)
theorem fitB_iff {fo ns : List Str} {rows : List (List Str)} : fitB fo ns rows = true ↔ Fits fo ns rows := by
  exact @decide_eq_true_iff (Fits fo ns rows) (Classical.propDecidable _)
theorem fitB_no {fo ns : List Str} {rows : List (List Str)} : fitB fo ns rows = false ↔ ¬ Fits fo ns rows := by
  rw [← fitB_iff]
  cases fitB fo ns rows <;> simp
theorem val_fol {fo ns : List Str} {e : Str → Option Str} (h : Val fo ns e) {a b : Str} (k : Anc e a b) : b ∈ fo := by
  induction k with
  | one h1 => exact (h.1 _ _ h1).2
  | up _ _ ih => exact ih
theorem row_isf {fo th : List Str} {rows : List (List Str)} (fr : FactR fo th rows) {w a b : Str} (h : [w, a, b] ∈ rows) : IsF fo th w a b := by
  obtain ⟨w', a', b', e, i⟩ := fr _ h
  injection e with e1 e
  injection e with e2 e
  injection e with e3 _
  subst e1 e2 e3
  exact i
theorem laid_fits {fo th : List Str} {rows : List (List Str)} {d : Dic} (fr : FactR fo th rows) (la : Laid fo rows (fo ++ th) d) : Fits fo (fo ++ th) rows := by
  refine ⟨look d, laid_treeOk la, fun w a b h => ?_⟩
  have i := row_isf fr h
  exact laid_hold (fact_three fr) la h i.2.1 i.2.2.1 i.2.2.2.1
theorem top_nofits {fo th zs : List Str} {rows : List (List Str)} (fr : FactR fo th rows) (nd : (fo ++ th).Nodup) (l2 : 2 ≤ zs.length) (sub : zs.Sublist (fo ++ th)) (tp : Topless fo rows zs) : ¬ Fits fo (fo ++ th) rows := fun ⟨e, v, k⟩ => by
  refine topless_no (fo := fo) (rows := rows) (ov := e) (zs := zs) v.2 (fun a b h => val_fol v h) (fun w a b h _ _ => k w a b h) (fun w a b h => ?_) (fun w a b h => (row_isf fr h).2.2.2.1) l2 (sub.nodup nd) tp
  have := (row_isf fr h).1
  unfold wordsS at this
  simpa using this
/-- what topless tells -/
def TopV (K : PySem.W.Frag) (H : Hp) (fo th : List Str) (rows : List (List Str)) (v : V) : Prop := (v = .non ∧ fitB fo (fo ++ th) rows = true) ∨
  ∃ t zs, v = .ref t ∧ SqT K H t (zs.map V.str) ∧ 2 ≤ zs.length ∧ zs.Sublist (fo ++ th) ∧ Topless fo rows zs ∧ fitB fo (fo ++ th) rows = false
theorem TopV.ext {K : PySem.W.Frag} {H H' : Hp} {fo th : List Str} {rows : List (List Str)} {v : V} (h : TopV K H fo th rows v) (e : Ext H H') : TopV K H' fo th rows v := h.imp id fun ⟨t, zs, h1, h2, h3⟩ => ⟨t, zs, h1, h2.ext e, h3⟩
theorem topV_of {K : PySem.W.Frag} {CF C a : Addr} {H : Hp} {Q : VK} {E : XK} {fo th : List Str} {rows : List (List Str)} (fac : FacAt H K CF C a fo th rows) (nd : (fo ++ th).Nodup) (len : (fo ++ th).length < 1000) (fr : FactR fo th rows) (rl : rows.length < 1000)
    (q : ∀ v H', Ext H H' → TopV K H' fo th rows v → Q v H') : spTopless K CF C [.ref a] H Q E :=
  ⟨a, fo, th, rows, rfl, fac, nd, len, fr, rl, fun t2 zs H' x s l2 sub tp => q _ H' x (.inr ⟨t2, zs, rfl, s, l2, sub, tp, fitB_no.mpr (top_nofits fr nd l2 sub tp)⟩), fun d H' x la => q _ H' x (.inl ⟨rfl, fitB_iff.mpr (laid_fits fr la)⟩)⟩
/-! ### facts with more -/
def addR (ns : List Str) (rows rs : List (List Str)) : List (List Str) := onceR (rows ++ rs.map (toldR ns))
theorem add_TR {fo th : List Str} (nd : (fo ++ th).Nodup) {rows rs : List (List Str)} (tr : TR fo th rows) (fr : FactR fo th rs) : TR fo th (addR (fo ++ th) rows rs) := TR.sub (rs := rows ++ rs.map (toldR (fo ++ th))) (fun r hr => by
  rcases List.mem_append.mp hr with h | h
  · exact tr r h
  · obtain ⟨x, hx, rfl⟩ := List.mem_map.mp h
    obtain ⟨w, a, b, rfl, isf⟩ := fr x hx
    obtain ⟨c, d, e, i⟩ := told_told' nd isf
    exact ⟨w, c, d, e, i⟩) fun r hr => once_mem hr
theorem add_len (ns : List Str) (rows rs : List (List Str)) : (addR ns rows rs).length ≤ rows.length + rs.length := by
  have := once_len (rows ++ rs.map (toldR ns)) []
  rw [List.length_append, List.length_map, List.length_nil, Nat.zero_add] at this
  exact this
theorem fhold_swap {e : Str → Option Str} {a b : Str} (h : FHold e "line" a b) : FHold e "line" b a := ⟨fun z => absurd z (by decide), fun z => absurd z (by decide), fun z => (h.2.2 z).symm⟩
theorem keeps_told {fo th : List Str} (nd : (fo ++ th).Nodup) {rs : List (List Str)} (fr : FactR fo th rs) (e : Str → Option Str) : KeepsE e (rs.map (toldR (fo ++ th))) ↔ KeepsE e rs := by
  constructor
  · intro k w a b h
    obtain ⟨c, d, et, hcd⟩ := told_three nd (row_isf fr h)
    have m : [w, c, d] ∈ rs.map (toldR (fo ++ th)) := List.mem_map.mpr ⟨_, h, et⟩
    rcases hcd with ⟨rfl, rfl⟩ | ⟨rfl, rfl, rfl⟩
    · exact k _ _ _ m
    · exact fhold_swap (k _ _ _ m)
  · intro k w c d h
    obtain ⟨r, hr, et⟩ := List.mem_map.mp h
    obtain ⟨w', a, b, rfl, isf⟩ := fr r hr
    obtain ⟨c', d', et', hcd⟩ := told_three nd isf
    have e2 : toldS (fo ++ th) w' a b = [w, c, d] := et
    rw [et'] at e2
    injection e2 with e3 e2
    injection e2 with e4 e2
    injection e2 with e5 _
    subst e3 e4 e5
    rcases hcd with ⟨rfl, rfl⟩ | ⟨rfl, rfl, rfl⟩
    · exact k _ _ _ hr
    · exact fhold_swap (k _ _ _ hr)
theorem keeps_app {e : Str → Option Str} {rs ss : List (List Str)} : KeepsE e (rs ++ ss) ↔ KeepsE e rs ∧ KeepsE e ss :=
  ⟨fun k => ⟨fun w a b h => k w a b (List.mem_append_left _ h), fun w a b h => k w a b (List.mem_append_right _ h)⟩, fun k w a b h => (List.mem_append.mp h).elim (k.1 w a b) (k.2 w a b)⟩
theorem keeps_once {e : Str → Option Str} {rs : List (List Str)} : KeepsE e (onceR rs) ↔ KeepsE e rs :=
  ⟨fun k w a b h => k w a b (mem_once.mpr h), fun k w a b h => k w a b (mem_once.mp h)⟩
theorem keeps_add {fo th : List Str} (nd : (fo ++ th).Nodup) {rows rs : List (List Str)} (fr : FactR fo th rs) (e : Str → Option Str) : KeepsE e (addR (fo ++ th) rows rs) ↔ KeepsE e rows ∧ KeepsE e rs := by
  unfold addR
  rw [keeps_once, keeps_app, keeps_told nd fr]
/-- what is against a row -/
def agR (fo th : List Str) (r : List Str) : List (List Str) := match r with
  | [w, a, b] => agF fo th w a b
  | _ => []
theorem agS_mem {fo : List Str} {w c d : Str} {r : List Str} (h : r ∈ agS fo w c d) : (w = "below" ∧ r = [("not" : Str), c, d]) ∨ (w = "not" ∧ r = [("below" : Str), c, d]) ∨ (w ≠ "below" ∧ w ≠ "not" ∧ ((r = [("not" : Str), c, d] ∧ d ∈ fo) ∨ (r = [("not" : Str), d, c] ∧ c ∈ fo))) := by
  unfold agS at h
  by_cases e : w = "below"
  · rw [if_pos e] at h
    exact .inl ⟨e, List.mem_singleton.mp h⟩
  · rw [if_neg e] at h
    by_cases e2 : w = "not"
    · rw [if_pos e2] at h
      exact .inr (.inl ⟨e2, List.mem_singleton.mp h⟩)
    · rw [if_neg e2] at h
      refine .inr (.inr ⟨e, e2, ?_⟩)
      obtain ⟨p, hp, rfl⟩ := List.mem_map.mp h
      obtain ⟨h1, h2⟩ := List.mem_filter.mp hp
      have h2 := of_decide_eq_true h2
      simp only [List.mem_cons, List.not_mem_nil, or_false] at h1
      rcases h1 with rfl | rfl
      · exact .inl ⟨rfl, h2⟩
      · exact .inr ⟨rfl, h2⟩
theorem ag_fact {fo th : List Str} {w a b : Str} (nd : (fo ++ th).Nodup) (h : IsF fo th w a b) : FactR fo th (agF fo th w a b) := by
  obtain ⟨c, d, e, hcd⟩ := told_three nd h
  have isf2 : IsF fo th w c d := by
    rcases hcd with ⟨rfl, rfl⟩ | ⟨rfl, rfl, rfl⟩
    · exact h
    · exact ⟨h.1, h.2.2.1, h.2.1, Ne.symm h.2.2.2.1, .inl rfl⟩
  intro r hr
  unfold agF at hr
  rw [e] at hr
  have hr : r ∈ agS fo w c d := hr
  obtain ⟨i1, i2, i3, i4, i5⟩ := isf2
  rcases agS_mem hr with ⟨rfl, rfl⟩ | ⟨rfl, rfl⟩ | ⟨n1, n2, ⟨rfl, hf⟩ | ⟨rfl, hf⟩⟩
  · exact ⟨_, _, _, rfl, by decide, i2, i3, i4, .inr (i5.resolve_left (by decide))⟩
  · exact ⟨_, _, _, rfl, by decide, i2, i3, i4, .inr (i5.resolve_left (by decide))⟩
  · exact ⟨_, _, _, rfl, by decide, i2, i3, i4, .inr hf⟩
  · exact ⟨_, _, _, rfl, by decide, i3, i2, Ne.symm i4, .inr hf⟩
/-- what is against a fact holds just if the fact does not -/
theorem ag_keeps {fo th : List Str} {w a b : Str} (nd : (fo ++ th).Nodup) (h : IsF fo th w a b) {e : Str → Option Str} (v : Val fo (fo ++ th) e) : KeepsE e (agF fo th w a b) ↔ ¬ FHold e w a b := by
  obtain ⟨c, d, et, hcd⟩ := told_three nd h
  have sw : FHold e w a b ↔ FHold e w c d := by
    rcases hcd with ⟨rfl, rfl⟩ | ⟨rfl, rfl, rfl⟩
    · exact Iff.rfl
    · exact ⟨fhold_swap, fhold_swap⟩
  have isf2 : w ∈ wordsS ∧ (w = "line" ∨ d ∈ fo) := by
    rcases hcd with ⟨rfl, rfl⟩ | ⟨rfl, rfl, rfl⟩
    · exact ⟨h.1, h.2.2.2.2⟩
    · exact ⟨h.1, .inl rfl⟩
  have eag : agF fo th w a b = agS fo w c d := by
    unfold agF
    rw [et]
  rw [sw, eag]
  have hw := isf2.1
  unfold wordsS at hw
  simp only [List.mem_cons, List.not_mem_nil, or_false] at hw
  have nB : ∀ x y, FHold e "not" x y ↔ ¬ Anc e x y := fun x y => ⟨fun k => k.2.1 rfl, fun k => ⟨fun z => absurd z (by decide), fun _ => k, fun z => absurd z (by decide)⟩⟩
  have bB : ∀ x y, FHold e "below" x y ↔ Anc e x y := fun x y => ⟨fun k => k.1 rfl, fun k => ⟨fun _ => k, fun z => absurd z (by decide), fun z => absurd z (by decide)⟩⟩
  have lB : ∀ x y, FHold e "line" x y ↔ (Anc e x y ∨ Anc e y x) := fun x y => ⟨fun k => k.2.2 rfl, fun k => ⟨fun z => absurd z (by decide), fun z => absurd z (by decide), fun _ => k⟩⟩
  rcases hw with rfl | rfl | rfl
  · have : agS fo "below" c d = [[("not" : Str), c, d]] := by unfold agS; rw [if_pos rfl]
    rw [this, bB, ← nB]
    exact ⟨fun k => k _ _ _ (List.mem_singleton.mpr rfl), fun k w a b hm => by
      rw [List.mem_singleton] at hm
      injection hm with h1 hm
      injection hm with h2 hm
      injection hm with h3 _
      subst h1 h2 h3
      exact k⟩
  · have : agS fo "not" c d = [[("below" : Str), c, d]] := by unfold agS; rw [if_neg (by decide), if_pos rfl]
    rw [this, nB]
    constructor
    · intro k hn
      exact hn ((bB c d).mp (k _ _ _ (List.mem_singleton.mpr rfl)))
    · intro k w a b hm
      rw [List.mem_singleton] at hm
      injection hm with h1 hm
      injection hm with h2 hm
      injection hm with h3 _
      subst h1 h2 h3
      exact (bB _ _).mpr (Classical.byContradiction k)
  · rw [lB]
    constructor
    · intro k hn
      rcases hn with hn | hn
      · have hf := val_fol v hn
        have m : [("not" : Str), c, d] ∈ agS fo "line" c d := by
          unfold agS
          rw [if_neg (by decide), if_neg (by decide)]
          exact List.mem_map.mpr ⟨(c, d), List.mem_filter.mpr ⟨by simp, decide_eq_true hf⟩, rfl⟩
        exact (nB c d).mp (k _ _ _ m) hn
      · have hf := val_fol v hn
        have m : [("not" : Str), d, c] ∈ agS fo "line" c d := by
          unfold agS
          rw [if_neg (by decide), if_neg (by decide)]
          exact List.mem_map.mpr ⟨(d, c), List.mem_filter.mpr ⟨by simp, decide_eq_true hf⟩, rfl⟩
        exact (nB d c).mp (k _ _ _ m) hn
    · intro k w a b hm
      rcases agS_mem hm with ⟨z, _⟩ | ⟨z, _⟩ | ⟨_, _, ⟨hm, _⟩ | ⟨hm, _⟩⟩
      · exact absurd z (by decide)
      · exact absurd z (by decide)
      · injection hm with h1 hm
        injection hm with h2 hm
        injection hm with h3 _
        subst h1 h2 h3
        exact (nB _ _).mpr fun z => k (.inl z)
      · injection hm with h1 hm
        injection hm with h2 hm
        injection hm with h3 _
        subst h1 h2 h3
        exact (nB _ _).mpr fun z => k (.inr z)
/-- the word for what is told if one of some holds, or none -/
noncomputable def wordR (fo ns : List Str) (rss : List (List (List Str))) (rn : List (List Str)) : Str := if fitB fo ns rn = true then (if rss.any (fitB fo ns) = true then "open" else "never") else "sure"
end My

namespace My
open PySem PySem.Spec PyProof.Rows L2
theorem onceR_sub {rs : List (List Str)} : ∀ r, r ∈ onceR rs → r ∈ rs := fun r h => once_mem h
theorem fold_has : ∀ (rs acc : List (List Str)) (r : List Str), r ∈ acc ∨ r ∈ rs → r ∈ rs.foldl (fun acc r => if r ∈ acc then acc else acc ++ [r]) acc
  | [], _, _, h => h.resolve_right fun z => by cases z
  | x :: rs, acc, r, h => by
    refine fold_has rs _ r ?_
    show r ∈ (if x ∈ acc then acc else acc ++ [x]) ∨ r ∈ rs
    rcases h with h | h
    · refine .inl ?_
      split
      · exact h
      · exact List.mem_append_left _ h
    · rcases List.mem_cons.mp h with rfl | h
      · refine .inl ?_
        split
        · assumption
        · exact List.mem_append_right _ List.mem_cons_self
      · exact .inr h
/-- adding what is told once is adding what is told -/
theorem fold_once (acc : List (List Str)) : ∀ rs : List (List Str), (onceR rs).foldl (fun acc r => if r ∈ acc then acc else acc ++ [r]) acc = rs.foldl (fun acc r => if r ∈ acc then acc else acc ++ [r]) acc := fun rs => by
  obtain ⟨n, hn⟩ : ∃ n, n = rs.length := ⟨_, rfl⟩
  induction n generalizing rs with
  | zero =>
    have e : rs = [] := List.length_eq_zero_iff.mp hn.symm
    rw [e]
    rfl
  | succ n ih =>
    have ne : rs ≠ [] := fun e => by rw [e] at hn; cases hn
    obtain ⟨ys, y, rfl⟩ : ∃ ys y, rs = ys ++ [y] := ⟨rs.dropLast, rs.getLast ne, (List.dropLast_concat_getLast ne).symm⟩
    have hy : n = ys.length := by
      rw [List.length_append, List.length_singleton] at hn
      omega
    have ihy := ih ys hy
    rw [once_snoc, List.foldl_append]
    split
    · rename_i hm
      rw [ihy]
      show _ = (if y ∈ _ then _ else _)
      rw [if_pos (fold_has ys acc y (.inr (once_mem hm)))]
    · rw [List.foldl_append, ihy]
theorem once_app (a b : List (List Str)) : onceR (a ++ onceR b) = onceR (a ++ b) := by
  unfold onceR
  rw [List.foldl_append, List.foldl_append]
  exact fold_once _ b
theorem once_left (a b : List (List Str)) : onceR (onceR a ++ b) = onceR (a ++ b) := by
  show (onceR a ++ b).foldl _ [] = (a ++ b).foldl _ []
  rw [List.foldl_append, List.foldl_append]
  have e : (onceR a).foldl (fun acc r => if r ∈ acc then acc else acc ++ [r]) [] = a.foldl (fun acc r => if r ∈ acc then acc else acc ++ [r]) [] := fold_once [] a
  rw [e]
theorem TR.once {fo th : List Str} {rs : List (List Str)} (h : TR fo th rs) : TR fo th (onceR rs) := h.sub fun _ => once_mem
theorem TR.app {fo th : List Str} {rs ss : List (List Str)} (h : TR fo th rs) (g : TR fo th ss) : TR fo th (rs ++ ss) := fun r hr => (List.mem_append.mp hr).elim (h r) (g r)
theorem once_nodup' : ∀ rs acc : List (List Str), acc.Nodup → (rs.foldl (fun acc r => if r ∈ acc then acc else acc ++ [r]) acc).Nodup
  | [], _, h => h
  | r :: rs, acc, h => by
    rw [List.foldl_cons]
    refine once_nodup' rs _ ?_
    split
    · exact h
    · rename_i n
      exact List.nodup_append.mpr ⟨h, (by simp : [r].Nodup), fun a ha b hb e => n (by rw [List.mem_singleton.mp hb] at e; rw [← e]; exact ha)⟩
theorem told_told {fo th : List Str} (nd : (fo ++ th).Nodup) {w a b : Str} (h : IsF fo th w a b) : ∃ c d, toldS (fo ++ th) w a b = [w, c, d] ∧ IsT fo th w c d := by
  obtain ⟨c, d, e, hcd⟩ := told_three nd h
  rcases hcd with ⟨rfl, rfl⟩ | ⟨rfl, rfl, rfl⟩
  · exact ⟨_, _, e, h, e⟩
  · refine ⟨_, _, e, ⟨h.1, h.2.2.1, h.2.1, Ne.symm h.2.2.2.1, .inl rfl⟩, ?_⟩
    rw [← e]
    unfold toldS
    rw [if_pos rfl, if_pos rfl]
    congr 1
    unfold ordS
    refine List.filter_congr fun n _ => ?_
    rw [Bool.or_comm]
/-- what is told of facts is told so -/
theorem told_TR {fo th : List Str} (nd : (fo ++ th).Nodup) {rs : List (List Str)} (h : FactR fo th rs) : TR fo th (rs.map (toldR (fo ++ th))) := fun r hr => by
  obtain ⟨x, hx, rfl⟩ := List.mem_map.mp hr
  obtain ⟨w, a, b, rfl, isf⟩ := h x hx
  obtain ⟨c, d, e, i⟩ := told_told nd isf
  exact ⟨w, c, d, e, i⟩
def spFAdd (K : PySem.W.Frag) (CF C CB : Addr) : Sp := fun vs H Q E => ∃ a y fo th rows, vs = [.ref a, y] ∧ FacAt H K CF C a fo th rows ∧ TR fo th rows ∧ rows.length < 500 ∧ (fo ++ th).Nodup ∧ (fo ++ th).length < sizeLine ∧ (∀ z, z ∈ fo ++ th → PyData.strOk z = true) ∧
  ((∃ i : Nat, Passed K H fo th y (some i) ∧ ∀ d H', Ext H H' → H d = none → H' d = some (.xd [(("index" : Str), V.int (i : Nat))]) → E (.ref CB) (some d) H') ∨
   ∃ p xs rs, y = .ref p ∧ SeqAt2 K H p xs ∧ Raws K H xs rs ∧ FactR fo th rs ∧ rs.length < 400 ∧ ∀ b H', Ext H H' → H b = none → FacAt H' K CF C b fo th (onceR (rows ++ rs.map (toldR (fo ++ th)))) → Q (.ref b) H')
abbrev nm_Facts_add : List Str := ["self", "other", "more"]
theorem sc_Facts_add : FnScope nm_Facts_add ["self", "other"] (defScope s_Facts_add) := ⟨rfl, rfl, rfl, by decide +kernel, rfl, by decide +kernel, by decide +kernel⟩
section
variable {P : Program} {w : World} {K : PySem.W.Frag} {mg : Str → Option Value} {base : Heap} {f C CB CF CI : Addr} {fd : FuncData}
theorem ok_fAdd (Fn : FunD K "__add__" "Facts.__add__" (defArgs s_Facts_add) (defBody s_Facts_add) (defScope s_Facts_add) [] [] f fd) (F : FacTxt P w K mg CF C CB) :
    FnOk P w K mg base (L2.CX P w) 9 f fd ["self", "other"] (spFAdd K CF C CB) := by
  refine Fn.ok sc_Facts_add (fun vs H Q E h => ?_) (fun cdv A outer s H vs Q E hr h => ⟨_,
    (pss_cons (ps_set (i := 2) sc_Facts_add.nd rfl (Or.inl rfl) (pe_makeS F.M (F.I _) hr (by rfl) F.gF F.bI .nil (passAt (takes_of rfl rfl rfl rfl)) (pa_cons (pe_fld (pv 0) rfl) (pa_cons (pv 1) pa_nil))))
      (pss_one (ps_ret (pe_makeS F.M (F.I _) hr (by rfl) F.gF F.bI .nil (passAt (takes_of rfl rfl rfl rfl)) (pa_cons (pe_fld (pv 0) rfl) (pa_cons (pe_lst (StX.pa_star (pe_fld (pv 0) rfl) (StX.pa_star (pe_fld (pv 2) rfl) pa_nil))) pa_nil)))))), ?_⟩)
  · obtain ⟨a, y, fo, th, rows, rfl, _⟩ := h
    rfl
  · obtain ⟨a, y, fo, th, rows, rfl, fa, tr, rlen, nd, hz, zok, hh⟩ := h
    obtain ⟨dx, fs, hh', r, ys, h1, h2, h3, h4, h5, h6, h7, h8⟩ := id fa
    refine ⟨_, rfl, a, CF, dx, fs, _, rfl, h1, F.T.cl, F.T.nh, h2, _, rfl, ?_⟩
    intro b db hb hdb neb
    rcases hh with ⟨i, hp, qE⟩ | ⟨p, xs, rs, rfl, sq, raw, fr, len, qN⟩
    · have xn : Ext H (L2.upd (L2.upd H db (.own b)) b (.ins CF db [])) := fun c u k => by
        rw [upd_ne (ne_of_none k hb), upd_ne (ne_of_none k hdb)]
        exact k
      obtain ⟨hx, hfs, hins⟩ := h4.ins
      refine ⟨b, db, hh', y, fo, th, rfl, upd_same, ne_of_none hins hb, h4.ext xn, nd, hz, zok, .inl ⟨i, hp.ext xn, fun d H' x' hd hd' => ?_⟩⟩
      exact qE d H' (xn.trans x') (ext_none xn hd) hd'
    · refine mkF h4 nd hz zok sq raw fr (by omega) hb hdb neb fun H1 x1 fb => ?_
      have tr2 := told_TR nd fr
      obtain ⟨ms, hms⟩ : ∃ ms, ms = onceR (rs.map (toldR (fo ++ th))) := ⟨_, rfl⟩
      rw [← hms] at fb
      have trm : TR fo th ms := by rw [hms]; exact tr2.once
      have mlen : ms.length ≤ rs.length := by
        rw [hms]
        have := once_len (rs.map (toldR (fo ++ th))) []
        rw [List.length_map, List.length_nil, Nat.zero_add] at this
        exact this
      obtain ⟨dx2, fs2, hh2, r2, ys2, k1, k2, k3, k4, k5, k6, k7, k8⟩ := id fb
      have l1 : ys.length = rows.length := h6.len
      have l2 : ys2.length = ms.length := k6.len
      refine ⟨_, rfl, a, CF, dx, fs, _, rfl, x1 _ _ h1, F.T.cl, F.T.nh, h2, _, rfl, a, CF, dx, fs, _, rfl, x1 _ _ h1, F.T.cl, F.T.nr, h3, r, ys, rfl, .inl (h5.ext x1), _, rfl, b, CF, dx2, fs2, _, rfl, k1, F.T.cl, F.T.nr, k3, r2, ys2, rfl, .inl k5, by rw [List.length_append, List.append_nil, l1, l2, sizeLine_eq]; omega, fun D hD => ?_⟩
      have xD := Ext.upd (o := .lst (ys ++ (ys2 ++ []))) hD
      intro b2 db2 hb2 hdb2 neb2
      have raws2 := (Rows.app ((h6.ext x1).ext xD) (k6.ext xD)).raws
      refine mkF (h4.ext (x1.trans xD)) nd hz zok (.inl (SqL.of (xs := ys ++ ys2) (by rw [upd_same, List.append_nil]))) raws2 (tr.app trm).fact (by rw [List.length_append]; omega) hb2 hdb2 neb2 fun H3 x3 fb2 => ?_
      rw [(tr.app trm).told, hms, once_app] at fb2
      exact qN b2 H3 (x1.trans (xD.trans x3)) (ext_none (x1.trans xD) hb2) fb2
end
end My

namespace My
open PySem PySem.Spec PyProof.Rows L2
def spAgainst (K : PySem.W.Frag) (C CF : Addr) : Sp := fun vs H Q E => ∃ h x fo th, vs = [.ref h, x] ∧ Hou H K C h fo th ∧ (fo ++ th).Nodup ∧ (fo ++ th).length < sizeLine ∧
  ((FactOf K H fo th x false ∧ ∀ d H', Ext H H' → H d = none → H' d = some (.xd [(("index" : Str), V.int 0)]) → E (.ref CF) (some d) H') ∨
  (∃ r w a b, x = .ref r ∧ SeqAt2 K H r [.str w, .str a, .str b] ∧ IsF fo th w a b ∧ ∀ l H', Ext H H' → H l = none → RowsAt K H' l (agF fo th w a b) → Q (.ref l) H'))
abbrev nm_against : List Str := ["house", "fact", "word", "one", "other", "node", "folder"]
theorem sc_against : FnScope nm_against ["house", "fact"] (defScope s_against) := ⟨rfl, rfl, rfl, by decide +kernel, rfl, by decide +kernel, by decide +kernel⟩
section
variable {P : Program} {w : World} {K : PySem.W.Frag} {mg : Str → Option Value} {base : Heap} {f C CB CF : Addr} {fd : FuncData}
theorem ok_against (Fn : FnP K "against" s_against f fd) (Z : HouseTxt P w K mg C CB) (EB : Er P w K mg base "BadFact" "index" CF) (his_fact : Has P w K mg base 5 "is_fact" ["house", "thing"] (spIsFact K C)) (has_told : Has P w K mg base 1 "as_told" ["house", "fact"] (spAsTold K C)) :
    FnOk P w K mg base (L2.CX P w) 6 f fd ["house", "fact"] (spAgainst K C CF) := by
  obtain ⟨fI, fdI, TB, FB, bB, _⟩ := EB
  refine Fn.ok sc_against (fun vs H Q E h => ?_) (fun cdv A outer s H vs Q E hr h => ⟨_,
    (pss_cons (ps_if (pt_not (pt_val (pe_has his_fact (hr.mono (by decide)) (pa_cons (pv 0) (pa_cons (pv 1) pa_nil))))) (pss_one (ps_raise rfl (takes_of rfl rfl rfl rfl) (pmk_oex TB.oex TB.iC TB.tI FB (hr.mono (by decide)) bB .nil pass0 (by rfl) TB.gl (pa_cons pe_int pa_nil)))) pss_nil)
      (pss_cons (ps_asg (pe_has has_told (hr.mono (by decide)) (pa_cons (pv 0) (pa_cons (pv 1) pa_nil))) (pg_tup rfl (pgs_cons (pg_name (i := 2) sc_against.nd rfl (Or.inl rfl)) (pgs_cons (pg_name (i := 3) sc_against.nd rfl (Or.inl rfl)) (pgs_cons (pg_name (i := 4) sc_against.nd rfl (Or.inl rfl)) pgs_nil)))))
      (pss_cons (ps_if (pt_cmpR op_eq (pv 2) pe_str (nomark _)) (pss_one (ps_ret (pe_lst (pa_cons (pe_tup (pa_cons pe_str (pa_cons (pv 3) (pa_cons (pv 4) pa_nil)))) pa_nil)))) pss_nil)
      (pss_cons (ps_if (pt_cmpR op_eq (pv 2) pe_str (nomark _)) (pss_one (ps_ret (pe_lst (pa_cons (pe_tup (pa_cons pe_str (pa_cons (pv 3) (pa_cons (pv 4) pa_nil)))) pa_nil)))) pss_nil)
      (pss_one (ps_ret (pe_lc (own := [("node", 5), ("folder", 6)]) (g := (gTup K 2 (gCons (gName 5) (gCons (gName 6) gNil)))) rfl sc_against.nd (pi_tup (pe_tup (pa_cons (pe_tup (pa_cons (pv 3) (pa_cons (pv 4) pa_nil))) (pa_cons (pe_tup (pa_cons (pv 4) (pa_cons (pv 3) pa_nil))) pa_nil)))) (blkOk_by (N := nm_against) (sc := defScope s_against) (by decide +kernel)) (fun _ _ _ _ _ => (pg_tup rfl (pgs_cons (pg_name (i := 5) sc_against.nd rfl (Or.inl rfl)) (pgs_cons (pg_name (i := 6) sc_against.nd rfl (Or.inl rfl)) pgs_nil)))) (fun _ _ _ _ _ => pts_one (pt_cmpR (opK (r := fun K => rIn K false) (K := K) rfl op_in_seq) (pv 6) (peK (r := fun K => tFld K (tVar 0) "folders") (K := K) rfl (pe_fld (pv 0) rfl)) (by rfl))) (fun _ _ _ _ _ => (pe_tup (pa_cons pe_str (pa_cons (pv 5) (pa_cons (pv 6) pa_nil)))))))))))), ?_⟩)
  · obtain ⟨h, x, fo, th, rfl, _⟩ := h
    rfl
  · obtain ⟨ho, x, fo, th, rfl, hou, nd, hz, hh⟩ := h
    rcases hh with ⟨hf, qE⟩ | ⟨r, wd, a1, a2, rfl, sq, isf, qN⟩
    · refine ⟨_, rfl, _, rfl, ho, x, fo, th, false, rfl, hou, hf, fun H1 x1 => ?_⟩
      refine ⟨false, rfl, ?_⟩
      refine ⟨Nat.le_of_ble_eq_true rfl, fun e he => ?_⟩
      refine ⟨e, _, rfl, upd_same, fun d hd ne => ⟨rfl, d, [("index", .int 0)], upd_same, ?_, ?_, ?_⟩⟩
      · rw [upd_ne ne, upd_same]
      · rw [upd_ne ne] at hd
        exact hd
      · rw [upd_ne ne] at hd
        refine qE d _ (fun b u k => ?_) ?_ upd_same
        · have k1 := x1 b u k
          rw [upd_ne (ne_of_none k1 hd), del_ne (ne_of_none k1 he), upd_ne (ne_of_none k1 he), upd_ne (ne_of_none k1 hd), upd_ne (ne_of_none k1 he)]
          exact k1
        · cases hh : H d with
          | none => rfl
          | some u => exact absurd (x1 d u hh) (by rw [hd]; exact fun z => nomatch z)
    · refine ⟨_, rfl, _, rfl, ho, _, fo, th, true, rfl, hou, .inr (.inr ⟨r, _, _, _, rfl, sq, .inl rfl, .inl rfl, .inl rfl, (is_fact isf).symm⟩), fun H1 x1 => ?_⟩
      refine ⟨true, rfl, ?_⟩
      have hou1 := hou.ext x1
      refine ⟨_, rfl, _, rfl, ho, r, fo, th, wd, a1, a2, rfl, hou1, nd, hz, isf, sq.ext x1, fun t H2 x2 ht => ?_⟩
      obtain ⟨c, d, et, hcd⟩ := told_three nd isf
      rw [et] at ht
      have x02 : Ext H H2 := x1.trans x2
      refine ⟨t, _, rfl, SqT.of ht, rfl, _, _, rfl, _, _, rfl, _, _, rfl, rfl, ?_⟩
      have q2 : ∀ l H', Ext H H' → H l = none → RowsAt K H' l (agS fo wd c d) → Q (.ref l) H' := fun l H' x n rr => qN l H' x n (by
        unfold agF
        rw [et]
        exact rr)
      have noneH : ∀ p, H2 p = none → H p = none := fun p hp => by
        cases hh : H p with
        | none => rfl
        | some u => exact absurd (x02 p u hh) (by rw [hp]; exact fun z => nomatch z)
      refine ⟨_, rfl, rfl, _, rfl, ?_⟩
      have one : ∀ nw : Str, (∀ l H', Ext H H' → H l = none → RowsAt K H' l [[nw, c, d]] → Q (.ref l) H') → ∀ p, H2 p = none → ∀ l, upd H2 p (.tup [.str nw, .str c, .str d]) l = none → Q (.ref l) (upd (upd H2 p (.tup [.str nw, .str c, .str d])) l (.lst [.ref p])) := fun nw q p hp l hl => by
        have xp := Ext.upd (o := .tup [.str nw, .str c, .str d]) hp
        have xl := Ext.upd (o := .lst [.ref p]) hl
        refine q l _ (x02.trans (xp.trans xl)) ?_ ⟨_, upd_same, ⟨p, rfl, (SqT.of (K := K) (xs := [.str nw, .str c, .str d]) (by rw [upd_same])).ext xl⟩, True.intro⟩
        exact noneH l (by
          have : l ≠ p := fun e => by rw [e, upd_same] at hl; cases hl
          rw [upd_ne this] at hl
          exact hl)
      refine ite2 (fun e => ?_) fun e => ?_
      · have e' : wd = "below" := by
          have z := of_decide_eq_true e
          injection z
        unfold agS at q2
        rw [if_pos e'] at q2
        refine ⟨_, rfl, _, rfl, Nat.le_of_ble_eq_true rfl, fun p hp => ⟨Nat.le_of_ble_eq_true rfl, fun l hl => one "not" q2 p hp l hl⟩⟩
      have e' : wd ≠ "below" := fun z => e (decide_eq_true (by rw [z]))
      refine ⟨_, rfl, rfl, _, rfl, ?_⟩
      refine ite2 (fun e2 => ?_) fun e2 => ?_
      · have e2' : wd = "not" := by
          have z := of_decide_eq_true e2
          injection z
        unfold agS at q2
        rw [if_neg e', if_pos e2'] at q2
        refine ⟨_, rfl, _, rfl, Nat.le_of_ble_eq_true rfl, fun p hp => ⟨Nat.le_of_ble_eq_true rfl, fun l hl => one "below" q2 p hp l hl⟩⟩
      have e2' : wd ≠ "not" := fun z => e2 (decide_eq_true (by rw [z]))
      unfold agS at q2
      rw [if_neg e', if_neg e2'] at q2
      refine ⟨_, rfl, _, rfl, Nat.le_of_ble_eq_true rfl, fun p1 hp1 => ⟨_, rfl, _, rfl, Nat.le_of_ble_eq_true rfl, fun p2 hp2 => ⟨Nat.le_of_ble_eq_true rfl, fun p3 hp3 => ?_⟩⟩⟩
      have y1 := Ext.upd (o := .tup [.str c, .str d]) hp1
      have y2 := Ext.upd (o := .tup [.str d, .str c]) hp2
      have y3 := Ext.upd (o := .tup [.ref p1, .ref p2]) hp3
      obtain ⟨H3, hH3⟩ : ∃ H3, H3 = upd (upd (upd H2 p1 (.tup [.str c, .str d])) p2 (.tup [.str d, .str c])) p3 (.tup [.ref p1, .ref p2]) := ⟨_, rfl⟩
      have x23 : Ext H2 H3 := by
        rw [hH3]
        exact y1.trans (y2.trans y3)
      have s1 : SqT K H3 p1 [.str c, .str d] := by
        rw [hH3]
        exact (SqT.of upd_same).ext (y2.trans y3)
      have s2 : SqT K H3 p2 [.str d, .str c] := by
        rw [hH3]
        exact (SqT.of upd_same).ext y3
      have s3 : SqT K H3 p3 [.ref p1, .ref p2] := by
        rw [hH3]
        exact SqT.of upd_same
      rw [← hH3]
      refine ⟨p3, rfl, ⟨_, s3⟩, fun D hD => ?_⟩
      have hou3 := hou1.ext (x2.trans x23)
      refine lc_tup (K := K) (a := p3) (xs := [.ref p1, .ref p2]) (fun i H' => Ext H3 H' ∧ ∃ acc, H' D = some (.lst acc) ∧ acc.length ≤ i ∧ Rows K H' acc (((([(c, d), (d, c)] : List (Str × Str)).take i).filter fun p => decide (p.2 ∈ fo)).map fun p => ["not", p.1, p.2])) ⟨Ext.upd hD, [], upd_same, Nat.zero_le _, True.intro⟩ (fun i H' _ p => s3.ext p.1) ?_ ?_
      · intro i v H4 hv ⟨x4, acc, l4, len4, r4⟩
        obtain ⟨u1, u2, pp, sp, rfl, tk⟩ : ∃ (u1 u2 : Str) (pp : Addr), SqT K H4 pp [.str u1, .str u2] ∧ v = .ref pp ∧ ([(c, d), (d, c)] : List (Str × Str)).take (i + 1) = ([(c, d), (d, c)] : List (Str × Str)).take i ++ [(u1, u2)] := by
          match i, hv with
          | 0, hv => exact ⟨c, d, p1, s1.ext x4, by injection hv with hv; exact hv.symm, rfl⟩
          | 1, hv => exact ⟨d, c, p2, s2.ext x4, by injection hv with hv; exact hv.symm, rfl⟩
          | i + 2, hv => cases hv
        have i2 : i < 2 := (List.getElem?_eq_some_iff.mp hv).1
        refine ⟨pp, _, rfl, sp, rfl, _, _, rfl, _, _, rfl, rfl, rfl, _, rfl, ?_⟩
        obtain ⟨⟨dx, fs, f, t, n, h1, h2, h3, h4, h5, h6, h7⟩, ok1, ok2⟩ := hou3
        refine ⟨_, rfl, ho, C, dx, fs, _, rfl, x4 _ _ h1, Z.T.cl, Z.T.nf, h2, f, _, rfl, .inr (h5.ext x4), rfl, flat_strs _, _, rfl, ?_⟩
        rw [if_neg Bool.false_ne_true, inV_str]
        rw [tk]
        refine ite2 (fun e => ?_) fun e => ?_
        · refine ⟨_, rfl, _, rfl, Nat.le_of_ble_eq_true rfl, fun T hT => ⟨acc, Ext.upd hT _ _ l4, ?_, ?_⟩⟩
          · rw [sizeLine_eq]; omega
          · refine ⟨(x4.upd' hT).over hD, _, upd_same, by rw [List.length_append]; exact Nat.succ_le_succ len4, ?_⟩
            rw [List.filter_append, List.map_append]
            refine Rows.app (Rows.upd (Ext.upd hT _ _ l4) (r4.ext (Ext.upd hT))) ?_
            rw [List.filter_cons, if_pos (show decide ((u1, u2).2 ∈ fo) = true from e)]
            exact ⟨⟨T, rfl, sqT_upd (SqT.of upd_same) (Ext.upd hT _ _ l4)⟩, True.intro⟩
        · refine ⟨x4, acc, l4, Nat.le_succ_of_le len4, ?_⟩
          rw [List.filter_append, List.filter_cons, if_neg (show ¬ decide ((u1, u2).2 ∈ fo) = true from e), List.filter_nil, List.append_nil]
          exact r4
      · intro H4 ⟨x4, acc, l4, _, r4⟩
        refine q2 D H4 (x02.trans (x23.trans x4)) (noneH D ?_) ⟨acc, l4, r4⟩
        cases hh : H2 D with
        | none => rfl
        | some u => exact absurd (x23 D u hh) (by rw [hD]; exact fun z => nomatch z)
end
end My

/-! [e for a in xs for b in ys] over lists -/
namespace L2
open PySem PySem.Spec PyProof.Rows
/-- the inner walk of a comprehension with two for -/
def InW (J1 : It) (g1 : TG) (tt1 : TT) (te : TE) (vs1 : List Nat) (D : Addr) (σ2 : St) (Nx : Hp → Prop) (H4 : Hp) : Prop :=
  ∃ W1 : Nat → Nat → Hp → Prop, (∃ m, W1 0 m H4) ∧ ∀ j k H, W1 j k H →
    (J1.stop j H ∧ Nx H) ∨ (J1.go j H ∧ ∃ Nx1 : Hp → Prop, (∀ H', Nx1 H' → ∃ k', k' < k ∧ W1 (j + 1) k' H') ∧ ∀ x H', J1.yld j H x H' → g1 x (wipe σ2 vs1) H' fun σ3 H5 => wipe σ3 vs1 = wipe σ2 vs1 ∧ tt1 σ3 H5 fun b H6 =>
      if b = true then te σ3 H6 fun y H7 => ∃ acc, H7 D = some (.lst acc) ∧ acc.length < sizeLine ∧ Nx1 (upd H7 D (.lst (acc ++ [y]))) else Nx1 H6)
theorem inw_it {J1 : It} {n : Nat} {G : Hp → Prop} {Y : Nat → Hp → V → Hp → Prop} (w : Walk J1 n G Y) {g1 : TG} {tt1 : TT} {te : TE} {vs1 : List Nat} {D : Addr} {σ2 : St} {Nx : Hp → Prop} {H4 : Hp} (Pw : Nat → Hp → Prop) (h0 : Pw 0 H4) (hG : ∀ i H, i ≤ n → Pw i H → G H)
    (hs : ∀ j x H H', j < n → Pw j H → Y j H x H' → g1 x (wipe σ2 vs1) H' fun σ3 H5 => wipe σ3 vs1 = wipe σ2 vs1 ∧ tt1 σ3 H5 fun b H6 =>
      if b = true then te σ3 H6 fun y H7 => ∃ acc, H7 D = some (.lst acc) ∧ acc.length < sizeLine ∧ Pw (j + 1) (upd H7 D (.lst (acc ++ [y]))) else Pw (j + 1) H6) (hd : ∀ H, Pw n H → Nx H) : InW J1 g1 tt1 te vs1 D σ2 Nx H4 := by
  refine ⟨fun i m H => m = n - i ∧ i ≤ n ∧ Pw i H, ⟨n, by simp, Nat.zero_le _, h0⟩, ?_⟩
  rintro i m H ⟨rfl, hi, p⟩
  have q := hG i H hi p
  by_cases hlt : i < n
  · refine .inr ⟨w.goes i H hlt q, Pw (i + 1), fun H' p' => ⟨n - (i + 1), by omega, rfl, hlt, p'⟩, fun x H' y => hs i x H H' hlt p (w.yields i H x H' hlt q y)⟩
  · have e : i = n := by omega
    subst e
    exact .inl ⟨w.stops H q, hd H p⟩
theorem lc2_it {J : It} {n : Nat} {G : Hp → Prop} {Y : Nat → Hp → V → Hp → Prop} (w : Walk J n G Y) {g : TG} {tt : TT} {wi1 : TI} {g1 : TG} {tt1 : TT} {te : TE} {vs vs1 : List Nat} {σ : St} {H1 : Hp} {D : Addr} {Qd : Hp → Prop} (Pv : Nat → Hp → Prop) (h0 : Pv 0 (upd H1 D (.lst []))) (hG : ∀ i H, i ≤ n → Pv i H → G H)
    (hs : ∀ i x H H', i < n → Pv i H → Y i H x H' → g x (wipe σ vs) H' fun σ2 H2 => wipe σ2 vs = wipe σ vs ∧ tt σ2 H2 fun b H3 => if b = true then wi1 σ2 H3 fun J1 H4 => InW J1 g1 tt1 te vs1 D σ2 (Pv (i + 1)) H4 else Pv (i + 1) H3) (hd : ∀ H, Pv n H → Qd H) :
    ∃ W : Nat → Nat → Hp → Prop, (∃ m, W 0 m (upd H1 D (.lst []))) ∧ ∀ i m H, W i m H →
      (J.stop i H ∧ Qd H) ∨ (J.go i H ∧ ∃ Nx : Hp → Prop, (∀ H', Nx H' → ∃ m', m' < m ∧ W (i + 1) m' H') ∧ ∀ x H', J.yld i H x H' → g x (wipe σ vs) H' fun σ2 H2 => wipe σ2 vs = wipe σ vs ∧ tt σ2 H2 fun b H3 =>
        if b = true then wi1 σ2 H3 fun J1 H4 => ∃ W1 : Nat → Nat → Hp → Prop, (∃ m, W1 0 m H4) ∧ ∀ j k H, W1 j k H →
          (J1.stop j H ∧ Nx H) ∨ (J1.go j H ∧ ∃ Nx1 : Hp → Prop, (∀ H', Nx1 H' → ∃ k', k' < k ∧ W1 (j + 1) k' H') ∧ ∀ x H', J1.yld j H x H' → g1 x (wipe σ2 vs1) H' fun σ3 H5 => wipe σ3 vs1 = wipe σ2 vs1 ∧ tt1 σ3 H5 fun b H6 =>
            if b = true then te σ3 H6 fun y H7 => ∃ acc, H7 D = some (.lst acc) ∧ acc.length < sizeLine ∧ Nx1 (upd H7 D (.lst (acc ++ [y]))) else Nx1 H6)
        else Nx H3) := by
  refine ⟨fun i m H => m = n - i ∧ i ≤ n ∧ Pv i H, ⟨n, by simp, Nat.zero_le _, h0⟩, ?_⟩
  rintro i m H ⟨rfl, hi, p⟩
  have q := hG i H hi p
  by_cases hlt : i < n
  · refine .inr ⟨w.goes i H hlt q, Pv (i + 1), fun H' p' => ⟨n - (i + 1), by omega, rfl, hlt, p'⟩, fun x H' y => hs i x H H' hlt p (w.yields i H x H' hlt q y)⟩
  · have e : i = n := by omega
    subst e
    exact .inl ⟨w.stops H q, hd H p⟩
end L2

namespace My
open PySem PySem.Spec PyProof.Rows L2
/-- + of facts -/
structure AddTxt (P : Program) (w : World) (K : PySem.W.Frag) (mg : Str → Option Value) (CF C CE : Addr) where
  fA : Addr
  fdA : FuncData
  mA : AddM K CF fA
  A : ∀ base, FnOk P w K mg base (L2.CX P w) 9 fA fdA ["self", "other"] (spFAdd K CF C CE)
  bA : Binds K fdA ["self", "other"] []
  add : ∀ T, T ∈ ["NoneType", "list", "tuple", "int", "str"] → PySem.W.AddT K CF "add" (.type T)
/-- the things of a list are such facts -/
def FacsAt (H : Hp) (K : PySem.W.Frag) (CF C : Addr) (fo th : List Str) : List V → List (List (List Str)) → Prop
  | [], [] => True
  | x :: xs, r :: rss => (∃ a, x = .ref a ∧ FacAt H K CF C a fo th r) ∧ FacsAt H K CF C fo th xs rss
  | _, _ => False
section
variable {K : PySem.W.Frag} {CF C : Addr} {fo th : List Str}
theorem FacsAt.ext {H H' : Hp} (e : Ext H H') : ∀ {xs : List V} {rss : List (List (List Str))}, FacsAt H K CF C fo th xs rss → FacsAt H' K CF C fo th xs rss
  | [], [], _ => True.intro
  | _ :: _, _ :: _, ⟨⟨a, h1, h2⟩, h⟩ => ⟨⟨a, h1, h2.ext e⟩, FacsAt.ext e h⟩
  | [], _ :: _, h => h.elim
  | _ :: _, [], h => h.elim
theorem FacsAt.len {H : Hp} : ∀ {xs : List V} {rss : List (List (List Str))}, FacsAt H K CF C fo th xs rss → xs.length = rss.length
  | [], [], _ => rfl
  | _ :: _, _ :: _, h => congrArg (· + 1) (FacsAt.len h.2)
  | [], _ :: _, h => h.elim
  | _ :: _, [], h => h.elim
theorem FacsAt.at_ {H : Hp} : ∀ {xs : List V} {rss : List (List (List Str))} {i : Nat} {x : V}, FacsAt H K CF C fo th xs rss → xs[i]? = some x → ∃ a r, x = .ref a ∧ FacAt H K CF C a fo th r ∧ rss[i]? = some r
  | _ :: _, r :: _, 0, x, ⟨⟨a, e, h⟩, _⟩, hx => by
    injection hx with hx
    exact ⟨a, r, hx.symm.trans e, h, rfl⟩
  | _ :: xs, _ :: ds, i + 1, x, ⟨_, h⟩, hx => FacsAt.at_ (i := i) h hx
  | [], [], _, _, _, hx => by cases hx
  | [], _ :: _, _, _, h, _ => h.elim
  | _ :: _, [], _, _, h, _ => h.elim
theorem FacsAt.snoc {H : Hp} {a : Addr} {r : List (List Str)} (ha : FacAt H K CF C a fo th r) : ∀ {xs : List V} {rss : List (List (List Str))}, FacsAt H K CF C fo th xs rss → FacsAt H K CF C fo th (xs ++ [.ref a]) (rss ++ [r])
  | [], [], _ => ⟨⟨a, rfl, ha⟩, True.intro⟩
  | _ :: _, _ :: _, ⟨h1, h⟩ => ⟨h1, FacsAt.snoc ha h⟩
  | [], _ :: _, h => h.elim
  | _ :: _, [], h => h.elim
theorem FacsAt.butL {H H' : Hp} {p : Addr} {ys : List V} (hp : H p = some (.lst ys)) (b : But H H' p) : ∀ {xs : List V} {rss : List (List (List Str))}, FacsAt H K CF C fo th xs rss → FacsAt H' K CF C fo th xs rss
  | [], [], _ => True.intro
  | _ :: _, _ :: _, ⟨⟨a, h1, h2⟩, h⟩ => ⟨⟨a, h1, h2.butL hp b⟩, FacsAt.butL hp b h⟩
  | [], _ :: _, h => h.elim
  | _ :: _, [], h => h.elim
theorem but_upd {H : Hp} {p : Addr} {o : HO} : But H (L2.upd H p o) p := fun a u n h => by
  rw [upd_ne n]
  exact h
end
/-- facts that may be asked and added to -/
structure AskOk (fo th : List Str) (rows : List (List Str)) (n : Nat) : Prop where
  nd : (fo ++ th).Nodup
  len : (fo ++ th).length < 1000
  oks : OkS (fo ++ th)
  tr : TR fo th rows
  rl : rows.length ≤ n
theorem AskOk.size {fo th : List Str} {rows : List (List Str)} {n : Nat} (h : AskOk fo th rows n) : (fo ++ th).length < sizeLine := by
  have := h.len
  rw [sizeLine_eq]
  omega
def spMustFit (K : PySem.W.Frag) (CF C CU : Addr) : Sp := fun vs H Q E => ∃ a fo th rows, vs = [.ref a] ∧ FacAt H K CF C a fo th rows ∧ AskOk fo th rows 900 ∧
  (fitB fo (fo ++ th) rows = true → ∀ H', Ext H H' → Q .non H') ∧
  (∀ d t zs H', Ext H H' → H d = none → SqT K H' t (zs.map V.str) → 2 ≤ zs.length → zs.Sublist (fo ++ th) → Topless fo rows zs → fitB fo (fo ++ th) rows = false → H' d = some (.xd [("nodes", .ref t)]) → E (.ref CU) (some d) H')
def spSides (K : PySem.W.Frag) (CF C : Addr) : Sp := fun vs H Q _ => ∃ (a l : Addr) (fo th : List Str) (rows rs : List (List Str)) (xs : List V), vs = [.ref a, .ref l] ∧ FacAt H K CF C a fo th rows ∧ AskOk fo th rows 300 ∧ H l = some (.lst xs) ∧ Raws K H xs rs ∧ FactR fo th rs ∧ rs.length ≤ 50 ∧
  ∀ t l1 b ys H', Ext H H' → SqT K H' t [.ref l1, .ref b] → H' l1 = some (.lst ys) → FacsAt H' K CF C fo th ys (rs.map fun r => addR (fo ++ th) rows [r]) → FacAt H' K CF C b fo th (addR (fo ++ th) rows (rs.flatMap (agR fo th))) → Q (.ref t) H'
def spDecided (K : PySem.W.Frag) (CF C : Addr) : Sp := fun vs H Q _ => ∃ (l b : Addr) (fo th : List Str) (rss : List (List (List Str))) (rn : List (List Str)) (ys : List V), vs = [.ref l, .ref b] ∧ H l = some (.lst ys) ∧ FacsAt H K CF C fo th ys rss ∧ FacAt H K CF C b fo th rn ∧ AskOk fo th rn 900 ∧ (∀ r, r ∈ rss → AskOk fo th r 900) ∧ rss.length ≤ 1000 ∧
  ∀ H', Ext H H' → Q (.str (wordR fo (fo ++ th) rss rn)) H'
/-- the errors of a question about a fact -/
def UnfE (K : PySem.W.Frag) (CU : Addr) (fo th : List Str) (rows : List (List Str)) (H : Hp) (E : XK) : Prop := ∀ d t zs H', Ext H H' → H d = none → SqT K H' t (zs.map V.str) → 2 ≤ zs.length → zs.Sublist (fo ++ th) → Topless fo rows zs → fitB fo (fo ++ th) rows = false → H' d = some (.xd [("nodes", .ref t)]) → E (.ref CU) (some d) H'
theorem UnfE.ext {K : PySem.W.Frag} {CU : Addr} {fo th : List Str} {rows : List (List Str)} {H H1 : Hp} {E : XK} (h : UnfE K CU fo th rows H E) (x : Ext H H1) : UnfE K CU fo th rows H1 E := fun d t zs H' e hd => h d t zs H' (x.trans e) (ext_none x hd)
def BadE (CE : Addr) (H : Hp) (E : XK) : Prop := ∀ d H', Ext H H' → H d = none → H' d = some (.xd [(("index" : Str), V.int 0)]) → E (.ref CE) (some d) H'
section
variable {P : Program} {w : World} {K : PySem.W.Frag} {mg : Str → Option Value} {base : Heap} {f C CB CF CE CU : Addr} {fd : FuncData}
end
end My

namespace My
open PySem PySem.Spec PyProof.Rows L2
def spTreeFor (K : PySem.W.Frag) (CF C CT : Addr) : Sp := fun vs H Q _ => ∃ a fo th rows, vs = [.ref a] ∧ FacAt H K CF C a fo th rows ∧ (fo ++ th).Nodup ∧ (fo ++ th).length < 1000 ∧ FactR fo th rows ∧ rows.length < 1000 ∧
  (∀ zs H', Ext H H' → 2 ≤ zs.length → zs.Sublist (fo ++ th) → Topless fo rows zs → Q .non H') ∧
  (∀ t q d H', Ext H H' → TreeAt H' K CT C t q fo th (lyD (fo ++ th) d) → Laid fo rows (fo ++ th) d → Q (.ref t) H')
abbrev nm_tree_for : List Str := ["facts", "over", "group"]
theorem sc_tree_for : FnScope nm_tree_for ["facts"] (defScope s_tree_for) := ⟨rfl, rfl, rfl, by decide +kernel, rfl, by decide +kernel, by decide +kernel⟩
section
variable {P : Program} {w : World} {K : PySem.W.Frag} {mg : Str → Option Value} {base : Heap} {f C CB CF CT CFo CR fI : Addr} {fd fdI : FuncData}
theorem ok_treeFor (Fn : FnP K "tree_for" s_tree_for f fd) (F : FacTxt P w K mg CF C CB) (tMk : Mk K CT fI) (tI : FnOk P w K mg base (L2.CX P w) 6 fI fdI ["self", "house", "over"] (spTInit K CT C CFo CR)) (tbI : Binds K fdI ["self", "house", "over"] []) (tG : mg "Tree" = some (.ref CT)) (htree_or_group : Has P w K mg base 3 "tree_or_group" ["facts"] (spTreeOr K CF C)) :
    FnOk P w K mg base CX0 8 f fd ["facts"] (spTreeFor K CF C CT) := by
  refine Fn.ok sc_tree_for (fun vs H Q E h => ?_) (fun cdv A outer s H vs Q E hr h => ⟨_, PSs.nox
    (pss_cons (ps_asg (pe_has htree_or_group (hr.mono (by decide)) (pa_cons (pv 0) pa_nil)) (pg_tup rfl (pgs_cons (pg_name (i := 1) sc_tree_for.nd rfl (Or.inl rfl)) (pgs_cons (pg_name (i := 2) sc_tree_for.nd rfl (Or.inl rfl)) pgs_nil))))
      (pss_one (ps_ret (pe_ifExp (pt_cmpR op_isN (pv 2) pe_non (nomark _)) (pe_make tMk tI (hr.mono (by decide)) (by rfl) tG tbI .nil passL (pa_cons (pe_fld (pv 0) rfl) (pa_cons (pv 1) pa_nil))) pe_non)))), ?_⟩)
  · obtain ⟨a, fo, th, rows, rfl, _⟩ := h
    rfl
  · obtain ⟨a, fo, th, rows, rfl, fa, nd, len, fr, rl, qg, qd⟩ := h
    refine ⟨_, rfl, a, fo, th, rows, rfl, fa, nd, len, fr, rl, fun t t2 zs H1 x1 st st2 l2 sl tp => ?_, fun t D d H1 x1 st hD hd la => ?_⟩
    · refine ⟨t, _, rfl, st, rfl, _, _, rfl, _, _, rfl, rfl, ?_⟩
      refine ⟨_, rfl, rfl, _, rfl, ?_⟩
      exact iteF' (decide_eq_false fun e => nomatch e) (qg zs H1 x1 l2 sl tp)
    · refine ⟨t, _, rfl, st, rfl, _, _, rfl, _, _, rfl, rfl, ?_⟩
      refine ⟨_, rfl, rfl, _, rfl, ?_⟩
      refine iteT' (decide_eq_true rfl) ?_
      obtain ⟨dx, fs, ho, r, ys0, h1, h2, h3, h4, h5, h6, h7, h8⟩ := fa
      refine ⟨_, rfl, a, CF, dx, fs, _, rfl, x1 _ _ h1, F.T.cl, F.T.nh, h2, _, rfl, ?_⟩
      intro t dt ht hdt ne
      obtain ⟨HX, hHX⟩ : ∃ HX, HX = L2.upd (L2.upd H1 dt (.own t)) t (.ins CT dt []) := ⟨_, rfl⟩
      rw [← hHX]
      have xX : Ext H1 HX := fun c u k => by
        rw [hHX, upd_ne (ne_of_none k ht), upd_ne (ne_of_none k hdt)]
        exact k
      have tX : HX t = some (.ins CT dt []) := by rw [hHX, upd_same]
      have x0 : Ext H HX := x1.trans xX
      have ht0 : H t = none := ext_none x1 ht
      have nht : ho ≠ t := by
        obtain ⟨_, _, hi⟩ := h4.ins
        exact ne_of_none hi ht0
      have nocyc := laid_nocyc la
      refine ⟨t, dt, ho, D, fo, th, d, rfl, tX, nht, h4.ext x0, by omega, nd, xX _ _ hd, fun z hz => ?_, .inr ⟨fun v hv => ?_, fun nc q H7 b hq tr => ?_, fun d' t' way H' e h1 st h2 ring => ?_⟩⟩
      · obtain ⟨v, hv⟩ := getD_some hz
        exact laid_in la z v hv
      · obtain ⟨kv, hkv, rfl⟩ := List.mem_map.mp hv
        obtain ⟨v, e⟩ := getD_some (List.mem_map.mpr ⟨kv, hkv, rfl⟩)
        have e2 : getD d kv.1 = some kv.2 := getD_pair la.2.1 hkv
        obtain ⟨f, hf, e3⟩ := (la.1 _ _ e2).2
        exact ⟨f, e3, hf⟩
      · exact ⟨rfl, qd t q d H7 (fun c u k => b c u (ne_of_none k ht0) (x0 c u k)) tr la⟩
      · obtain ⟨c, cy⟩ := ring.cyc
        exact absurd cy (nocyc c)
end
end My

namespace My
open PySem PySem.Spec PyProof.Rows L2
/-- what tree_for tells -/
def TreeV (H : Hp) (K : PySem.W.Frag) (CT C : Addr) (fo th : List Str) (rows : List (List Str)) (v : V) : Prop := (v = .non ∧ fitB fo (fo ++ th) rows = false) ∨ ∃ t q d, v = .ref t ∧ TreeAt H K CT C t q fo th (lyD (fo ++ th) d) ∧ Laid fo rows (fo ++ th) d ∧ fitB fo (fo ++ th) rows = true
theorem TreeV.ext {H H' : Hp} {K : PySem.W.Frag} {CT C : Addr} {fo th : List Str} {rows : List (List Str)} {v : V} (h : TreeV H K CT C fo th rows v) (e : Ext H H') : TreeV H' K CT C fo th rows v := h.imp id fun ⟨t, q, d, h1, h2, h3⟩ => ⟨t, q, d, h1, h2.ext e, h3⟩
theorem treeV_of {K : PySem.W.Frag} {CF C CT a : Addr} {H : Hp} {Q : VK} {E : XK} {fo th : List Str} {rows : List (List Str)} (fac : FacAt H K CF C a fo th rows) (nd : (fo ++ th).Nodup) (len : (fo ++ th).length < 1000) (fr : FactR fo th rows) (rl : rows.length < 1000)
    (q : ∀ v H', Ext H H' → TreeV H' K CT C fo th rows v → Q v H') : spTreeFor K CF C CT [.ref a] H Q E :=
  ⟨a, fo, th, rows, rfl, fac, nd, len, fr, rl, fun zs H' x l2 sub tp => q _ H' x (.inl ⟨rfl, fitB_no.mpr (top_nofits fr nd l2 sub tp)⟩), fun t q1 d H' x tr la => q _ H' x (.inr ⟨t, q1, d, rfl, tr, la, fitB_iff.mpr (laid_fits fr la)⟩)⟩
end My

namespace L2
open PySem PySem.Spec PyProof.Rows
/-! two dicts with flat values compared, whatever comes of it -/
def eqDV (ks ls : List (Key × V)) : Bool := (ks.length == ls.length) && ks.all fun p => match valV ls p.1 with
  | none => false
  | some v => eqV p.2 v
theorem hits_any {A : Around} {s : Shared} {kvs : List (Key × V)} {vb : List (Key × Value)} (rb : KV kvs vb) {ks : List (Key × V)} {va : List (Key × Value)} (ra : KV ks va) :
    (∀ p ∈ ks, flatV p.2 = true) → (∀ k v, valV kvs k = some v → flatV v = true) → PySem.W.KeqHits A s vb va (ks.all fun p => match valV kvs p.1 with
      | none => false
      | some v => eqV p.2 v) := by
  unfold KV at ra
  induction ra with
  | nil => intro _ _; exact .nil
  | @cons p q ps qs h t ih =>
    intro hp hl
    obtain ⟨h1, h2⟩ := h
    have f := hp p List.mem_cons_self
    have rr : RelO (valV kvs p.1) (valueAt vb p.1) := rb.val p.1
    obtain ⟨k, v⟩ := q
    have h1' : p.1 = k := h1
    rw [List.all_cons]
    cases e : valV kvs p.1 with
    | none =>
      rw [e] at rr
      refine .miss ?_
      rw [← h1']
      cases c : valueAt vb p.1 with
      | none => rfl
      | some y => rw [c] at rr; exact rr.elim
    | some v' =>
      rw [e] at rr
      obtain ⟨y, hy, ry⟩ := rr.some_of
      rw [h1'] at hy
      exact .hit hy (eqAt_V h2 ry f (hl _ _ e)) (ih (fun p' hm => hp p' (List.mem_cons_of_mem _ hm)) hl)
section
variable {X : Cx}
def rEqDF : R2 := fun x y H Q => ∃ a b ks ls, x = .ref a ∧ y = .ref b ∧ H a = some (.dK ks) ∧ H b = some (.dK ls) ∧ (∀ p ∈ ks, flatV p.2 = true) ∧ (∀ k v, valV ls k = some v → flatV v = true) ∧ Q (.bl (eqDV ks ls)) H
def rNeDF : R2 := fun x y H Q => ∃ a b ks ls, x = .ref a ∧ y = .ref b ∧ H a = some (.dK ks) ∧ H b = some (.dK ls) ∧ (∀ p ∈ ks, flatV p.2 = true) ∧ (∀ k v, valV ls k = some v → flatV v = true) ∧ Q (.bl (!eqDV ks ls)) H
theorem op_eq_dictF (hu : X.A.units < cLine) : OpR X (compareOp .Eq) rEqDF := by
  intro pins s σ H x y v u Q I rx ry h
  obtain ⟨a, b, ks, ls, rfl, rfl, ea, eb, f1, f2, q⟩ := h
  obtain rfl : v = Value.ref a := rx
  obtain rfl : u = Value.ref b := ry
  obtain ⟨_, ya, va, ra, da⟩ := (show ObjOk X.prog X.w H s.heap a (.dK ks) from I.hok a _ ea)
  obtain ⟨_, yb, vb, rb, db⟩ := (show ObjOk X.prog X.w H s.heap b (.dK ls) from I.hok b _ eb)
  refine PySem.W.keq_eq (knd := mixKind X.prog X.w) (r := _) ya yb da db hu (fun _ => hits_any rb ra f1 f2) (fin_bl I q ?_)
  unfold eqDV
  rw [ra.length, rb.length]
theorem op_ne_dictF (hu : X.A.units < cLine) : OpR X (compareOp .NotEq) rNeDF := by
  intro pins s σ H x y v u Q I rx ry h
  obtain ⟨a, b, ks, ls, rfl, rfl, ea, eb, f1, f2, q⟩ := h
  obtain rfl : v = Value.ref a := rx
  obtain rfl : u = Value.ref b := ry
  obtain ⟨_, ya, va, ra, da⟩ := (show ObjOk X.prog X.w H s.heap a (.dK ks) from I.hok a _ ea)
  obtain ⟨_, yb, vb, rb, db⟩ := (show ObjOk X.prog X.w H s.heap b (.dK ls) from I.hok b _ eb)
  refine PySem.W.keq_ne (knd := mixKind X.prog X.w) (r := _) ya yb da db hu (fun _ => hits_any rb ra f1 f2) (fin_bl I q ?_)
  unfold eqDV
  rw [ra.length, rb.length]
end
end L2

namespace L2
open PySem PySem.Spec PyProof.Rows
/-- X(), X an own exception class without own __init__ -/
theorem pmk_own0 {X : Cx} {C : Addr} {bmB : List Value} {B newId initId : String} {x : Str} {p pos : Pos} (F : ExcBaseFacts B newId initId bmB) (q : PySem.W.excIn X.K C bmB newId = true) (gC : X.mg x = some (.ref C))
    (kC : PySem.W.keepIn X.K (.ref C) = true) (r : Raises X (.ref C)) (hg : Gl X x) (hdb : (x == ("__debug__" : Str)) = false := by decide) :
    PMk X (.Call (.Name x p) [] [] pos) (fun _ H Q => Q (.ref C) none H) := by
  intro pins s σ H Q I h
  refine wpAny_Call_Name_kw (ld_glob I hg gC ?_ hdb)
  refine PySem.W.callWith_K0 I.kIn kC ?_
  show wpAny _ _ (call (.ref C) []) _ _ _
  obtain ⟨bm, N, nm, qn, bs, hdct, sn, sub, ab, col, dd, k0, k1, k2, k3, k5, mN, hC, hN, hni, T⟩ := exc_obj I.kIn q
  refine wpAny_call_exc_subT F T hC hN hni (fun h' e hm => ?_) (Nat.zero_le _)
  exact mk_of I hm r h (I.hok.gone hm.new)
end L2

namespace My
open PySem PySem.Spec PyProof.Rows L2
/-- an error without anything in it -/
structure UnC (K : PySem.W.Frag) (mg : Str → Option Value) (CUn : Addr) where
  bmB : List Value
  B : String
  newId : String
  initId : String
  F : ExcBaseFacts B newId initId bmB
  q : PySem.W.excIn K CUn bmB newId = true
  g : mg "UnlikeHouses" = some (.ref CUn)
  k : PySem.W.keepIn K (.ref CUn) = true
  s1 : PySem.W.subIn K (.ref CUn) (.type "BaseException") = some true
  s2 : PySem.W.typeIn K (.ref CUn) = some (.type "type")
/-- a tree keeps the rows, and not this one -/
noncomputable def notB (fo th : List Str) (rows : List (List Str)) (r : List Str) : Bool := fitB fo (fo ++ th) (addR (fo ++ th) rows (agR fo th r))
def PartV (H : Hp) (K : PySem.W.Frag) (CT C : Addr) (fo th : List Str) (rows more : List (List Str)) (v : V) : Prop := (v = .non ∧ ∀ r, r ∈ more → notB fo th rows r = false) ∨
  ∃ (tt t q : Addr) (d : Dic) (i : Nat) (r : List Str), v = .ref tt ∧ SqT K H tt [.ref t, .int (i : Nat)] ∧ more[i]? = some r ∧ TreeAt H K CT C t q fo th (lyD (fo ++ th) d) ∧ Laid fo (addR (fo ++ th) rows (agR fo th r)) (fo ++ th) d ∧ notB fo th rows r = true ∧ ∀ j r', j < i → more[j]? = some r' → notB fo th rows r' = false
def spParted (K : PySem.W.Frag) (CF C CT CUn : Addr) : Sp := fun vs H Q E => ∃ a m fo th fo2 th2 rows more, vs = [.ref a, .ref m] ∧ FacAt H K CF C a fo th rows ∧ AskOk fo th rows 300 ∧ FacAt H K CF C m fo2 th2 more ∧
  ((¬ (fo = fo2 ∧ th = th2) ∧ ∀ H', Ext H H' → E (.ref CUn) none H') ∨ (fo2 = fo ∧ th2 = th ∧ TR fo th more ∧ more.length ≤ 300 ∧ ∀ v H', Ext H H' → PartV H' K CT C fo th rows more v → Q v H'))
def spFollows (K : PySem.W.Frag) (CF C CUn : Addr) : Sp := fun vs H Q E => ∃ a m fo th fo2 th2 rows more, vs = [.ref a, .ref m] ∧ FacAt H K CF C a fo th rows ∧ AskOk fo th rows 300 ∧ FacAt H K CF C m fo2 th2 more ∧
  ((¬ (fo = fo2 ∧ th = th2) ∧ ∀ H', Ext H H' → E (.ref CUn) none H') ∨ (fo2 = fo ∧ th2 = th ∧ TR fo th more ∧ more.length ≤ 300 ∧ ∀ H', Ext H H' → Q (.bl (more.all fun r => !notB fo th rows r)) H'))
abbrev nm_parted : List Str := ["facts", "more", "at", "fact", "tree"]
theorem sc_parted : FnScope nm_parted ["facts", "more"] (defScope s_parted) := ⟨rfl, rfl, rfl, by decide +kernel, rfl, by decide +kernel, by decide +kernel⟩
abbrev nm_follows : List Str := ["facts", "more"]
theorem sc_follows : FnScope nm_follows ["facts", "more"] (defScope s_follows) := ⟨rfl, rfl, rfl, by decide +kernel, rfl, by decide +kernel, by decide +kernel⟩
section
variable {P : Program} {w : World} {K : PySem.W.Frag} {mg : Str → Option Value} {base : Heap} {f C CB CF CE CUn CT : Addr} {fd : FuncData}
theorem ok_parted (Fn : FnP K "parted" s_parted f fd) (F : FacTxt P w K mg CF C CE) (Z : HouseTxt P w K mg C CB) (M : AddTxt P w K mg CF C CE) (EUn : UnC K mg CUn) (htree_for : Has P w K mg base 8 "tree_for" ["facts"] (spTreeFor K CF C CT)) (hagainst : HasX P w K mg base 6 "against" ["house", "fact"] (spAgainst K C CE)) (gB_enumerate : mg "enumerate" = none) : FnOk P w K mg base (L2.CX P w) 10 f fd ["facts", "more"] (spParted K CF C CT CUn) := by
  refine Fn.ok sc_parted (fun vs H Q E h => ?_) (fun cdv A outer s H vs Q E hr h => ⟨_,
    (pss_cons (ps_if (pt_cmpR (op_neO (EI := E0) (hr.mono (by decide)) Z.mE Z.ne Z.T.hm (Z.E _) Z.bE pass0) (pe_fld (pv 0) rfl) (pe_fld (pv 1) rfl) (nomark _)) (pss_one (ps_raise rfl (takes_of rfl rfl rfl rfl) (pmk_own0 EUn.F EUn.q EUn.g EUn.k (raises_own EUn.s1 EUn.s2) (by rfl)))) pss_nil)
      (pss_cons (ps_for (passes_of rfl) rfl (pi_enumS (by rfl) gB_enumerate (pa_cons (pe_meth0 (pv 1) F.T.cl F.mT (F.To _) (hr.mono (by decide)) F.bT .nil pass0) pa_nil)) (pg_tup rfl (pgs_cons (pg_name (i := 2) sc_parted.nd rfl (Or.inl rfl)) (pgs_cons (pg_name (i := 3) sc_parted.nd rfl (Or.inl rfl)) pgs_nil)))
      (pss_cons (ps_set (i := 4) sc_parted.nd rfl (Or.inl rfl) (pe_has htree_for (hr.mono (by decide)) (pa_cons (pe_op (op_addO (EI := E0) (hr.mono (by decide)) M.mA (M.A _) M.bA passL) (pv 0) (pe_hasX hagainst (hr.mono (by decide)) (pa_cons (pe_fld (pv 0) rfl) (pa_cons (pv 3) pa_nil)) passL)) pa_nil)))
      (pss_one (ps_if (pt_cmpR op_notN (pv 4) pe_non (nomark _)) (pss_one (ps_ret (pe_tup (pa_cons (pv 4) (pa_cons (pv 2) pa_nil))))) pss_nil))))
      (pss_one (ps_ret pe_non)))), ?_⟩)
  · obtain ⟨a, m, fo, th, fo2, th2, rows, more, rfl, _⟩ := h
    rfl
  · obtain ⟨a, m, fo, th, fo2, th2, rows, more, rfl, fa, ok, fm, hh⟩ := h
    obtain ⟨dx, fs, ho, r0, ys0, h1, h2, h3, h4, h5, h6, h7, h8⟩ := id fa
    obtain ⟨dm, fsm, hm, rm, ysm, m1, m2, m3, m4, m5, m6, m7, m8⟩ := id fm
    obtain ⟨hx, hfs, hins⟩ := h4.ins
    have rowsl := ok.rl
    refine ⟨_, rfl, a, CF, dx, fs, _, rfl, h1, F.T.cl, F.T.nh, h2, _, rfl, m, CF, dm, fsm, _, rfl, m1, F.T.cl, F.T.nh, m2, ho, hx, hfs, .ref C, rfl, hins, tyH Z.T m4, by simp [PySem.W.notFirst], ho, fo, th, _, rfl, h4, .inr ⟨hm, fo2, th2, rfl, m4, _, rfl, _, rfl, ?_⟩⟩
    rcases hh with ⟨ne, qE⟩ | ⟨rfl, rfl, trm, ml, q⟩
    · refine iteT' ?_ (qE H Ext.rfl')
      have : (decide (fo = fo2) && decide (th = th2)) = false := by
        cases c : decide (fo = fo2) && decide (th = th2) with
        | false => rfl
        | true => exact absurd (by simpa using c) ne
      rw [this]
      rfl
    · refine iteF' (by simp) ?_
      refine ⟨_, rfl, m, dm, fsm, rfl, m1, m8 _ (by simp [facM]), m, fo2, th2, more, rfl, fm, fun l ys H1 x1 l0 hl rw1 => ?_⟩
      have yl := rw1.len
      refine ⟨l, ys, rfl, ?_⟩
      refine for_enumS (.inl (SqL.of hl)) (fun i σ H' => Ext H1 H' ∧ (∃ v2 v3 v4, σ = [some (.ref a), some (.ref m), v2, v3, v4]) ∧ ∀ j r', j < i → more[j]? = some r' → notB fo2 th2 rows r' = false) ⟨Ext.rfl', ⟨_, _, _, rfl⟩, fun j _ hj => absurd hj (Nat.not_lt_zero j)⟩ (fun i σ H' _ p => p.1) ?_ ?_
      · rintro i y σ H2 T hi ⟨x2, ⟨v2, v3, v4, rfl⟩, nb⟩ e2 hT
        obtain ⟨t, r, rfl, su, hr'⟩ := (rw1.ext x2).at_ e2
        obtain ⟨wd, p, p2, rfl, isf⟩ := trm.fact r (List.mem_of_getElem? hr')
        obtain ⟨H3, hH3⟩ : ∃ H3, H3 = L2.upd H2 T (.tup [.int (i : Nat), .ref t]) := ⟨_, rfl⟩
        have xH3 : Ext H2 H3 := by
          rw [hH3]
          exact Ext.upd hT
        have nH3 : H3 T = some (.tup [.int (i : Nat), .ref t]) := by rw [hH3, upd_same]
        rw [← hH3]
        clear hH3
        have x03 := x1.trans (x2.trans xH3)
        refine ⟨T, _, rfl, SqT.of nH3, rfl, _, _, rfl, _, _, rfl, rfl, ?_⟩
        refine ⟨_, rfl, _, rfl, a, CF, dx, fs, _, rfl, x03 _ _ h1, F.T.cl, F.T.nh, h2, _, rfl, ho, _, fo2, th2, rfl, h4.ext x03, ok.nd, ok.size, .inr ⟨t, wd, p, p2, rfl, .inr (su.ext xH3), isf, fun l2 H4 x4 hl2 rat => ?_⟩⟩
        obtain ⟨zs, hz, rz⟩ := rat
        have x04 := x03.trans x4
        have al := ag_len ok.nd isf
        refine ⟨a, dx, fs, .type "list", rfl, x04 _ _ h1, tyx_lst hz, M.add _ (by decide), a, .ref l2, fo2, th2, rows, rfl, fa.ext x04, ok.tr, by omega, ok.nd, ok.size, ok.oks, .inr ⟨l2, zs, _, rfl, .inl (SqL.of hz), rz.raws, ag_fact ok.nd isf, by omega, fun b H5 x5 hb fb => ⟨b, rfl, ?_⟩⟩⟩
        dsimp only [tNil, List.append_nil]
        have okb : AskOk fo2 th2 (addR (fo2 ++ th2) rows (agF fo2 th2 wd p p2)) 900 := ⟨ok.nd, ok.len, ok.oks, add_TR ok.nd ok.tr (ag_fact ok.nd isf), by have := add_len (fo2 ++ th2) rows (agF fo2 th2 wd p p2); omega⟩
        refine treeV_of (rows := addR (fo2 ++ th2) rows (agF fo2 th2 wd p p2)) fb okb.nd okb.len okb.tr.fact (by have := okb.rl; omega) fun v H6 x6 tv => ?_
        have x26 := x2.trans (xH3.trans (x4.trans (x5.trans x6)))
        rcases tv with ⟨rfl, ft⟩ | ⟨t2, q2, d, rfl, tr, la, ft⟩
        · refine ⟨_, rfl, rfl, _, rfl, iteF' rfl ?_⟩
          refine ⟨x26, ⟨_, _, _, rfl⟩, fun j r' hj hr2 => ?_⟩
          by_cases c : j < i
          · exact nb j r' c hr2
          · have : j = i := by omega
            subst this
            rw [hr'] at hr2
            injection hr2 with hr2
            subst hr2
            exact ft
        · refine ⟨_, rfl, rfl, _, rfl, iteT' rfl ?_⟩
          refine ⟨_, rfl, _, rfl, Nat.le_of_ble_eq_true rfl, fun tt htt => ?_⟩
          have xt := Ext.upd (o := .tup [.ref t2, .int (i : Nat)]) htt
          exact q _ _ (x1.trans (x26.trans xt)) (.inr ⟨tt, t2, q2, d, i, _, rfl, SqT.of upd_same, hr', tr.ext xt, la, ft, nb⟩)
      · rintro σ H2 ⟨x2, ⟨v2, v3, v4, rfl⟩, nb⟩
        refine q .non H2 (x1.trans x2) (.inl ⟨rfl, fun r hr' => ?_⟩)
        obtain ⟨j, hj⟩ := List.mem_iff_getElem?.mp hr'
        exact nb j r (by rw [yl]; exact (List.getElem?_eq_some_iff.mp hj).1) hj
theorem ok_follows (Fn : FnP K "follows" s_follows f fd) (hparted : HasX P w K mg base 10 "parted" ["facts", "more"] (spParted K CF C CT CUn)) : FnOk P w K mg base (L2.CX P w) 11 f fd ["facts", "more"] (spFollows K CF C CUn) := by
  refine Fn.ok sc_follows (fun vs H Q E h => ?_) (fun cdv A outer s H vs Q E hr h => ⟨_,
    (pss_one (ps_ret (pe_cmpR op_isN (pe_hasX hparted (hr.mono (by decide)) (pa_cons (pv 0) (pa_cons (pv 1) pa_nil)) (passes_call (takes_of rfl rfl rfl rfl) (fun _ _ _ _ h => h))) pe_non (nomark _)))), ?_⟩)
  · obtain ⟨a, m, fo, th, fo2, th2, rows, more, rfl, _⟩ := h
    rfl
  · obtain ⟨a, m, fo, th, fo2, th2, rows, more, rfl, fa, ok, fm, hh⟩ := h
    refine ⟨_, rfl, _, rfl, a, m, fo, th, fo2, th2, rows, more, rfl, fa, ok, fm, ?_⟩
    rcases hh with hh | ⟨rfl, rfl, trm, ml, q⟩
    · exact .inl hh
    · refine .inr ⟨rfl, rfl, trm, ml, fun v H1 x1 pv => ⟨rfl, ?_⟩⟩
      have e : decide (v = .non) = more.all fun r => !notB fo2 th2 rows r := by
        rcases pv with ⟨rfl, hn⟩ | ⟨tt, t, q1, d, i, r, rfl, _, hi, _, _, hb, _⟩
        · have : (more.all fun r => !notB fo2 th2 rows r) = true := List.all_eq_true.mpr fun r hr' => by rw [hn r hr']; rfl
          rw [this]
          rfl
        · have : (more.all fun r => !notB fo2 th2 rows r) = false := by
            cases c : more.all fun r => !notB fo2 th2 rows r with
            | false => rfl
            | true =>
              have := List.all_eq_true.mp c r (List.mem_of_getElem? hi)
              rw [hb] at this
              cases this
          rw [this]
          rfl
      rw [e]
      exact q H1 x1
end
end My

namespace My
open PySem PySem.Spec PyProof.Rows L2
def spKeeps (K : PySem.W.Frag) : Sp := fun vs H Q _ => ∃ (p l : Addr) (d : Dic) (fo : List Str) (rows : List (List Str)), vs = [.ref p, .ref l] ∧ H p = some (.dK (kd d)) ∧ DicOk fo d ∧ RowsAt K H l rows ∧ Three rows ∧ OkR rows ∧ rows.length < 1000 ∧
  ∀ H', Ext H H' → Q (.bl (rows.all (holdsR d))) H'
abbrev nm__law_keeps : List Str := ["_law_over_here", "_law_told_here", "_law_fact"]
theorem sc__law_keeps : FnScope nm__law_keeps ["_law_over_here", "_law_told_here"] (defScope s__law_keeps) := ⟨rfl, rfl, rfl, by decide +kernel, rfl, by decide +kernel, by decide +kernel⟩
section
variable {P : Program} {w : World} {K : PySem.W.Frag} {mg : Str → Option Value} {base : Heap} {f C CB CF CT CN fV : Addr} {fd fdV : FuncData}
theorem ok_keeps (Fn : FnP K "_law_keeps" s__law_keeps f fd) (h_law_holds : Has P w K mg base 2 "_law_holds" ["_law_over_here", "_law_fact"] (spHolds K)) : FnOk P w K mg base CX0 3 f fd ["_law_over_here", "_law_told_here"] (spKeeps K) := by
  refine Fn.ok sc__law_keeps (fun vs H Q E h => ?_) (fun cdv A outer s H vs Q E hr h => ⟨_, PSs.nox
    (pss_one (ps_ret (pe_cmpR (op_eqD hr.units) (pe_lc (own := [("_law_fact", 2)]) (g := (gName 2)) rfl sc__law_keeps.nd (pi_list (pv 1)) (blkOk_by (N := nm__law_keeps) (sc := defScope s__law_keeps) (by decide +kernel)) (fun _ _ _ _ _ => (pg_name (i := 2) sc__law_keeps.nd rfl (Or.inl rfl))) (fun _ _ _ _ _ => pts_one (pt_not (pt_val (pe_has h_law_holds (hr.mono (by decide)) (pa_cons (pv 0) (pa_cons (pv 2) pa_nil)))))) (fun _ _ _ _ _ => (pv 2))) (pe_lst pa_nil) (nomark _)))), ?_⟩)
  · obtain ⟨p, l, d, fo, rows, rfl, _⟩ := h
    rfl
  · obtain ⟨p, l, d, fo, rows, rfl, hp, ok, ⟨xs, hl, hr0⟩, th3, okr, len, q⟩ := h
    have lx : xs.length = rows.length := hr0.len
    refine ⟨_, rfl, l, rfl, ⟨_, SqL.of hl⟩, fun D hD => ?_⟩
    refine lc_list (K := K) (a := l) (xs := xs) (fun i H' => Ext H H' ∧ ∃ acc, H' D = some (.lst acc) ∧ acc.length ≤ i ∧ Rows K H' acc ((rows.take i).filter fun r => !holdsR d r)) ⟨Ext.upd hD, [], upd_same, Nat.zero_le _, True.intro⟩ (fun i H' _ z => SqL.of (z.1 _ _ hl)) ?_ ?_
    · intro i v H1 hv ⟨x1, acc, l1, len1, r1⟩
      obtain ⟨t, r, rfl, sq, hr⟩ := (hr0.ext x1).at_ hv
      obtain ⟨wd, a, b, rfl⟩ := th3 r (List.mem_of_getElem? hr)
      have tk : rows.take (i + 1) = rows.take i ++ [[wd, a, b]] := by
        rw [List.take_add_one, hr]
        rfl
      rw [tk]
      have i1 : i < xs.length := (List.getElem?_eq_some_iff.mp hv).1
      refine ⟨rfl, _, rfl, _, rfl, p, t, d, fo, wd, a, b, rfl, x1 _ _ hp, ok, sq, _, rfl, ?_⟩
      rw [List.filter_append]
      refine ite2 (fun c => ?_) fun c => ?_
      · refine ⟨_, rfl, acc, l1, by rw [sizeLine_eq]; omega, x1.over hD, _, upd_same, by rw [List.length_append]; exact Nat.succ_le_succ len1, ?_⟩
        rw [List.filter_cons, if_pos (show (!holdsR d [wd, a, b]) = true from c)]
        exact Rows.app (Rows.upd l1 r1) ⟨⟨t, rfl, sqT_upd sq l1⟩, True.intro⟩
      · refine ⟨x1, acc, l1, Nat.le_succ_of_le len1, ?_⟩
        rw [List.filter_cons, if_neg (show ¬ (!holdsR d [wd, a, b]) = true from c), List.filter_nil, List.append_nil]
        exact r1
    · intro H1 ⟨x1, acc, l1, len1, r1⟩
      rw [lx, List.take_length] at r1
      refine ⟨Nat.zero_le _, fun z hz => ?_⟩
      have okf : OkR (rows.filter fun r => !holdsR d r) := fun r hr => okr r (List.mem_filter.mp hr).1
      refine ⟨rowsD (rows.filter fun r => !holdsR d r), rowsD [], .lst (SqL.of (Ext.upd hz _ _ l1)) (rows_dp (r1.ext (Ext.upd hz))), .lst (SqL.of upd_same) .nil, rows_shaped okf, rfl, ?_⟩
      rw [eqv_rows, filter_all]
      exact q _ (x1.upd' hz)
end
end My

namespace My
open PySem PySem.Spec PyProof.Rows L2
def spLOver (K : PySem.W.Frag) (CT C : Addr) : Sp := fun vs H Q _ => ∃ (t a q : Addr) (fo th : List Str) (d : Dic), vs = [.ref t, .ref a] ∧ PairAt K H t fo th ∧ TreeAt H K CT C a q fo th d ∧ Nok (fo ++ th) ∧ fo ≠ [] ∧ (fo ++ th).length ≤ 8 ∧
  ∀ D H', Ext H H' → H D = none → H' D = some (.dK (kd (cutN d))) → Q (.ref D) H'
abbrev nm__law_over : List Str := ["_law_parts", "_law_tree", "_law_found", "_law_node", "_law_folder"]
theorem sc__law_over : FnScope nm__law_over ["_law_parts", "_law_tree"] (defScope s__law_over) := ⟨rfl, rfl, rfl, by decide +kernel, rfl, by decide +kernel, by decide +kernel⟩
section
variable {P : Program} {w : World} {K : PySem.W.Frag} {mg : Str → Option Value} {base : Heap} {f C CB CF CT CN fV : Addr} {fd fdV : FuncData}
theorem ok_lOver (Fn : FnP K "_law_over" s__law_over f fd) (Z : HouseTxt P w K mg C CB) (T : TreC K CT) (tmV : Meth K CT "over" fV) (tV : FnOk P w K mg base (L2.CX P w) 5 fV fdV ["self", "node"] (spTOver K CT C CN)) (tbV : Binds K fdV ["self", "node"] []) (gT : mg "Tree" = some (.ref CT)) (kT : PySem.W.kitOne K (.ref CT) (.ref CT) = some true)
    (h_law_house : Has P w K mg base 6 "_law_house" ["_law_parts"] (spLawHouse K C)) (h_law_lies : Has P w K mg base 1 "_law_lies" ["_law_over_here", "_law_node", "_law_folder"] (spLies K)) (gB_isinstance : mg "isinstance" = none) :
    FnOk P w K mg base CX0 7 f fd ["_law_parts", "_law_tree"] (spLOver K CT C) := by
  refine Fn.ok sc__law_over (fun vs H Q E h => ?_) (fun cdv A outer s H vs Q E hr h => ⟨_, PSs.nox
    (pss_cons (ps_if (PW.pt (pw_or (pt_not (pt_val (pe_callB call_isi (by rfl) gB_isinstance boot_isinstance (pa_cons (pv 1) (pa_cons (pe_glob (v := .ref CT) (by rfl) gT rfl) pa_nil))))) (pw_or1 (pt_cmpR (op_neO (EI := E0) (hr.mono (by decide)) Z.mE Z.ne Z.T.hm (Z.E _) Z.bE pass0) (pe_fld (pv 1) rfl) (pe_has h_law_house (hr.mono (by decide)) (pa_cons (pv 0) pa_nil)) (nomark _))))) (pss_one (ps_ret pe_non)) pss_nil)
      (pss_cons (ps_set (i := 2) sc__law_over.nd rfl (Or.inl rfl) pe_dnewK)
      (pss_cons (ps_for PassesOwn.never rfl (pi_list (pe_op L2.op_cat (pe_ix ix_tup (pv 0) pe_int (fun _ _ => rfl)) (pe_ix ix_tup (pv 0) pe_int (fun _ _ => rfl)))) (pg_name (i := 3) sc__law_over.nd rfl (Or.inl rfl))
      (pss_cons (ps_set (i := 4) sc__law_over.nd rfl (Or.inl rfl) (pe_meth (pv 1) T.cl tmV tV (hr.mono (by decide)) tbV .nil passL (pa_cons (pv 3) pa_nil)))
      (pss_one (ps_if (pt_cmpR op_notN (pv 4) pe_non (nomark _)) (pss_cons (ps_if (pt_cmpR op_notIn_seq (pv 4) (pe_ix ix_tup (pv 0) pe_int (fun _ _ => rfl)) (by rfl)) (pss_one (ps_ret pe_non)) pss_nil)
      (pss_one (ps_dput (hu_of hr) (pv 2) (pv 3) (pv 4) rfl))) pss_nil))))
      (pss_cons (ps_for PassesOwn.never rfl (pi_list (pe_ix ix_tup (pv 0) pe_int (fun _ _ => rfl))) (pg_name (i := 4) sc__law_over.nd rfl (Or.inl rfl))
      (pss_one (ps_if (pt_val (pe_has h_law_lies (hr.mono (by decide)) (pa_cons (pv 2) (pa_cons (pv 4) (pa_cons (pv 4) pa_nil))))) (pss_one (ps_ret pe_non)) pss_nil)))
      (pss_one (ps_ret (pv 2))))))), ?_⟩)
  · obtain ⟨t, a, q, fo, th, d, rfl, _⟩ := h
    rfl
  · obtain ⟨t, a, q, fo, th, d, rfl, pr, tr, nok, fne, len, qq⟩ := h
    have lm : ∀ zs : List Str, (zs.map V.str).length = zs.length := fun zs => List.length_map _
    obtain ⟨lf, lt, sqt, hf, ht⟩ := id pr
    obtain ⟨dx, fs, ho, h1, h2, h3, h4, h5, ly, acy, len1, nd, meth⟩ := id tr
    refine ⟨_, rfl, .ref a, .ref CT, .ref CT, .ref CT, true, rfl, .own CT, tyT T tr, kT, _, rfl, ?_⟩
    refine ⟨_, rfl, a, CT, dx, fs, _, rfl, h1, T.cl, T.nh, h2, _, rfl, t, fo, th, rfl, pr, nok, fne, by omega, fun hh H1 x1 hou => ?_⟩
    obtain ⟨hx, hfs, hins⟩ := (h4.ext x1).ins
    refine ⟨ho, hx, hfs, .ref C, rfl, hins, tyH Z.T hou, by simp [PySem.W.notFirst], ho, fo, th, _, rfl, h4.ext x1, .inr ⟨hh, fo, th, rfl, hou, _, rfl, _, rfl, ?_⟩⟩
    refine iteF' (by rw [decide_eq_true rfl, decide_eq_true rfl]; rfl) ?_
    have ndk : (d.map (·.1)).Nodup := by rw [ly.keys]; exact nd
    have dlen : d.length = (fo ++ th).length := by rw [← ly.keys, List.length_map]
    refine fun D hD => ?_
    have hD0 : H D = none := ext_none x1 hD
    obtain ⟨H2, hH2⟩ : ∃ H2, H2 = L2.upd H1 D (.dK []) := ⟨_, rfl⟩
    have xH2 : Ext H1 H2 := by
      rw [hH2]
      exact Ext.upd hD
    have nH2 : H2 D = some (.dK []) := by rw [hH2, upd_same]
    rw [← hH2]
    clear hH2
    have x2 := x1.trans xH2
    refine ⟨_, rfl, t, _, 0, .ref lf, rfl, rfl, sqt.ext x2, rfl, _, rfl, t, _, 1, .ref lt, rfl, rfl, sqt.ext x2, rfl, lf, lt, _, _, rfl, rfl, x2 _ _ hf, x2 _ _ ht, by rw [lm, lm, sizeLine_eq, ← List.length_append]; omega, fun n hn => ?_⟩
    obtain ⟨H3, hH3⟩ : ∃ H3, H3 = L2.upd H2 n (.lst (fo.map V.str ++ th.map V.str)) := ⟨_, rfl⟩
    have xH3 : Ext H2 H3 := by
      rw [hH3]
      exact Ext.upd hn
    have nH3 : H3 n = some (.lst (fo.map V.str ++ th.map V.str)) := by rw [hH3, upd_same]
    rw [← hH3]
    clear hH3
    rw [← List.map_append] at nH3
    have x3 := x2.trans xH3
    refine ⟨n, rfl, ⟨_, SqL.of nH3⟩, for_list (K := K) (a := n) (xs := (fo ++ th).map V.str) (fun i σ H' => Ext H1 H' ∧ H' n = some (.lst ((fo ++ th).map V.str)) ∧ H' D = some (.dK (kd (cutN (d.take i)))) ∧ ∃ v3 v4, σ = [some (.ref t), some (.ref a), some (.ref D), v3, v4]) ⟨xH2.trans xH3, nH3, xH3 _ _ nH2, _, _, rfl⟩ (fun i σ H' _ z => SqL.of z.2.1) ?_ ?_⟩
    · rintro i v σ H4 hv ⟨x4, n4, D4, v3, v4, rfl⟩
      obtain ⟨z, hz, rfl⟩ := strs_at hv
      have il := (List.getElem?_eq_some_iff.mp hz).1
      have x04 := x1.trans x4
      rw [cutN_take ly.keys nd hz]
      refine ⟨_, rfl, a, dx, fs, rfl, x04 _ _ h1, meth _ (by decide), _, rfl, a, q, fo, th, d, _, rfl, tr.ext x04, .inl ⟨z, rfl, List.mem_of_getElem? hz, ?_⟩⟩
      refine ⟨_, rfl, rfl, _, rfl, ?_⟩
      rcases getD_opt ly.ok z with e | ⟨g, hg, e⟩
      · rw [e]
        refine iteF' rfl ?_
        rw [if_neg (by decide), List.append_nil]
        exact ⟨x4, n4, D4, _, _, rfl⟩
      · rw [e]
        refine iteT' rfl ?_
        rw [if_pos (by rfl)]
        refine ⟨_, rfl, _, rfl, t, _, 0, .ref lf, rfl, rfl, sqt.ext x04, rfl, lf, _, rfl, .inl (SqL.of (x04 _ _ hf)), rfl, flat_strs _, _, rfl, ?_⟩
        rw [if_pos rfl, inV_str]
        refine iteF' (by rw [decide_eq_true hg]; rfl) ?_
        refine ⟨_, rfl, _, rfl, _, rfl, D, _, rfl, .inl ⟨_, Sum.inr z, D4, rfl, ?_, rfl⟩, ?_⟩
        · rw [kd_len, sizeLine_eq]
          have := cutN_len (d.take i)
          rw [List.length_take] at this
          omega
        · rw [put_kd, set_new (cut_key ly.keys nd hz)]
          have nD : n ≠ D := fun e => by rw [e, D4] at n4; cases n4
          exact ⟨x4.over hD, by rw [upd_ne nD]; exact n4, upd_same, _, _, rfl⟩
    · rintro σ H4 ⟨x4, n4, D4, v3, v4, rfl⟩
      rw [lm, ← dlen, List.take_length] at D4
      have x04 := x1.trans x4
      refine ⟨_, rfl, t, _, 0, .ref lf, rfl, rfl, sqt.ext x04, rfl, lf, rfl, ⟨_, SqL.of (x04 _ _ hf)⟩, for_list (K := K) (a := lf) (xs := fo.map V.str) (fun i σ H' => H' = H4 ∧ ∃ v3 v4, σ = [some (.ref t), some (.ref a), some (.ref D), v3, v4]) ⟨rfl, _, _, rfl⟩ (fun i σ H' _ z => by rw [z.1]; exact SqL.of (x04 _ _ hf)) ?_ ?_⟩
      · rintro i v σ H5 hv ⟨rfl, v3, v4, rfl⟩
        obtain ⟨z, hz, rfl⟩ := strs_at hv
        refine ⟨_, rfl, _, rfl, _, rfl, D, cutN d, fo, z, z, rfl, D4, dicOk_cut ly.ok, _, rfl, ?_⟩
        refine iteF' ?_ ⟨rfl, _, _, rfl⟩
        cases c : liesB (cutN d) z z with
        | false => rfl
        | true =>
          have irr := acy_irr ly.ok acy ndk
          have := cutN_len d
          exact absurd ((lies_iff (dicOk_cut ly.ok) irr (by omega) z z).mp c) (irr z)
      · rintro σ H5 ⟨rfl, v3, v4, rfl⟩
        exact ⟨_, rfl, qq D H5 x04 hD0 D4⟩
end
end My

namespace My
open PySem PySem.Spec PyProof.Rows L2
def spIsFit (K : PySem.W.Frag) (CT C : Addr) : Sp := fun vs H Q _ => ∃ (t l a q : Addr) (fo th : List Str) (d : Dic) (rs : List (List Str)), vs = [.ref t, .ref l, .ref a] ∧ PairAt K H t fo th ∧ TreeAt H K CT C a q fo th d ∧ Nok (fo ++ th) ∧ fo ≠ [] ∧ (fo ++ th).length ≤ 8 ∧ RowsAt K H l rs ∧ FactR fo th rs ∧ rs.length ≤ 100 ∧
  ∀ H', Ext H H' → Q (.bl (rs.all (holdsR (cutN d)))) H'
abbrev nm__law_is_fit : List Str := ["_law_parts", "_law_told_here", "_law_tree", "_law_over_here"]
theorem sc__law_is_fit : FnScope nm__law_is_fit ["_law_parts", "_law_told_here", "_law_tree"] (defScope s__law_is_fit) := ⟨rfl, rfl, rfl, by decide +kernel, rfl, by decide +kernel, by decide +kernel⟩
section
variable {P : Program} {w : World} {K : PySem.W.Frag} {mg : Str → Option Value} {base : Heap} {f C CB CF CT CN fV : Addr} {fd fdV : FuncData}
theorem ok_isFit (Fn : FnP K "_law_is_fit" s__law_is_fit f fd) (h_law_over : Has P w K mg base 7 "_law_over" ["_law_parts", "_law_tree"] (spLOver K CT C)) (h_law_keeps : Has P w K mg base 3 "_law_keeps" ["_law_over_here", "_law_told_here"] (spKeeps K)) : FnOk P w K mg base CX0 8 f fd ["_law_parts", "_law_told_here", "_law_tree"] (spIsFit K CT C) := by
  refine Fn.ok sc__law_is_fit (fun vs H Q E h => ?_) (fun cdv A outer s H vs Q E hr h => ⟨_, PSs.nox
    (pss_cons (ps_set (i := 3) sc__law_is_fit.nd rfl (Or.inl rfl) (pe_has h_law_over (hr.mono (by decide)) (pa_cons (pv 0) (pa_cons (pv 2) pa_nil))))
      (pss_one (ps_ret (pe_and (pe_cmpR op_notN (pv 3) pe_non (nomark _)) (pe_one (pe_has h_law_keeps (hr.mono (by decide)) (pa_cons (pv 3) (pa_cons (pv 1) pa_nil)))))))), ?_⟩)
  · obtain ⟨t, l, a, q, fo, th, d, rs, rfl, _⟩ := h
    rfl
  · obtain ⟨t, l, a, q, fo, th, d, rs, rfl, pr, tr, nok, fne, len, rat, fr, rl, qq⟩ := h
    have tr0 := tr
    obtain ⟨dx, fs, ho, h1, h2, h3, h4, h5, ly, acy, len1, nd, meth⟩ := tr0
    refine ⟨_, rfl, _, rfl, t, a, q, fo, th, d, rfl, pr, tr, nok, fne, len, fun D H1 x1 hD0 hD => ?_⟩
    refine ⟨_, rfl, rfl, _, rfl, ?_⟩
    refine ⟨_, rfl, _, rfl, D, l, _, fo, rs, rfl, hD, dicOk_cut ly.ok, rat.ext x1, fact_three fr, fact_okr (fun z hz => (nok.2 z hz).2.1) fr, by omega, fun H2 x2 => qq H2 (x1.trans x2)⟩
end
end My

/-! a dict in a list of dicts -/
namespace PySem.SeqAt
open AutoSeq1 (wpAny_loadPart')
open MeetsSeq MeetsSeq2 MeetsSeq3 SeqRoads2
section
variable {prog : Program} {w : World}
theorem containsP_loop (l : Addr) (items : Array Value) (n : Nat) (dd : Option Addr) (sl : Array (Option Value)) (x : Value) (e : Nat → Bool) (k : Nat) :
    ∀ i : Nat, items.size - i = k → MeetsIn prog w (Builtin.«list.__contains__.loop» ⟨[.ref l, x, rawInt i], []⟩)
      (fun A R s => s.heap.get? l = some { cls := .type "list", dict := dd, data := .seq items n, slots := sl } ∧ (∀ j (h : j < items.size), EqP prog w A.in1 s items[j] x (e j)) ∧ R (.ok (.ret (.bool (((List.range items.size).drop i).any e)))) s) := by
  induction k with
  | zero =>
    intro i hk A R s h
    obtain ⟨hp, g, d, tk, os⟩ := s; obtain ⟨hl, he, h⟩ := h
    wp_walk using wpAny_loadPart' hl
    have hi : items[((i : Nat) : Int).toNat]? = none := by simp; omega
    have hd : (List.range items.size).drop i = [] := by simp; omega
    rw [hd] at h
    rw [hi]
    wp_walk
    exact h
  | succ k ih =>
    intro i hk A R s h
    obtain ⟨hp, g, d, tk, os⟩ := s; obtain ⟨hl, he, h⟩ := h
    wp_walk using wpAny_loadPart' hl
    have hlt : i < items.size := by omega
    have hi : items[((i : Nat) : Int).toNat]? = some items[i] := by simp [hlt]
    have hd : (List.range items.size).drop i = i :: (List.range items.size).drop (i + 1) := by simp [List.drop_eq_getElem_cons, hlt]
    rw [hd, List.any_cons] at h
    rw [hi]
    refine wpAny_bind (he i hlt _ _ ?_)
    cases hb : e i with
    | true =>
      rw [hb] at h
      wp_walk
      exact h
    | false =>
      rw [hb] at h
      have hc : ((i : Int) + 1) = ((i + 1 : Nat) : Int) := by push_cast; rfl
      wp_walk
      rw [hc]
      exact ⟨plainId_quiet plain_contains_loop _, codeAny_builtin entry_contains_loop (by
        rw [Around.under_plainId plain_contains_loop _]
        exact ih (i + 1) (by omega) A R _ ⟨hl, he, by simpa using h⟩)⟩
theorem list_containsP (l : Addr) (items : Array Value) (n : Nat) (dd : Option Addr) (sl : Array (Option Value)) (x : Value) (e : Nat → Bool) :
    MeetsIn prog w (Builtin.«list.__contains__» ⟨[.ref l, x], []⟩)
      (fun A R s => s.heap.get? l = some { cls := .type "list", dict := dd, data := .seq items n, slots := sl } ∧ (∀ j (h : j < items.size), EqP prog w A.in1 s items[j] x (e j)) ∧ R (.ok (.ret (.bool ((List.range items.size).any e)))) s) := by
  intro A R s h
  obtain ⟨hp, g, d, tk, os⟩ := s; obtain ⟨hl, he, h⟩ := h
  wp_walk using wpAny_loadPart' hl
  exact ⟨plainId_quiet plain_contains_loop _, codeAny_builtin entry_contains_loop (by
    rw [Around.under_plainId plain_contains_loop _]
    exact containsP_loop l items n dd sl x e _ 0 rfl A R _ ⟨hl, he, by simpa using h⟩)⟩
theorem in_listP {A : Around} {E : Value → Shared → Prop} {s : Shared} {l : Addr} {items : Array Value} {x : Value} {Q : Value → Shared → Prop} (e : Nat → Bool) (hl : s.heap.IsList l items) (he : ∀ j (h : j < items.size), EqP prog w A.in1 s items[j] x (e j))
    (h : Q (.bool ((List.range items.size).any e)) s) : wpAny (model prog w) A (compareOp .In x (.ref l)) Q E s := by
  obtain ⟨⟨cls, dd, data, sl⟩, ho, hc, n, hd⟩ := id hl
  simp only at hc hd
  subst hc hd
  have hT : s.TypeIs (.ref l) "list" := ⟨_, ho, rfl⟩
  have body : wpAny (model prog w) A (call (.builtin "list.__contains__") [.ref l, x]) (fun v s' => v = .bool ((List.range items.size).any e) ∧ s' = s) E s :=
    call_meetsIn F.slot_list_contains hT F.entry_list_contains (F.args_list_contains_2 _ _) (list_containsP l items n dd sl x e) ⟨ho, he, rfl, rfl⟩
  show wpAny _ A (do return .bool (← contains (.ref l) x)) Q E s
  refine wpAny_bind (wpAny_contains_slot hT F.slot_list_contains (wpAny_mono body (fun v s' hv => ?_) fun _ _ e => e))
  obtain ⟨rfl, rfl⟩ := hv
  exact wpAny_truthy_bool (wpAny_pure h)
end
end PySem.SeqAt
namespace L2
open PySem PySem.Spec PyProof.Rows
section
variable {X : Cx}
/-- the things of a list are these dicts -/
def DicsAt (H : Hp) : List V → List (List (Key × V)) → Prop
  | [], [] => True
  | x :: xs, d :: ds => (∃ a, x = .ref a ∧ H a = some (.dK d)) ∧ DicsAt H xs ds
  | _, _ => False
theorem DicsAt.len {H : Hp} : ∀ {xs : List V} {ds : List (List (Key × V))}, DicsAt H xs ds → xs.length = ds.length
  | [], [], _ => rfl
  | _ :: _, _ :: _, h => congrArg (· + 1) h.2.len
  | [], _ :: _, h => h.elim
  | _ :: _, [], h => h.elim
theorem DicsAt.at_ {H : Hp} : ∀ {xs : List V} {ds : List (List (Key × V))} {i : Nat} {x : V}, DicsAt H xs ds → xs[i]? = some x → ∃ a d, x = .ref a ∧ H a = some (.dK d) ∧ ds[i]? = some d
  | _ :: _, d :: _, 0, x, ⟨⟨a, e, h⟩, _⟩, hx => by
    injection hx with hx
    exact ⟨a, d, hx.symm.trans e, h, rfl⟩
  | _ :: xs, _ :: ds, i + 1, x, ⟨_, h⟩, hx => h.at_ (i := i) hx
  | [], [], _, _, _, hx => by cases hx
  | [], _ :: _, _, _, h, _ => h.elim
  | _ :: _, [], _, _, h, _ => h.elim
theorem DicsAt.ext {H H' : Hp} (e : Ext H H') : ∀ {xs : List V} {ds : List (List (Key × V))}, DicsAt H xs ds → DicsAt H' xs ds
  | [], [], _ => True.intro
  | _ :: _, _ :: _, ⟨⟨a, h1, h2⟩, h⟩ => ⟨⟨a, h1, e _ _ h2⟩, DicsAt.ext e h⟩
  | [], _ :: _, h => h.elim
  | _ :: _, [], h => h.elim
theorem DicsAt.app {H : Hp} : ∀ {xs ys : List V} {ds es : List (List (Key × V))}, DicsAt H xs ds → DicsAt H ys es → DicsAt H (xs ++ ys) (ds ++ es)
  | [], _, [], _, _, h => h
  | _ :: _, _, _ :: _, _, ⟨h1, h2⟩, h => ⟨h1, DicsAt.app h2 h⟩
  | [], _, _ :: _, _, h, _ => h.elim
  | _ :: _, _, [], _, h, _ => h.elim
theorem DicsAt.updL {H : Hp} {l : Addr} {ys : List V} {o : HO} (hl : H l = some (.lst ys)) : ∀ {xs : List V} {ds : List (List (Key × V))}, DicsAt H xs ds → DicsAt (upd H l o) xs ds
  | [], [], _ => True.intro
  | _ :: _, _ :: _, ⟨⟨a, h1, h2⟩, h⟩ => ⟨⟨a, h1, by rw [upd_ne (ne_of h2 hl (fun z => nomatch z))]; exact h2⟩, DicsAt.updL hl h⟩
  | [], _ :: _, h => h.elim
  | _ :: _, [], h => h.elim
def rInDs (K : PySem.W.Frag) : R2 := fun x y H Q => ∃ (a l : Addr) (ks : List (Key × V)) (xs : List V) (ds : List (List (Key × V))), x = .ref a ∧ y = .ref l ∧ H a = some (.dK ks) ∧ SqL K H l xs ∧ DicsAt H xs ds ∧ (∀ i : Nat, xs[i]? ≠ some (V.ref a)) ∧ (∀ k v, valV ks k = some v → flatV v = true) ∧ (∀ d, d ∈ ds → ∀ p ∈ d, flatV p.2 = true) ∧ Q (.bl (ds.any fun d => eqDV d ks)) H
theorem op_inDs (hu : X.A.units + 1 < cLine) : OpR X (compareOp .In) (rInDs X.K) := by
  intro pins s σ H x y v u Q I rx ry h
  obtain ⟨a, l, ks, xs, ds, rfl, rfl, ea, hl, dz, ne, f1, f2, q⟩ := h
  obtain rfl : v = Value.ref a := rx
  obtain rfl : u = Value.ref l := ry
  obtain ⟨_, ya, va, ra, da⟩ := (show ObjOk X.prog X.w H s.heap a (.dK ks) from I.hok a _ ea)
  obtain ⟨its, rv, ht, hz⟩ := I.list hl
  have len := dz.len
  have rl := rv.length
  have lit : its.length = ds.length := by omega
  refine SeqAt.in_listP (prog := X.prog) (w := X.w) (e := fun j => match ds[j]? with | some d => eqDV d ks | none => false) ht.isList (fun j hj => ?_) ?_
  · have hj' : j < its.length := by simpa using hj
    have jx : j < xs.length := by omega
    obtain ⟨b, d, ex, hb, hd⟩ := dz.at_ (i := j) (List.getElem?_eq_getElem jx)
    have rj : RelV xs[j] its[j] := pair_at rv jx hj'
    rw [ex] at rj
    have e2 : its.toArray[j] = .ref b := by
      have : its[j] = Value.ref b := rj
      simpa using this
    rw [e2]
    obtain ⟨_, yb, vb, rb, db⟩ := (show ObjOk X.prog X.w H s.heap b (.dK d) from I.hok b _ hb)
    have nab : b ≠ a := fun e => ne j (by rw [List.getElem?_eq_getElem jx, ex, e])
    have e3 : (match ds[j]? with | some d => eqDV d ks | none => false) = eqDV d ks := by rw [hd]
    show SeqAt.EqP X.prog X.w X.A.in1 s (.ref b) (.ref a) (match ds[j]? with | some d => eqDV d ks | none => false)
    rw [e3]
    refine SeqAt.eqP_refs nab fun E Q' hq => ?_
    refine PySem.W.keq_eq (knd := mixKind X.prog X.w) (r := _) yb ya db da (show X.A.in1.units < cLine from hu) (fun _ => hits_any ra rb (f2 d (List.mem_of_getElem? hd)) f1) ?_
    refine cast (congrArg (fun b => Q' (Value.bool b) s) ?_) hq
    unfold eqDV
    rw [rb.length, ra.length]
  · have e4 : ((List.range its.toArray.size).any fun j => match ds[j]? with | some d => eqDV d ks | none => false) = ds.any fun d => eqDV d ks := by
      rw [List.size_toArray, lit]
      cases c : ds.any fun d => eqDV d ks with
      | true =>
        rw [List.any_eq_true] at c ⊢
        obtain ⟨d, hd, e⟩ := c
        obtain ⟨j, hj⟩ := List.mem_iff_getElem?.mp hd
        exact ⟨j, List.mem_range.mpr (List.getElem?_eq_some_iff.mp hj).1, by rw [hj]; exact e⟩
      | false =>
        rw [List.any_eq_false] at c ⊢
        intro j hj
        have jl := List.mem_range.mp hj
        rw [List.getElem?_eq_getElem jl]
        exact c _ (List.getElem_mem jl)
    rw [e4]
    exact ⟨.bl _, H, I, rfl, q⟩
end
end L2

/-! a list == [] -/
namespace L2
open PySem PySem.Spec PyProof.Rows
section
variable {X : Cx}
def rEqNil (K : PySem.W.Frag) : R2 := fun x y H Q => ∃ (a b : Addr) (xs : List V), x = .ref a ∧ y = .ref b ∧ SqL K H a xs ∧ SqL K H b [] ∧ Q (.bl xs.isEmpty) H
def rNeNil (K : PySem.W.Frag) : R2 := fun x y H Q => ∃ (a b : Addr) (xs : List V), x = .ref a ∧ y = .ref b ∧ SqL K H a xs ∧ SqL K H b [] ∧ Q (.bl (!xs.isEmpty)) H
theorem op_eqNil (hu : X.A.units < cLine) : OpR X (compareOp .Eq) (rEqNil X.K) := by
  intro pins s σ H x y v u Q I rx ry h
  obtain ⟨a, b, xs, rfl, rfl, ha, hb, q⟩ := h
  obtain rfl : v = Value.ref a := rx
  obtain rfl : u = Value.ref b := ry
  obtain ⟨its, rv, ht, hz⟩ := I.list ha
  obtain ⟨its2, rv2, ht2, hz2⟩ := I.list hb
  cases rv2
  show wpAny _ _ (richCompare .Eq (.ref a) (.ref b)) _ _ s
  cases xs with
  | nil =>
    cases rv
    refine SeqAt.RcAt.lists (e := fun _ => true) ht.isList ht2.isList rfl hu (fun j h1 _ => absurd h1 (Nat.not_lt_zero j)) X.prog X.w _ _ ?_
    exact ⟨.bl true, H, I, rfl, q⟩
  | cons x xs =>
    cases rv
    refine SeqAt.RcAt.lists_lengths ht.isList ht2.isList (by simp) hu X.prog X.w _ _ ?_
    exact ⟨.bl false, H, I, rfl, q⟩
theorem op_neNil (hu : X.A.units < cLine) : OpR X (compareOp .NotEq) (rNeNil X.K) := by
  intro pins s σ H x y v u Q I rx ry h
  obtain ⟨a, b, xs, rfl, rfl, ha, hb, q⟩ := h
  obtain rfl : v = Value.ref a := rx
  obtain rfl : u = Value.ref b := ry
  obtain ⟨its, rv, ht, hz⟩ := I.list ha
  obtain ⟨its2, rv2, ht2, hz2⟩ := I.list hb
  cases rv2
  show wpAny _ _ (richCompare .NotEq (.ref a) (.ref b)) _ _ s
  cases xs with
  | nil =>
    cases rv
    refine SeqAt.RcNeAt.lists (e := fun _ => true) ht.isList ht2.isList rfl hu (fun j h1 _ => absurd h1 (Nat.not_lt_zero j)) X.prog X.w _ _ ?_
    exact ⟨.bl false, H, I, rfl, q⟩
  | cons x xs =>
    cases rv
    refine SeqAt.RcNeAt.lists_lengths ht.isList ht2.isList (by simp) hu X.prog X.w _ _ ?_
    exact ⟨.bl true, H, I, rfl, q⟩
end
end L2

namespace My
open PySem PySem.Spec PyProof.Rows L2
/-! ### all trees of a house, as the law builds them -/
def stepT (fo : List Str) (z : Str) (ds : List Dic) : List Dic := ds.flatMap fun d => d :: (fo.filter fun f => !decide (f = z) && !liesB (setD d z (.str f)) z z).map fun f => setD d z (.str f)
def allT (fo ns : List Str) : List Dic := ns.foldl (fun ds z => stepT fo z ds) [[]]
def TrsAt (H : Hp) (xs : List V) (ds : List Dic) : Prop := DicsAt H xs (ds.map kd)
theorem TrsAt.len {H : Hp} {xs : List V} {ds : List Dic} (h : TrsAt H xs ds) : xs.length = ds.length := by
  have := DicsAt.len h
  rwa [List.length_map] at this
theorem TrsAt.ext {H H' : Hp} {xs : List V} {ds : List Dic} (h : TrsAt H xs ds) (e : Ext H H') : TrsAt H' xs ds := DicsAt.ext e h
theorem TrsAt.at_ {H : Hp} {xs : List V} {ds : List Dic} {i : Nat} {x : V} (h : TrsAt H xs ds) (hx : xs[i]? = some x) : ∃ a d, x = .ref a ∧ H a = some (.dK (kd d)) ∧ ds[i]? = some d := by
  obtain ⟨a, d, h1, h2, h3⟩ := DicsAt.at_ h hx
  rw [List.getElem?_map] at h3
  cases e : ds[i]? with
  | none => rw [e] at h3; cases h3
  | some d' =>
    rw [e] at h3
    injection h3 with h3
    subst h3
    exact ⟨a, d', h1, h2, rfl⟩
theorem TrsAt.snoc {H : Hp} {xs : List V} {ds : List Dic} {a : Addr} {d : Dic} (h : TrsAt H xs ds) (ha : H a = some (.dK (kd d))) : TrsAt H (xs ++ [.ref a]) (ds ++ [d]) := by
  unfold TrsAt
  rw [List.map_append]
  exact DicsAt.app h ⟨⟨a, rfl, ha⟩, True.intro⟩
theorem TrsAt.updL {H : Hp} {l : Addr} {ys : List V} {o : HO} {xs : List V} {ds : List Dic} (h : TrsAt H xs ds) (hl : H l = some (.lst ys)) : TrsAt (L2.upd H l o) xs ds := DicsAt.updL hl h
theorem step_len (fo : List Str) (z : Str) (ds : List Dic) : (stepT fo z ds).length ≤ (fo.length + 1) * ds.length := by
  unfold stepT
  induction ds with
  | nil => exact Nat.zero_le _
  | cons d ds ih =>
    rw [List.flatMap_cons, List.length_append, List.length_cons, List.length_cons, Nat.mul_succ, List.length_map]
    have := List.length_filter_le (fun f => !decide (f = z) && !liesB (setD d z (.str f)) z z) fo
    omega
theorem step_snoc (fo : List Str) (z : Str) (ds : List Dic) (d : Dic) : stepT fo z (ds ++ [d]) = stepT fo z ds ++ d :: (fo.filter fun f => !decide (f = z) && !liesB (setD d z (.str f)) z z).map fun f => setD d z (.str f) := by
  unfold stepT
  rw [List.flatMap_append, List.flatMap_cons, List.flatMap_nil, List.append_nil]
theorem all_snoc (fo ns : List Str) (z : Str) : allT fo (ns ++ [z]) = stepT fo z (allT fo ns) := by
  unfold allT
  rw [List.foldl_append]
  rfl
theorem pow_mul_le {a b c : Nat} : a ≤ b → c * a ≤ c * b := fun h => Nat.mul_le_mul_left c h
theorem all_len (fo : List Str) : ∀ (rest : List Str) (ds : List Dic), (rest.foldl (fun ds z => stepT fo z ds) ds).length ≤ (fo.length + 1) ^ rest.length * ds.length
  | [], ds => by simp
  | z :: rest, ds => by
    refine Nat.le_trans (all_len fo rest (stepT fo z ds)) ?_
    have := step_len fo z ds
    rw [List.length_cons, Nat.pow_succ, Nat.mul_assoc]
    exact Nat.mul_le_mul_left _ this
/-- a tree of the nodes pre -/
structure TreeOk (fo pre : List Str) (d : Dic) : Prop where
  sub : ∀ k v, getD d k = some v → k ∈ pre ∧ ∃ f, f ∈ fo ∧ v = .str f
  nd : (d.map (·.1)).Nodup
  acy : Acy d
  canon : d = cutN (lyD pre d)
  len : d.length ≤ pre.length
theorem getD_all {d : Dic} {q : Str × V} (nd : (d.map (·.1)).Nodup) (h : q ∈ d) : getD d q.1 = some q.2 := getD_pair nd h
theorem TreeOk.ok {fo pre : List Str} {d : Dic} (h : TreeOk fo pre d) : DicOk fo d := fun p hp => by
  obtain ⟨_, f, hf, e⟩ := h.sub p.1 p.2 (getD_all h.nd hp)
  exact .inr ⟨f, hf, e⟩
theorem TreeOk.irr {fo pre : List Str} {d : Dic} (h : TreeOk fo pre d) (a : Str) : ¬ Anc (look d) a a := fun k => acy_nocyc h.acy a ((cyc_anc h.ok).mpr k)
theorem acy_nil : Acy [] := fun z => ⟨1, rfl⟩
theorem treeOk_nil (fo : List Str) : TreeOk fo [] [] := ⟨(fun k v h => nomatch h), List.nodup_nil, acy_nil, rfl, Nat.le_refl _⟩
theorem getD_nokey {d : Dic} {z : Str} (h : getD d z = none) : z ∉ d.map (·.1) := fun m => by
  obtain ⟨v, e⟩ := getD_some m
  rw [h] at e
  cases e
theorem ly_app (ns ms : List Str) (d : Dic) : lyD (ns ++ ms) d = lyD ns d ++ lyD ms d := by
  unfold lyD
  rw [List.map_append]
theorem cutN_app (d e : Dic) : cutN (d ++ e) = cutN d ++ cutN e := by
  unfold cutN
  rw [List.filter_append]
theorem ly_congr {ns : List Str} {d e : Dic} (h : ∀ z, z ∈ ns → (getD d z).getD .non = (getD e z).getD .non) : lyD ns d = lyD ns e := by
  unfold lyD
  refine List.map_congr_left fun z hz => ?_
  rw [h z hz]
theorem treeOk_stay {fo pre : List Str} {d : Dic} {z : Str} (h : TreeOk fo pre d) (hz : z ∉ pre) : TreeOk fo (pre ++ [z]) d := by
  refine ⟨fun k v e => ⟨List.mem_append_left _ (h.sub k v e).1, (h.sub k v e).2⟩, h.nd, h.acy, ?_, by rw [List.length_append]; exact Nat.le_succ_of_le h.len⟩
  have e : getD d z = none := by
    cases e : getD d z with
    | none => rfl
    | some v => exact absurd (h.sub z v e).1 hz
  rw [ly_app, cutN_app, ← h.canon]
  have : cutN (lyD [z] d) = [] := by
    show cutN [(z, (getD d z).getD .non)] = []
    rw [e]
    rfl
  rw [this, List.append_nil]
theorem hits_le {d : Dic} {z : Str} {v : V} : ∀ n u, itV d n u = .str z → ∃ m, m ≤ n ∧ itV (setD d z v) m u = .str z
  | 0, u, h => ⟨0, Nat.le_refl _, h⟩
  | n + 1, u, h => by
    by_cases e : u = .str z
    · exact ⟨0, Nat.zero_le _, e⟩
    · obtain ⟨m, h1, h2⟩ := hits_le (v := v) n (stepV d u) h
      refine ⟨m + 1, Nat.succ_le_succ h1, ?_⟩
      show itV (setD d z v) m (stepV (setD d z v) u) = _
      rw [step_set u e]
      exact h2
theorem set_acy {fo : List Str} {d : Dic} {z f : Str} (ok : DicOk fo d) (h : Acy d) (len : d.length ≤ 7) (hl : liesB (setD d z (.str f)) z z = false) : Acy (setD d z (.str f)) := by
  refine acy_setS h fun n hn => ?_
  have e0 := acy_end ok h f
  have n8 : n ≤ d.length := by
    refine Nat.le_of_not_lt fun lt => ?_
    have := it_stay e0 (show d.length + 1 ≤ n from lt)
    rw [hn] at this
    cases this
  obtain ⟨m, h1, h2⟩ := hits_le (v := .str f) n _ hn
  have : liesB (setD d z (.str f)) z z = true := by
    unfold liesB
    rw [liesN_iff]
    refine ⟨m, by omega, ?_⟩
    have e : (getD (setD d z (.str f)) z).getD .non = .str f := by
      have := step_new (d := d) (z := z) (v := .str f)
      exact this
    rw [e]
    exact h2
  rw [hl] at this
  cases this
theorem getD_setD (d : Dic) (z y : Str) (v : V) : getD (setD d z v) y = if y = z then some v else getD d y := by
  rw [← val_kd, ← put_kd, valV_put, val_kd]
  by_cases e : y = z
  · subst e
    rw [if_pos rfl, if_pos rfl]
  · rw [if_neg e, if_neg fun h => e (by injection h)]
theorem treeOk_set {fo pre : List Str} {d : Dic} {z f : Str} (h : TreeOk fo pre d) (hz : z ∉ pre) (hf : f ∈ fo) (len : pre.length ≤ 7) (hl : liesB (setD d z (.str f)) z z = false) : TreeOk fo (pre ++ [z]) (setD d z (.str f)) := by
  have e : getD d z = none := by
    cases e : getD d z with
    | none => rfl
    | some v => exact absurd (h.sub z v e).1 hz
  have nk := getD_nokey e
  have es := set_new (v := .str f) nk
  have hd := h.len
  refine ⟨fun k v hk => ?_, ?_, set_acy h.ok h.acy (by omega) hl, ?_, ?_⟩
  · rw [getD_setD] at hk
    by_cases c : k = z
    · rw [if_pos c] at hk
      injection hk with hk
      exact ⟨List.mem_append_right _ (List.mem_singleton.mpr c), f, hf, hk.symm⟩
    · rw [if_neg c] at hk
      exact ⟨List.mem_append_left _ (h.sub k v hk).1, (h.sub k v hk).2⟩
  · rw [es, List.map_append, List.nodup_append]
    refine ⟨h.nd, by simp, fun a ha b hb e => ?_⟩
    rw [List.map_singleton, List.mem_singleton] at hb
    rw [e, hb] at ha
    exact nk ha
  · rw [ly_app, cutN_app]
    have e1 : lyD pre (setD d z (.str f)) = lyD pre d := ly_congr fun y hy => by
      rw [getD_setD, if_neg (show ¬ y = z from fun c => hz (by rw [← c]; exact hy))]
    have e2 : cutN (lyD [z] (setD d z (.str f))) = [(z, .str f)] := by
      show cutN [(z, (getD (setD d z (.str f)) z).getD .non)] = _
      rw [getD_setD, if_pos rfl]
      rfl
    rw [e1, e2, ← h.canon]
    exact es
  · rw [es, List.length_append, List.length_append]
    exact Nat.succ_le_succ hd
theorem all_okG (fo : List Str) : ∀ (rest pre : List Str) (ds : List Dic), (pre ++ rest).Nodup → (pre ++ rest).length ≤ 8 → (∀ d, d ∈ ds → TreeOk fo pre d) → ∀ d, d ∈ rest.foldl (fun ds z => stepT fo z ds) ds → TreeOk fo (pre ++ rest) d
  | [], pre, ds, _, _, h, d, hd => by
    rw [List.append_nil]
    exact h d hd
  | z :: rest, pre, ds, nd, len, h, d, hd => by
    have e : pre ++ z :: rest = (pre ++ [z]) ++ rest := by rw [List.append_assoc]; rfl
    rw [e] at nd len ⊢
    have hz : z ∉ pre := fun m => by
      have := (List.nodup_append.mp (List.nodup_append.mp nd).1).2.2 z m z (List.mem_singleton.mpr rfl)
      exact this rfl
    refine all_okG fo rest (pre ++ [z]) (stepT fo z ds) nd len (fun d hd => ?_) d hd
    unfold stepT at hd
    obtain ⟨d0, h0, hd⟩ := List.mem_flatMap.mp hd
    rcases List.mem_cons.mp hd with rfl | hd
    · exact treeOk_stay (h _ h0) hz
    · obtain ⟨f, hf, rfl⟩ := List.mem_map.mp hd
      obtain ⟨hf, c⟩ := List.mem_filter.mp hf
      have c2 : liesB (setD d0 z (.str f)) z z = false := by
        have := (Bool.and_eq_true_iff.mp c).2
        simpa using this
      rw [List.length_append, List.length_append] at len
      simp at len
      exact treeOk_set (h _ h0) hz hf (by omega) c2
theorem all_ok {fo ns : List Str} (nd : ns.Nodup) (len : ns.length ≤ 8) {d : Dic} (h : d ∈ allT fo ns) : TreeOk fo ns d := by
  have := all_okG fo ns [] [[]] (by simpa using nd) (by simpa using len) (fun d hd => by rw [List.mem_singleton.mp hd]; exact treeOk_nil fo) d h
  simpa using this
/-- what lies over the nodes pre alone -/
def res (e : Str → Option Str) (pre : List Str) (x : Str) : Option Str := if x ∈ pre then e x else none
theorem anc_mono {e e' : Str → Option Str} (h : ∀ a b, e a = some b → e' a = some b) {a b : Str} (k : Anc e a b) : Anc e' a b := by
  induction k with
  | one k => exact .one (h _ _ k)
  | up k _ ih => exact .up (h _ _ k) ih
theorem look_set (d : Dic) (z f : Str) : look (setD d z (.str f)) = fun x => if x = z then some f else look d x := by
  funext x
  unfold look
  rw [getD_setD]
  by_cases c : x = z
  · rw [if_pos c, if_pos c]
  · rw [if_neg c, if_neg c]
theorem all_hasG (fo : List Str) (e : Str → Option Str) (irr : ∀ a, ¬ Anc e a a) : ∀ (rest pre : List Str) (ds : List Dic), (pre ++ rest).Nodup → (pre ++ rest).length ≤ 8 → (∀ a b, e a = some b → a ∈ pre ++ rest → b ∈ fo) → (∀ d, d ∈ ds → TreeOk fo pre d) → (∃ d, d ∈ ds ∧ look d = res e pre) →
    ∃ d, d ∈ rest.foldl (fun ds z => stepT fo z ds) ds ∧ look d = res e (pre ++ rest)
  | [], pre, ds, _, _, _, _, h => by
    rw [List.append_nil]
    exact h
  | z :: rest, pre, ds, nd, len, sub, ok, ⟨d, hd, hl⟩ => by
    have ee : pre ++ z :: rest = (pre ++ [z]) ++ rest := by rw [List.append_assoc]; rfl
    rw [ee] at nd len sub ⊢
    have hz : z ∉ pre := fun m => by
      have := (List.nodup_append.mp (List.nodup_append.mp nd).1).2.2 z m z (List.mem_singleton.mpr rfl)
      exact this rfl
    have l7 : pre.length ≤ 7 := by
      rw [List.length_append, List.length_append] at len
      simp at len
      omega
    have ok' : ∀ d, d ∈ stepT fo z ds → TreeOk fo (pre ++ [z]) d := fun d hd => by
      have := all_okG fo [z] pre ds (List.nodup_append.mp nd).1 (by rw [List.length_append]; simp; omega) ok d hd
      exact this
    refine all_hasG fo e irr rest (pre ++ [z]) (stepT fo z ds) nd len sub ok' ?_
    cases ez : e z with
    | none =>
      refine ⟨d, List.mem_flatMap.mpr ⟨d, hd, List.mem_cons_self⟩, ?_⟩
      rw [hl]
      funext x
      unfold res
      by_cases c : x ∈ pre
      · rw [if_pos c, if_pos (List.mem_append_left _ c)]
      · rw [if_neg c]
        by_cases c2 : x ∈ pre ++ [z]
        · rw [if_pos c2]
          have : x = z := List.mem_singleton.mp ((List.mem_append.mp c2).resolve_left c)
          rw [this, ez]
        · rw [if_neg c2]
    | some f =>
      have hf : f ∈ fo := sub z f ez (by simp)
      have nfz : f ≠ z := fun c => irr z (.one (by rw [ez, c]))
      have en : look (setD d z (.str f)) = res e (pre ++ [z]) := by
        rw [look_set, hl]
        funext x
        unfold res
        by_cases c : x = z
        · subst c
          rw [if_pos rfl, if_pos (by simp), ez]
        · rw [if_neg c]
          by_cases c2 : x ∈ pre
          · rw [if_pos c2, if_pos (List.mem_append_left _ c2)]
          · rw [if_neg c2, if_neg fun m => (List.mem_append.mp m).elim c2 fun m => c (List.mem_singleton.mp m)]
      have irr' : ∀ a, ¬ Anc (look (setD d z (.str f))) a a := fun a k => by
        rw [en] at k
        refine irr a (anc_mono (fun x y hx => ?_) k)
        unfold res at hx
        split at hx
        · exact hx
        · cases hx
      have okd := ok d hd
      have ls := setD_len d z (.str f)
      have dl := okd.len
      have okn : DicOk fo (setD d z (.str f)) := fun p hp => (setD_mem hp).elim (okd.ok p) fun e => .inr ⟨f, hf, e⟩
      have nl : liesB (setD d z (.str f)) z z = false := by
        cases c : liesB (setD d z (.str f)) z z with
        | false => rfl
        | true => exact absurd ((lies_iff okn irr' (by omega) z z).mp c) (irr' z)
      refine ⟨setD d z (.str f), List.mem_flatMap.mpr ⟨d, hd, List.mem_cons_of_mem _ (List.mem_map.mpr ⟨f, List.mem_filter.mpr ⟨hf, ?_⟩, rfl⟩)⟩, en⟩
      rw [nl, decide_eq_false nfz]
      rfl
/-- each tree is one of all trees -/
theorem all_has {fo ns : List Str} (nd : ns.Nodup) (len : ns.length ≤ 8) {e : Str → Option Str} (sub : ∀ a b, e a = some b → a ∈ ns ∧ b ∈ fo) (irr : ∀ a, ¬ Anc e a a) : ∃ d, d ∈ allT fo ns ∧ look d = e := by
  obtain ⟨d, h1, h2⟩ := all_hasG fo e irr ns [] [[]] (by simpa using nd) (by simpa using len) (fun a b h _ => (sub a b h).2) (fun d hd => by rw [List.mem_singleton.mp hd]; exact treeOk_nil fo) ⟨[], List.mem_singleton.mpr rfl, by funext x; rfl⟩
  refine ⟨d, h1, ?_⟩
  rw [h2]
  funext x
  unfold res
  rw [List.nil_append]
  by_cases c : x ∈ ns
  · rw [if_pos c]
  · rw [if_neg c]
    cases ex : e x with
    | none => rfl
    | some b => exact absurd (sub x b ex).1 c
end My

namespace My
open PySem PySem.Spec PyProof.Rows L2
def fitL (fo ns : List Str) (rs : List (List Str)) : List Dic := (allT fo ns).filter fun d => rs.all (holdsR d)
def spTrees (K : PySem.W.Frag) : Sp := fun vs H Q _ => ∃ t fo th, vs = [.ref t] ∧ PairAt K H t fo th ∧ (fo ++ th).Nodup ∧ fo.length ≤ 4 ∧ (fo ++ th).length ≤ 7 ∧ ∀ l xs H', Ext H H' → H l = none → H' l = some (.lst xs) → TrsAt H' xs (allT fo (fo ++ th)) → Q (.ref l) H'
def spFitting (K : PySem.W.Frag) : Sp := fun vs H Q _ => ∃ t l fo th rs, vs = [.ref t, .ref l] ∧ PairAt K H t fo th ∧ (fo ++ th).Nodup ∧ OkS (fo ++ th) ∧ fo.length ≤ 4 ∧ (fo ++ th).length ≤ 7 ∧ RowsAt K H l rs ∧ FactR fo th rs ∧ rs.length < 1000 ∧
  ∀ l xs H', Ext H H' → H l = none → H' l = some (.lst xs) → TrsAt H' xs (fitL fo (fo ++ th) rs) → Q (.ref l) H'
abbrev nm__law_all_trees : List Str := ["_law_parts", "_law_nodes", "_law_found", "_law_node", "_law_longer", "_law_over_here", "_law_folder", "_law_more"]
theorem sc__law_all_trees : FnScope nm__law_all_trees ["_law_parts"] (defScope s__law_all_trees) := ⟨rfl, rfl, rfl, by decide +kernel, rfl, by decide +kernel, by decide +kernel⟩
abbrev nm__law_fitting : List Str := ["_law_parts", "_law_told_here", "_law_over_here"]
theorem sc__law_fitting : FnScope nm__law_fitting ["_law_parts", "_law_told_here"] (defScope s__law_fitting) := ⟨rfl, rfl, rfl, by decide +kernel, rfl, by decide +kernel, by decide +kernel⟩
section
variable {P : Program} {w : World} {K : PySem.W.Frag} {mg : Str → Option Value} {base : Heap} {f C CB : Addr} {fd : FuncData}
theorem ok_trees (Fn : FnP K "_law_all_trees" s__law_all_trees f fd) (h_law_lies : Has P w K mg base 1 "_law_lies" ["_law_over_here", "_law_node", "_law_folder"] (spLies K)) (gB_dict : mg "dict" = none) (gB_list : mg "list" = none) : FnOk P w K mg base CX0 2 f fd ["_law_parts"] (spTrees K) := by
  refine Fn.ok sc__law_all_trees (fun vs H Q E h => ?_) (fun cdv A outer s H vs Q E hr h => ⟨_, PSs.nox
    (pss_cons (ps_set (i := 1) sc__law_all_trees.nd rfl (Or.inl rfl) (pe_op L2.op_cat (pe_ix ix_tup (pv 0) pe_int (fun _ _ => rfl)) (pe_ix ix_tup (pv 0) pe_int (fun _ _ => rfl))))
      (pss_cons (ps_set (i := 2) sc__law_all_trees.nd rfl (Or.inl rfl) (pe_lst (pa_cons pe_dnewK pa_nil)))
      (pss_cons (ps_for PassesOwn.never rfl (pi_list (pv 1)) (pg_name (i := 3) sc__law_all_trees.nd rfl (Or.inl rfl))
      (pss_cons (ps_set (i := 4) sc__law_all_trees.nd rfl (Or.inl rfl) (pe_lst pa_nil))
      (pss_cons (ps_for PassesOwn.never rfl (pi_list (pv 2)) (pg_name (i := 5) sc__law_all_trees.nd rfl (Or.inl rfl))
      (pss_cons (ps_expr (pe_bm PySem.F.plainAttrs_list PySem.F.slot_list_append PySem.F.type_list_append mt_append (pv 4) (pa_cons (pe_callTy call_dictD (by rfl) gB_dict (by decide +kernel) (pa_cons (pv 5) pa_nil)) pa_nil)))
      (pss_one (ps_for PassesOwn.never rfl (pi_list (pe_ix ix_tup (pv 0) pe_int (fun _ _ => rfl))) (pg_name (i := 6) sc__law_all_trees.nd rfl (Or.inl rfl))
      (pss_cons (ps_set (i := 7) sc__law_all_trees.nd rfl (Or.inl rfl) (pe_callTy call_dictD (by rfl) gB_dict (by decide +kernel) (pa_cons (pv 5) pa_nil)))
      (pss_cons (ps_dput (hu_of hr) (pv 7) (pv 3) (pv 6) rfl)
      (pss_one (ps_if (PW.pt (pw_and (pt_cmpR op_ne (pv 6) (pv 3) (nomark _)) (pw_and1 (pt_not (pt_val (pe_has h_law_lies (hr.mono (by decide)) (pa_cons (pv 7) (pa_cons (pv 3) (pa_cons (pv 3) pa_nil))))))))) (pss_one (ps_expr (pe_bm PySem.F.plainAttrs_list PySem.F.slot_list_append PySem.F.type_list_append mt_append (pv 4) (pa_cons (pv 7) pa_nil)))) pss_nil))))))))
      (pss_one (ps_set (i := 2) sc__law_all_trees.nd rfl (Or.inl rfl) (pe_callTy call_lstS (by rfl) gB_list (by decide +kernel) (pa_cons (pv 4) pa_nil)))))))
      (pss_one (ps_ret (pv 2)))))), ?_⟩)
  · obtain ⟨t, fo, th, rfl, _⟩ := h
    rfl
  · obtain ⟨t, fo, th, rfl, ⟨lf, lt, sq, hf, ht⟩, nd, f4, n7, q⟩ := h
    have lm : ∀ zs : List Str, (zs.map V.str).length = zs.length := fun zs => List.length_map _
    have okT : ∀ i, ∀ d, d ∈ allT fo ((fo ++ th).take i) → TreeOk fo ((fo ++ th).take i) d := fun i d hd => all_ok (nd.sublist (List.take_sublist _ _)) (by rw [List.length_take]; omega) hd
    have lenT : ∀ i, (allT fo ((fo ++ th).take i)).length ≤ 78125 := fun i => by
      have h1 := all_len fo ((fo ++ th).take i) [[]]
      have h2 : (fo.length + 1) ^ ((fo ++ th).take i).length ≤ 5 ^ 7 := Nat.le_trans (Nat.pow_le_pow_left (by omega) _) (Nat.pow_le_pow_right (by decide) (by rw [List.length_take]; omega))
      unfold allT
      simp only [List.length_singleton, Nat.mul_one] at h1
      exact Nat.le_trans h1 (Nat.le_trans h2 (by decide))
    refine ⟨_, rfl, t, _, _, _, rfl, rfl, sq, rfl, _, rfl, t, _, _, _, rfl, rfl, sq, rfl, lf, lt, _, _, rfl, rfl, hf, ht, by rw [lm, lm, sizeLine_eq, ← List.length_append]; omega, fun ln hln => ?_⟩
    obtain ⟨H1, hH1⟩ : ∃ H1, H1 = L2.upd H ln (.lst (fo.map V.str ++ th.map V.str)) := ⟨_, rfl⟩
    have xH1 : Ext H H1 := by
      rw [hH1]
      exact Ext.upd hln
    have nH1 : H1 ln = some (.lst (fo.map V.str ++ th.map V.str)) := by rw [hH1, upd_same]
    rw [← hH1]
    clear hH1
    rw [← List.map_append] at nH1
    refine fun d0 hd0 => ⟨Nat.le_of_ble_eq_true rfl, fun l0 hl0 => ?_⟩
    obtain ⟨H2, hH2⟩ : ∃ H2, H2 = L2.upd (L2.upd H1 d0 (.dK [])) l0 (.lst [.ref d0]) := ⟨_, rfl⟩
    rw [← hH2]
    have x2 : Ext H1 H2 := by
      rw [hH2]
      exact (Ext.upd hd0).trans (Ext.upd hl0)
    have l2 : H2 l0 = some (.lst [.ref d0]) := by rw [hH2, upd_same]
    have t2 : TrsAt H2 [.ref d0] [[]] := ⟨⟨d0, rfl, by rw [hH2]; exact Ext.upd hl0 _ _ upd_same⟩, True.intro⟩
    refine ⟨_, rfl, ln, rfl, ⟨_, SqL.of (x2 _ _ nH1)⟩, for_list (K := K) (a := ln) (xs := (fo ++ th).map V.str) (fun i σ H' => Ext H2 H' ∧ ∃ l xs v1 v2 v3 v4 v5, H l = none ∧ σ = [some (.ref t), some (.ref ln), some (.ref l), v1, v2, v3, v4, v5] ∧ H' l = some (.lst xs) ∧ TrsAt H' xs (allT fo ((fo ++ th).take i))) ?_ ?_ ?_ ?_⟩
    · exact ⟨Ext.rfl', l0, _, none, none, none, none, none, ext_none (xH1.trans (Ext.upd hd0)) hl0, rfl, l2, t2⟩
    · rintro i σ H' _ ⟨x', _⟩
      exact SqL.of (x' _ _ (x2 _ _ nH1))
    · rintro i v σ H3 hv ⟨x3, l, xs, v1, v2, v3, v4, v5, ln0, rfl, l3, t3⟩
      obtain ⟨z, hz, rfl⟩ := strs_at hv
      obtain ⟨ds, hds⟩ : ∃ ds, ds = allT fo ((fo ++ th).take i) := ⟨_, rfl⟩
      have tkz : allT fo ((fo ++ th).take (i + 1)) = stepT fo z ds := by
        rw [List.take_add_one, hz, hds]
        exact all_snoc _ _ _
      have okd : ∀ d, d ∈ ds → DicOk fo d ∧ d.length ≤ 7 := fun d hd => by
        rw [hds] at hd
        have := okT i d hd
        refine ⟨this.ok, ?_⟩
        have h := this.len
        rw [List.length_take] at h
        omega
      have len5 : ds.length ≤ 78125 := by rw [hds]; exact lenT i
      rw [← hds] at t3
      have tlen := t3.len
      refine ⟨Nat.zero_le _, fun lg hlg => ?_⟩
      obtain ⟨H4, hH4⟩ : ∃ H4, H4 = L2.upd H3 lg (.lst []) := ⟨_, rfl⟩
      have xH4 : Ext H3 H4 := by
        rw [hH4]
        exact Ext.upd hlg
      have nH4 : H4 lg = some (.lst []) := by rw [hH4, upd_same]
      rw [← hH4]
      clear hH4
      refine ⟨_, rfl, l, rfl, ⟨_, SqL.of (xH4 _ _ l3)⟩, for_list (K := K) (a := l) (xs := xs) (fun j σ H' => Ext H3 H' ∧ ∃ acc v3 v4 v5, σ = [some (.ref t), some (.ref ln), some (.ref l), some (.str z), some (.ref lg), v3, v4, v5] ∧ H' lg = some (.lst acc) ∧ TrsAt H' acc (stepT fo z (ds.take j))) ?_ ?_ ?_ ?_⟩
      · exact ⟨xH4, [], v3, v4, v5, rfl, nH4, True.intro⟩
      · rintro j σ H' _ ⟨x', _⟩
        exact SqL.of (x' _ _ l3)
      · rintro j v σ H5 hv ⟨x5, acc, v3, v4, v5, rfl, g5, t5⟩
        have jx : j < xs.length := (List.getElem?_eq_some_iff.mp hv).1
        obtain ⟨a, d, rfl, ha3, hdj⟩ := t3.at_ hv
        have md := List.mem_of_getElem? hdj
        obtain ⟨okd1, dlen⟩ := okd d md
        have ha5 := x5 _ _ ha3
        have alen : acc.length ≤ 5 * 78125 := by
          rw [t5.len]
          have h1 := step_len fo z (ds.take j)
          rw [List.length_take] at h1
          have h2 : (fo.length + 1) * min j ds.length ≤ 5 * 78125 := Nat.mul_le_mul (by omega) (by omega)
          omega
        refine ⟨_, rfl, .inl ⟨rfl, _, .inl (.inl g5)⟩, _, rfl, a, kd d, rfl, .inl ha5, fun c hc => ?_⟩
        have xc := Ext.upd (o := .dK (kd d)) hc
        refine ⟨lg, _, _, rfl, rfl, xc _ _ g5, by rw [sizeLine_eq]; omega, ?_⟩
        obtain ⟨H6, hH6⟩ : ∃ H6, H6 = L2.upd (L2.upd H5 c (.dK (kd d))) lg (.lst (acc ++ [.ref c])) := ⟨_, rfl⟩
        rw [← hH6]
        have x6 : Ext H3 H6 := by
          rw [hH6]
          exact (x5.trans xc).over hlg
        have g6 : H6 lg = some (.lst (acc ++ [.ref c])) := by rw [hH6, upd_same]
        have t6 : TrsAt H6 (acc ++ [.ref c]) (stepT fo z (ds.take j) ++ [d]) := by
          rw [hH6]
          exact ((t5.ext xc).snoc upd_same).updL (xc _ _ g5)
        refine ⟨_, rfl, t, _, _, _, rfl, rfl, (sq.ext (xH1.trans x2)).ext (x3.trans x6), rfl, lf, rfl, ⟨_, SqL.of (x6 _ _ (x3 _ _ (x2 _ _ (xH1 _ _ hf))))⟩, for_list (K := K) (a := lf) (xs := fo.map V.str) (fun k σ H' => Ext H3 H' ∧ ∃ acc' v4 v5, σ = [some (.ref t), some (.ref ln), some (.ref l), some (.str z), some (.ref lg), some (.ref a), v4, v5] ∧ H' lg = some (.lst acc') ∧ acc'.length ≤ acc.length + 1 + k ∧ TrsAt H' acc' (stepT fo z (ds.take j) ++ [d] ++ ((fo.take k).filter fun f => !decide (f = z) && !liesB (setD d z (.str f)) z z).map fun f => setD d z (.str f))) ?_ ?_ ?_ ?_⟩
        · exact ⟨x6, _, v4, v5, rfl, g6, by rw [List.length_append]; exact Nat.le_refl _, by simpa using t6⟩
        · rintro k σ H' _ ⟨x', _⟩
          exact SqL.of (x' _ _ (x3 _ _ (x2 _ _ (xH1 _ _ hf))))
        · rintro k v σ H7 hv ⟨x7, acc', v4, v5, rfl, g7, len7, t7⟩
          obtain ⟨fz, hfz, rfl⟩ := strs_at hv
          have kf : k < fo.length := (List.getElem?_eq_some_iff.mp hfz).1
          have tkf : fo.take (k + 1) = fo.take k ++ [fz] := by
            rw [List.take_add_one, hfz]
            rfl
          refine ⟨_, rfl, a, kd d, rfl, .inl (x7 _ _ ha3), fun m hm => ?_⟩
          have xm := Ext.upd (o := .dK (kd d)) hm
          refine ⟨_, rfl, _, rfl, _, rfl, m, _, rfl, DPut.k (k := Sum.inr z) upd_same (by rw [kd_len, sizeLine_eq]; omega), ?_⟩
          rw [put_kd]
          obtain ⟨H8, hH8⟩ : ∃ H8, H8 = L2.upd (L2.upd H7 m (.dK (kd d))) m (.dK (kd (setD d z (.str fz)))) := ⟨_, rfl⟩
          rw [← hH8]
          have x8 : Ext H7 H8 := by
            rw [hH8]
            exact xm.over hm
          have m8 : H8 m = some (.dK (kd (setD d z (.str fz)))) := by rw [hH8, upd_same]
          have ok8 : DicOk fo (setD d z (.str fz)) := fun p hp => (setD_mem hp).elim (okd1 p) fun e => .inr ⟨fz, List.mem_of_getElem? hfz, e⟩
          refine ⟨_, rfl, _, rfl, rfl, _, rfl, ?_⟩
          rw [tkf, List.filter_append, List.map_append, ← List.append_assoc]
          refine ite2 (fun c1 => ?_) fun c1 => ?_
          · have c1' : fz ≠ z := fun e => by
              subst e
              simp at c1
            refine ⟨_, rfl, _, rfl, _, rfl, m, _, fo, z, z, rfl, m8, ok8, _, rfl, ?_⟩
            refine ite2 (fun c2 => ?_) fun c2 => ?_
            · refine ⟨_, rfl, .inl ⟨rfl, _, .inl (.inl (x8 _ _ g7))⟩, _, rfl, lg, _, _, rfl, rfl, x8 _ _ g7, by rw [sizeLine_eq]; omega, ?_⟩
              rw [List.filter_cons, if_pos (by rw [decide_eq_false c1']; exact c2)]
              exact ⟨(x7.trans x8).over hlg, _, _, _, rfl, upd_same, by rw [List.length_append]; exact Nat.succ_le_succ len7, ((t7.ext x8).snoc m8).updL (x8 _ _ g7)⟩
            · rw [List.filter_cons, if_neg (by rw [decide_eq_false c1']; exact c2), List.filter_nil, List.map_nil, List.append_nil]
              exact ⟨x7.trans x8, _, _, _, rfl, x8 _ _ g7, by omega, t7.ext x8⟩
          · have c1' : fz = z := by simpa using c1
            rw [List.filter_cons, if_neg (by rw [decide_eq_true c1']; exact Bool.false_ne_true), List.filter_nil, List.map_nil, List.append_nil]
            exact ⟨x7.trans x8, _, _, _, rfl, x8 _ _ g7, by omega, t7.ext x8⟩
        · rintro σ H7 ⟨x7, acc', v4, v5, rfl, g7, len7, t7⟩
          rw [lm, List.take_length] at t7
          have tkd : ds.take (j + 1) = ds.take j ++ [d] := by
            rw [List.take_add_one, hdj]
            rfl
          refine ⟨x7, acc', _, v4, v5, rfl, g7, ?_⟩
          rw [tkd, step_snoc]
          simpa using t7
      · rintro σ H5 ⟨x5, acc, v3, v4, v5, rfl, g5, t5⟩
        rw [tlen, List.take_length] at t5
        refine ⟨_, rfl, lg, _, rfl, .inl (SqL.of g5), fun l9 hl9 => ?_⟩
        refine ⟨(x3.trans x5).trans (Ext.upd hl9), l9, acc, _, _, v3, v4, v5, ext_none (xH1.trans (x2.trans (x3.trans x5))) hl9, rfl, upd_same, ?_⟩
        rw [tkz]
        exact t5.ext (Ext.upd hl9)
    · rintro σ H3 ⟨x3, l, xs, v1, v2, v3, v4, v5, ln0, rfl, l3, t3⟩
      rw [lm, List.take_length] at t3
      exact ⟨_, rfl, q l xs H3 (xH1.trans (x2.trans x3)) ln0 l3 t3⟩
theorem ok_fitting (Fn : FnP K "_law_fitting" s__law_fitting f fd) (h_law_all_trees : Has P w K mg base 2 "_law_all_trees" ["_law_parts"] (spTrees K)) (h_law_keeps : Has P w K mg base 3 "_law_keeps" ["_law_over_here", "_law_told_here"] (spKeeps K)) : FnOk P w K mg base CX0 4 f fd ["_law_parts", "_law_told_here"] (spFitting K) := by
  refine Fn.ok sc__law_fitting (fun vs H Q E h => ?_) (fun cdv A outer s H vs Q E hr h => ⟨_, PSs.nox
    (pss_one (ps_ret (pe_lc (own := [("_law_over_here", 2)]) (g := (gName 2)) rfl sc__law_fitting.nd (pi_list (pe_has h_law_all_trees (hr.mono (by decide)) (pa_cons (pv 0) pa_nil))) (blkOk_by (N := nm__law_fitting) (sc := defScope s__law_fitting) (by decide +kernel)) (fun _ _ _ _ _ => (pg_name (i := 2) sc__law_fitting.nd rfl (Or.inl rfl))) (fun _ _ _ _ _ => pts_one (pt_val (pe_has h_law_keeps (hr.mono (by decide)) (pa_cons (pv 2) (pa_cons (pv 1) pa_nil))))) (fun _ _ _ _ _ => (pv 2))))), ?_⟩)
  · obtain ⟨t, l, fo, th, rs, rfl, _⟩ := h
    rfl
  · obtain ⟨t, l, fo, th, rs, rfl, pr, nd, oks, f4, n7, rat, fr, rl, q⟩ := h
    refine ⟨_, rfl, t, fo, th, rfl, pr, nd, f4, n7, fun l1 xs H1 x1 l10 hl1 tr => ?_⟩
    have tl := tr.len
    have len5 : (allT fo (fo ++ th)).length ≤ 78125 := by
      have h1 := all_len fo (fo ++ th) [[]]
      have h2 : (fo.length + 1) ^ (fo ++ th).length ≤ 5 ^ 7 := Nat.le_trans (Nat.pow_le_pow_left (by omega) _) (Nat.pow_le_pow_right (by decide) n7)
      unfold allT
      simp only [List.length_singleton, Nat.mul_one] at h1
      exact Nat.le_trans h1 (Nat.le_trans h2 (by decide))
    refine ⟨l1, rfl, ⟨_, SqL.of hl1⟩, fun D hD => ?_⟩
    refine lc_list (K := K) (a := l1) (xs := xs) (fun i H' => Ext H1 H' ∧ ∃ acc, H' D = some (.lst acc) ∧ acc.length ≤ i ∧ TrsAt H' acc (((allT fo (fo ++ th)).take i).filter fun d => rs.all (holdsR d))) ⟨Ext.upd hD, [], upd_same, Nat.zero_le _, True.intro⟩ (fun i H' _ z => SqL.of (z.1 _ _ hl1)) ?_ ?_
    · intro i v H2 hv ⟨x2, acc, d2, len2, t2⟩
      have i1 : i < xs.length := (List.getElem?_eq_some_iff.mp hv).1
      obtain ⟨a, d, rfl, ha, hdi⟩ := tr.at_ hv
      have tk : (allT fo (fo ++ th)).take (i + 1) = (allT fo (fo ++ th)).take i ++ [d] := by
        rw [List.take_add_one, hdi]
        rfl
      have okd := all_ok nd (by omega) (List.mem_of_getElem? hdi)
      rw [tk, List.filter_append]
      refine ⟨rfl, _, rfl, _, rfl, a, l, d, fo, rs, rfl, x2 _ _ ha, okd.ok, rat.ext (x1.trans x2), fact_three fr, fact_okr oks fr, rl, fun H3 x3 => ⟨_, rfl, ?_⟩⟩
      refine ite2 (fun c => ?_) fun c => ?_
      · refine ⟨_, rfl, acc, x3 _ _ d2, by rw [sizeLine_eq]; omega, (x2.trans x3).over hD, _, upd_same, by rw [List.length_append]; exact Nat.succ_le_succ len2, ?_⟩
        rw [List.filter_cons, if_pos c]
        exact ((t2.ext x3).snoc ((x2.trans x3) _ _ ha)).updL (x3 _ _ d2)
      · refine ⟨x2.trans x3, acc, x3 _ _ d2, Nat.le_succ_of_le len2, ?_⟩
        rw [List.filter_cons, if_neg c, List.filter_nil, List.append_nil]
        exact t2.ext x3
    · intro H2 ⟨x2, acc, d2, len2, t2⟩
      rw [tl, List.take_length] at t2
      exact q D acc H2 (x1.trans x2) (ext_none x1 hD) d2 t2
end
/-! ### what fits -/
theorem holds_fact {fo th : List Str} {rs : List (List Str)} {d : Dic} (fr : FactR fo th rs) (h : TreeOk fo (fo ++ th) d) (len : (fo ++ th).length ≤ 8) : rs.all (holdsR d) = true ↔ ∀ w a b, [w, a, b] ∈ rs → FHold (look d) w a b := by
  rw [List.all_eq_true]
  have hl := h.len
  constructor
  · intro k w a b hr
    obtain ⟨w', a', b', e, isf⟩ := fr _ hr
    injection e with e1 e
    injection e with e2 e
    injection e with e3 _
    subst e1 e2 e3
    exact (holds_iff h.ok h.irr (by omega) isf.1).mp (k _ hr)
  · intro k r hr
    obtain ⟨w, a, b, rfl, isf⟩ := fr _ hr
    exact (holds_iff h.ok h.irr (by omega) isf.1).mpr (k w a b hr)
theorem look_fol {fo pre : List Str} {d : Dic} (h : TreeOk fo pre d) {a b : Str} (k : Anc (look d) a b) : b ∈ fo := by
  have one : ∀ a b, look d a = some b → b ∈ fo := fun a b e => by
    cases e3 : getD d a with
    | none =>
      rw [look_none e3] at e
      cases e
    | some v =>
      obtain ⟨_, f, hf, rfl⟩ := h.sub a v e3
      unfold look at e
      rw [e3] at e
      injection e with e
      exact e ▸ hf
  induction k with
  | one h => exact one _ _ h
  | up _ _ ih => exact ih
/-- where there is a topless group, no tree keeps the facts -/
theorem top_nofit {fo th zs : List Str} {rs : List (List Str)} (fr : FactR fo th rs) (nd : (fo ++ th).Nodup) (len : (fo ++ th).length ≤ 8) (l2 : 2 ≤ zs.length) (sub : zs.Sublist (fo ++ th)) (tp : Topless fo rs zs) {d : Dic} (h : TreeOk fo (fo ++ th) d) : rs.all (holdsR d) = false := by
  cases c : rs.all (holdsR d) with
  | false => rfl
  | true =>
    have k := (holds_fact fr h len).mp c
    have isf : ∀ w a b, [w, a, b] ∈ rs → IsF fo th w a b := fun w a b h => by
      obtain ⟨w', a', b', e, i⟩ := fr _ h
      injection e with e1 e
      injection e with e2 e
      injection e with e3 _
      subst e1 e2 e3
      exact i
    refine (topless_no (fo := fo) (rows := rs) (ov := look d) (zs := zs) h.irr (fun a b hk => look_fol h hk) (fun w a b hr _ _ => k w a b hr) (fun w a b hr => ?_) (fun w a b hr => (isf w a b hr).2.2.2.1) l2 (sub.nodup nd) tp).elim
    have := (isf w a b hr).1
    unfold wordsS at this
    simpa using this
theorem opt_of_look {fo : List Str} {d : Dic} (ok : DicOk fo d) (z : Str) : (getD d z).getD .non = match look d z with | some f => .str f | none => .non := by
  rcases getD_opt ok z with e | ⟨f, _, e⟩
  · rw [e]
    cases c : look d z with
    | none => rfl
    | some b =>
      have := look_step.mp c
      rw [show stepV d (.str z) = (getD d z).getD .non from rfl, e] at this
      cases this
  · have : look d z = some f := look_step.mpr e
    rw [e, this]
theorem ly_look {fo ns : List Str} {d e : Dic} (h1 : DicOk fo d) (h2 : DicOk fo e) (h : look d = look e) : lyD ns d = lyD ns e := ly_congr fun z _ => by rw [opt_of_look h1, opt_of_look h2, h]
/-- the tree that is told, as the law has it, is one of those that fit -/
theorem laid_fit {fo th : List Str} {rs : List (List Str)} {d : Dic} (nd : (fo ++ th).Nodup) (len : (fo ++ th).length ≤ 8) (fr : FactR fo th rs) (la : Laid fo (onceR (rs.map (toldR (fo ++ th)))) (fo ++ th) d) : cutN (lyD (fo ++ th) d) ∈ fitL fo (fo ++ th) rs := by
  have k := laid_treeOk la
  obtain ⟨e, he, hl⟩ := all_has (fo := fo) nd len (e := look d) k.1 k.2
  have ok := all_ok nd len he
  have okd : DicOk fo d := fun p hp => by
    have := getD_pair la.2.1 hp
    exact .inr (by
      obtain ⟨_, f, hf, e⟩ := la.1 _ _ this
      exact ⟨f, hf, e⟩)
  have ee : e = cutN (lyD (fo ++ th) d) := by rw [ok.canon, ly_look ok.ok okd hl]
  refine List.mem_filter.mpr ⟨ee ▸ he, ?_⟩
  exact laid_all nd len fr la
theorem eqDV_self {d : Dic} (nd : (d.map (·.1)).Nodup) (fl : ∀ p, p ∈ d → ∃ z, p.2 = .str z) : eqDV (kd d) (kd d) = true := by
  unfold eqDV
  rw [Bool.and_eq_true]
  refine ⟨beq_self_eq_true _, ?_⟩
  rw [List.all_eq_true]
  intro p hp
  unfold kd at hp
  obtain ⟨r, hr, rfl⟩ := List.mem_map.mp hp
  have e : valV (kd d) (Sum.inr r.1) = some r.2 := by rw [val_kd]; exact getD_pair nd hr
  show (match valV (kd d) (Sum.inr r.1) with | none => false | some v => eqV r.2 v) = true
  rw [e]
  obtain ⟨z, hz⟩ := fl r hr
  rw [hz]
  exact beq_self_eq_true z
theorem kd_flat2 {fo : List Str} {d : Dic} (ok : DicOk fo d) {p : Key × V} (hp : p ∈ kd d) : flatV p.2 = true := by
  unfold kd at hp
  obtain ⟨r, hr, rfl⟩ := List.mem_map.mp hp
  show flatV r.2 = true
  rcases ok r hr with e | ⟨z, _, e⟩ <;> rw [e] <;> rfl
theorem kd_flat {fo : List Str} {d : Dic} (ok : DicOk fo d) {k : Key} {v : V} (hv : valV (kd d) k = some v) : flatV v = true := by
  unfold valV at hv
  cases c : (kd d).find? fun kv => decide (kv.1 = k) with
  | none => rw [c] at hv; cases hv
  | some p =>
    rw [c] at hv
    cases hv
    exact kd_flat2 ok (List.mem_of_find?_eq_some c)
end My

namespace My
open PySem PySem.Spec PyProof.Rows L2
/-! ### what the trees that fit tell -/
theorem fit_has {fo th : List Str} {rs : List (List Str)} (nd : (fo ++ th).Nodup) (len : (fo ++ th).length ≤ 8) (fr : FactR fo th rs) {e : Str → Option Str} (v : Val fo (fo ++ th) e) (k : KeepsE e rs) : ∃ d, d ∈ fitL fo (fo ++ th) rs ∧ look d = e := by
  obtain ⟨d, hd, hl⟩ := all_has (fo := fo) nd len v.1 v.2
  refine ⟨d, List.mem_filter.mpr ⟨hd, ?_⟩, hl⟩
  rw [holds_fact fr (all_ok nd len hd) len, hl]
  exact k
theorem fit_val {fo th : List Str} {rs : List (List Str)} (nd : (fo ++ th).Nodup) (len : (fo ++ th).length ≤ 8) (fr : FactR fo th rs) {d : Dic} (h : d ∈ fitL fo (fo ++ th) rs) : TreeOk fo (fo ++ th) d ∧ Val fo (fo ++ th) (look d) ∧ KeepsE (look d) rs := by
  obtain ⟨h1, h2⟩ := List.mem_filter.mp h
  have ok := all_ok nd len h1
  refine ⟨ok, ⟨fun a b e => ⟨?_, look_fol ok (.one e)⟩, ok.irr⟩, (holds_fact fr ok len).mp h2⟩
  have := look_step.mp e
  cases c : getD d a with
  | none =>
    rw [look_none c] at e
    cases e
  | some v => exact (ok.sub a v c).1
theorem fits_list {fo th : List Str} {rs : List (List Str)} (nd : (fo ++ th).Nodup) (len : (fo ++ th).length ≤ 8) (fr : FactR fo th rs) : fitB fo (fo ++ th) (onceR (rs.map (toldR (fo ++ th)))) = true ↔ fitL fo (fo ++ th) rs ≠ [] := by
  rw [fitB_iff]
  constructor
  · rintro ⟨e, v, k⟩ h
    rw [keeps_once, keeps_told nd fr] at k
    obtain ⟨d, hd, _⟩ := fit_has nd len fr v k
    rw [h] at hd
    cases hd
  · intro h
    obtain ⟨d, hd⟩ := List.exists_mem_of_ne_nil _ h
    obtain ⟨_, v, k⟩ := fit_val nd len fr hd
    exact ⟨_, v, by rw [keeps_once, keeps_told nd fr]; exact k⟩
/-- some tree that fits keeps rows more -/
theorem fits_add {fo th : List Str} {rs ss : List (List Str)} (nd : (fo ++ th).Nodup) (len : (fo ++ th).length ≤ 8) (fr : FactR fo th rs) (fs : FactR fo th ss) : fitB fo (fo ++ th) (addR (fo ++ th) (onceR (rs.map (toldR (fo ++ th)))) ss) = true ↔ ∃ d, d ∈ fitL fo (fo ++ th) rs ∧ KeepsE (look d) ss := by
  rw [fitB_iff]
  constructor
  · rintro ⟨e, v, k⟩
    rw [keeps_add nd fs, keeps_once, keeps_told nd fr] at k
    obtain ⟨d, hd, hl⟩ := fit_has nd len fr v k.1
    exact ⟨d, hd, by rw [hl]; exact k.2⟩
  · rintro ⟨d, hd, k2⟩
    obtain ⟨_, v, k⟩ := fit_val nd len fr hd
    exact ⟨_, v, by rw [keeps_add nd fs, keeps_once, keeps_told nd fr]; exact ⟨k, k2⟩⟩
def wordL (ds : List Dic) (w p q : Str) : Str := if (ds.filter fun d => holdsB d w p q).length = ds.length then "sure" else if ds.filter (fun d => holdsB d w p q) = [] then "never" else "open"
theorem keeps_one {e : Str → Option Str} {w p q : Str} : KeepsE e [[w, p, q]] ↔ FHold e w p q := by
  constructor
  · intro k
    exact k _ _ _ (List.mem_singleton.mpr rfl)
  · intro k w' p' q' h
    have h := List.mem_singleton.mp h
    injection h with h1 h
    injection h with h2 h
    injection h with h3 _
    subst h1 h2 h3
    exact k
theorem word_eq {fo th : List Str} {rs : List (List Str)} {w p q : Str} (nd : (fo ++ th).Nodup) (len : (fo ++ th).length ≤ 8) (fr : FactR fo th rs) (isf : IsF fo th w p q) (ne : fitL fo (fo ++ th) rs ≠ []) :
    wordR fo (fo ++ th) [addR (fo ++ th) (onceR (rs.map (toldR (fo ++ th)))) [[w, p, q]]] (addR (fo ++ th) (onceR (rs.map (toldR (fo ++ th)))) (agF fo th w p q)) = wordL (fitL fo (fo ++ th) rs) w p q := by
  have hh : ∀ d, d ∈ fitL fo (fo ++ th) rs → (holdsB d w p q = true ↔ FHold (look d) w p q) := fun d hd => by
    have ok := (fit_val nd len fr hd).1
    have := ok.len
    exact holds_iff ok.ok ok.irr (by omega) isf.1
  have e1 := fits_add (ss := agF fo th w p q) nd len fr (ag_fact nd isf)
  have f1 : FactR fo th [[w, p, q]] := fun r hr => by
    rw [List.mem_singleton.mp hr]
    exact ⟨_, _, _, rfl, isf⟩
  have e2 := fits_add (ss := [[w, p, q]]) nd len fr f1
  have a1 : (fitB fo (fo ++ th) (addR (fo ++ th) (onceR (rs.map (toldR (fo ++ th)))) (agF fo th w p q)) = true) ↔ (((fitL fo (fo ++ th) rs).filter fun d => holdsB d w p q).length ≠ (fitL fo (fo ++ th) rs).length) := by
    rw [e1, Ne, List.length_filter_eq_length_iff]
    constructor
    · rintro ⟨d, hd, k⟩ all
      have v := (fit_val nd len fr hd).2.1
      exact (ag_keeps nd isf v).mp k ((hh d hd).mp (all d hd))
    · intro h
      refine Classical.byContradiction fun n => h fun d hd => ?_
      refine (hh d hd).mpr (Classical.byContradiction fun m => n ⟨d, hd, ?_⟩)
      exact (ag_keeps nd isf (fit_val nd len fr hd).2.1).mpr m
  have a2 : (fitB fo (fo ++ th) (addR (fo ++ th) (onceR (rs.map (toldR (fo ++ th)))) [[w, p, q]]) = true) ↔ (fitL fo (fo ++ th) rs).filter (fun d => holdsB d w p q) ≠ [] := by
    rw [e2]
    constructor
    · rintro ⟨d, hd, k⟩ h
      have m : d ∈ (fitL fo (fo ++ th) rs).filter fun d => holdsB d w p q := List.mem_filter.mpr ⟨hd, (hh d hd).mpr (keeps_one.mp k)⟩
      rw [h] at m
      cases m
    · intro h
      obtain ⟨d, hd⟩ := List.exists_mem_of_ne_nil _ h
      obtain ⟨h1, h2⟩ := List.mem_filter.mp hd
      exact ⟨d, h1, keeps_one.mpr ((hh d h1).mp h2)⟩
  unfold wordR wordL
  rw [List.any_cons, List.any_nil, Bool.or_false]
  by_cases c1 : ((fitL fo (fo ++ th) rs).filter fun d => holdsB d w p q).length = (fitL fo (fo ++ th) rs).length
  · rw [if_pos c1, if_neg fun z => a1.mp z c1]
  · rw [if_neg c1, if_pos (a1.mpr c1)]
    by_cases c2 : (fitL fo (fo ++ th) rs).filter (fun d => holdsB d w p q) = []
    · rw [if_pos c2, if_neg fun z => a2.mp z c2]
    · rw [if_neg c2, if_pos (a2.mpr c2)]
end My

namespace My
open PySem PySem.Spec PyProof.Rows L2
def spLTold (K : PySem.W.Frag) : Sp := fun vs H Q _ => ∃ (t l : Addr) (fo th : List Str) (rs : List (List Str)), vs = [.ref t, .ref l] ∧ PairAt K H t fo th ∧ (fo ++ th).Nodup ∧ (fo ++ th).length ≤ 100 ∧ OkS (fo ++ th) ∧ RowsAt K H l rs ∧ FactR fo th rs ∧ rs.length ≤ 100 ∧
  ∀ m H', Ext H H' → RowsAt K H' m (onceR (rs.map (toldR (fo ++ th)))) → Q (.ref m) H'
abbrev nm__law_told : List Str := ["_law_parts", "_law_facts_here", "_law_nodes", "_law_found", "_law_word", "_law_one", "_law_other"]
theorem sc__law_told : FnScope nm__law_told ["_law_parts", "_law_facts_here"] (defScope s__law_told) := ⟨rfl, rfl, rfl, by decide +kernel, rfl, by decide +kernel, by decide +kernel⟩
section
variable {P : Program} {w : World} {K : PySem.W.Frag} {mg : Str → Option Value} {base : Heap} {f C CB CF CT CN fV : Addr} {fd fdV : FuncData}
theorem ok_lTold (Fn : FnP K "_law_told" s__law_told f fd) : FnOk P w K mg base CX0 1 f fd ["_law_parts", "_law_facts_here"] (spLTold K) := by
  refine Fn.ok sc__law_told (fun vs H Q E h => ?_) (fun cdv A outer s H vs Q E hr h => ⟨_, PSs.nox
    (pss_cons (ps_set (i := 2) sc__law_told.nd rfl (Or.inl rfl) (pe_op L2.op_cat (pe_ix ix_tup (pv 0) pe_int (fun _ _ => rfl)) (pe_ix ix_tup (pv 0) pe_int (fun _ _ => rfl))))
      (pss_cons (ps_set (i := 3) sc__law_told.nd rfl (Or.inl rfl) (pe_lst pa_nil))
      (pss_cons (ps_for PassesOwn.never rfl (pi_list (pv 1)) (pg_tup rfl (pgs_cons (pg_name (i := 4) sc__law_told.nd rfl (Or.inl rfl)) (pgs_cons (pg_name (i := 5) sc__law_told.nd rfl (Or.inl rfl)) (pgs_cons (pg_name (i := 6) sc__law_told.nd rfl (Or.inl rfl)) pgs_nil))))
      (C8.pss_cut (ps_if (PW.pt (pw_and (pt_cmpR op_eq (pv 4) pe_str (nomark _)) (pw_and1 (pt_cmpR op_gt (pe_bm PySem.F.plainAttrs_list PySem.F.slot_list_index PySem.F.type_list_index mt_index (pv 2) (pa_cons (pv 5) pa_nil)) (pe_bm PySem.F.plainAttrs_list PySem.F.slot_list_index PySem.F.type_list_index mt_index (pv 2) (pa_cons (pv 6) pa_nil)) (nomark _))))) (pss_one (ps_par (i := 5) (j := 6) rfl sc__law_told.nd rfl rfl (by decide) rfl rfl (pa_cons (pv 6) (pa_cons (pv 5) pa_nil)) (by rfl))) pss_nil)
      (pss_one (ps_if (pt_cmpR (op_notInD (u65 hr)) (pe_tup (pa_cons (pv 4) (pa_cons (pv 5) (pa_cons (pv 6) pa_nil)))) (pv 3) (by rfl)) (pss_one (ps_expr (pe_bm PySem.F.plainAttrs_list PySem.F.slot_list_append PySem.F.type_list_append mt_append (pv 3) (pa_cons (pe_tup (pa_cons (pv 4) (pa_cons (pv 5) (pa_cons (pv 6) pa_nil)))) pa_nil)))) pss_nil))))
      (pss_one (ps_ret (pv 3)))))), ?_⟩)
  · obtain ⟨t, l, fo, th, rs, rfl, _⟩ := h
    rfl
  · obtain ⟨t, l, fo, th, rs, rfl, ⟨lf, lt, sq, hf, ht⟩, nd, len, oks, ⟨xs, hl, rw0⟩, fr, rl, q⟩ := h
    have lm : ∀ zs : List Str, (zs.map V.str).length = zs.length := fun zs => List.length_map _
    have rlen := rw0.len
    refine ⟨_, rfl, t, _, _, _, rfl, rfl, sq, rfl, _, rfl, t, _, _, _, rfl, rfl, sq, rfl, lf, lt, _, _, rfl, rfl, hf, ht, by rw [lm, lm, sizeLine_eq, ← List.length_append]; omega, fun n hn => ?_⟩
    obtain ⟨H1, hH1⟩ : ∃ H1, H1 = L2.upd H n (.lst (fo.map V.str ++ th.map V.str)) := ⟨_, rfl⟩
    have xH1 : Ext H H1 := by
      rw [hH1]
      exact Ext.upd hn
    have nH1 : H1 n = some (.lst (fo.map V.str ++ th.map V.str)) := by rw [hH1, upd_same]
    rw [← hH1]
    clear hH1
    rw [← List.map_append] at nH1
    refine ⟨Nat.zero_le _, fun g hg => ?_⟩
    have hg0 : H g = none := ext_none xH1 hg
    obtain ⟨H2, hH2⟩ : ∃ H2, H2 = L2.upd H1 g (.lst []) := ⟨_, rfl⟩
    have xH2 : Ext H1 H2 := by
      rw [hH2]
      exact Ext.upd hg
    have nH2 : H2 g = some (.lst []) := by rw [hH2, upd_same]
    rw [← hH2]
    clear hH2
    have x02 := xH1.trans xH2
    have n2 := xH2 _ _ nH1
    have tok := told_ok nd fr
    have okr : ∀ ws : List (List Str), (∀ r, r ∈ ws → r ∈ rs.map (toldR (fo ++ th))) → OkR ws := fun ws hw r hr z hz => by
      obtain ⟨w, a, b, rfl, h1, h2, h3⟩ := tok r (hw r hr)
      simp at hz
      rcases hz with rfl | rfl | rfl
      · exact wordsOk _ h1
      · exact oks _ h2
      · exact oks _ h3
    refine ⟨_, rfl, l, rfl, ⟨_, SqL.of (x02 _ _ hl)⟩, for_list (K := K) (a := l) (xs := xs) (fun i σ H' => Ext H1 H' ∧ ∃ ys v4 v5 v6, σ = [some (.ref t), some (.ref l), some (.ref n), some (.ref g), v4, v5, v6] ∧ H' g = some (.lst ys) ∧ ys.length ≤ i ∧ Rows K H' ys (onceR ((rs.take i).map (toldR (fo ++ th))))) ⟨xH2, [], none, none, none, rfl, nH2, Nat.zero_le _, True.intro⟩ (fun i σ H' _ z => SqL.of (z.1 _ _ (xH1 _ _ hl))) ?_ ?_⟩
    · rintro i v σ H3 hv ⟨x3, ys, v4, v5, v6, rfl, g3, len3, r3⟩
      have x03 := xH1.trans x3
      obtain ⟨u, r, rfl, su, hr⟩ := (rw0.ext x03).at_ hv
      obtain ⟨wd, a, b, rfl, isf⟩ := fr r (List.mem_of_getElem? hr)
      have il : i < rs.length := (List.getElem?_eq_some_iff.mp hr).1
      have tk : (rs.take (i + 1)).map (toldR (fo ++ th)) = (rs.take i).map (toldR (fo ++ th)) ++ [toldS (fo ++ th) wd a b] := by
        rw [List.take_add_one, hr, List.map_append]
        rfl
      obtain ⟨old, hold⟩ : ∃ old, old = (rs.take i).map (toldR (fo ++ th)) := ⟨_, rfl⟩
      rw [← hold] at tk r3
      have n3 := x3 _ _ nH1
      refine ⟨u, _, rfl, su, rfl, _, _, rfl, _, _, rfl, _, _, rfl, rfl, ?_⟩
      refine ⟨fun σ' H' => H' = H3 ∧ ∃ c d, toldS (fo ++ th) wd a b = [wd, c, d] ∧ σ' = [some (.ref t), some (.ref l), some (.ref n), some (.ref g), some (.str wd), some (.str c), some (.str d)], ?_, ?_⟩
      · refine ⟨_, rfl, rfl, _, rfl, ?_⟩
        refine ite2 (fun e => ?_) fun e => ?_
        · obtain rfl : wd = "line" := by
            have z := of_decide_eq_true e
            injection z
          obtain ⟨j1, h1⟩ := List.mem_iff_getElem?.mp isf.2.1
          obtain ⟨j2, h2⟩ := List.mem_iff_getElem?.mp isf.2.2.1
          have ij : j1 ≠ j2 := fun e => isf.2.2.2.1 (by
            subst e
            rw [h1] at h2
            injection h2)
          refine ⟨_, rfl, .inl ⟨rfl, _, .inl (.inl n3)⟩, _, rfl, n, _, _, j1, .str a, rfl, rfl, SqL.of n3, rfl, flat_strs _, by rw [List.getElem?_map, h1]; rfl, beq_self_eq_true a, strs_idx nd h1, ?_⟩
          refine ⟨_, rfl, .inl ⟨rfl, _, .inl (.inl n3)⟩, _, rfl, n, _, _, j2, .str b, rfl, rfl, SqL.of n3, rfl, flat_strs _, by rw [List.getElem?_map, h2]; rfl, beq_self_eq_true b, strs_idx nd h2, ?_⟩
          refine ⟨_, _, rfl, rfl, _, rfl, ?_⟩
          refine ite2 (fun c => ?_) fun c => ?_
          · have c' : j2 < j1 := by
              have := of_decide_eq_true c
              omega
            refine ⟨_, rfl, _, rfl, _, _, rfl, rfl, b, a, ?_, rfl⟩
            unfold toldS
            rw [if_pos rfl, ord_comm, ord_lt nd h2 h1 c']
          · have c' : j1 < j2 := by
              have : ¬ ((j1 : Int) > j2) := fun z => c (decide_eq_true z)
              omega
            refine ⟨rfl, a, b, ?_, rfl⟩
            unfold toldS
            rw [if_pos rfl, ord_lt nd h1 h2 c']
        · have e' : wd ≠ "line" := fun z => by
            subst z
            exact absurd (decide_eq_true rfl) e
          refine ⟨rfl, a, b, ?_, rfl⟩
          unfold toldS
          rw [if_neg e']
      · rintro σ' H' ⟨rfl, c, d, ec, rfl⟩
        rw [ec] at tk
        have sub : ∀ r, r ∈ old ++ [[wd, c, d]] → r ∈ rs.map (toldR (fo ++ th)) := fun r hr' => by
          rw [← tk] at hr'
          obtain ⟨y, hy, rfl⟩ := List.mem_map.mp hr'
          exact List.mem_map.mpr ⟨y, List.mem_of_mem_take hy, rfl⟩
        have ok1 := okr [[wd, c, d]] fun r hr' => sub r (List.mem_append_right _ hr')
        have ok2 := okr (onceR old) fun r hr' => sub r (List.mem_append_left _ (once_mem hr'))
        refine ⟨_, rfl, _, rfl, _, rfl, Nat.le_of_ble_eq_true rfl, fun t1 ht1 => ?_⟩
        obtain ⟨H4, hH4⟩ : ∃ H4, H4 = L2.upd H' t1 (.tup [.str wd, .str c, .str d]) := ⟨_, rfl⟩
        have xH4 : Ext H' H4 := by
          rw [hH4]
          exact Ext.upd ht1
        have nH4 : H4 t1 = some (.tup [.str wd, .str c, .str d]) := by rw [hH4, upd_same]
        rw [← hH4]
        clear hH4
        have g4 := xH4 _ _ g3
        have r4 := r3.ext xH4
        refine ⟨_, rfl, .tuple ([wd, c, d].map PyData.str), _, .tup (SqT.of nH4) (dpAll_str [wd, c, d]), .lst (SqL.of g4) (rows_dp r4), shaped_strT _ (ok1 _ List.mem_cons_self), rows_shaped ok2, _, rfl, ?_⟩
        rw [any_rows]
        rw [tk, once_snoc]
        refine ite2 (fun cc => ?_) fun cc => ?_
        · have c' : [wd, c, d] ∉ onceR old := by simpa using cc
          rw [if_neg c']
          refine ⟨_, rfl, .inl ⟨rfl, _, .inl (.inl g4)⟩, _, rfl, _, rfl, _, rfl, Nat.le_of_ble_eq_true rfl, fun t2 ht2 => ?_⟩
          obtain ⟨H5, hH5⟩ : ∃ H5, H5 = L2.upd H4 t2 (.tup [.str wd, .str c, .str d]) := ⟨_, rfl⟩
          have xH5 : Ext H4 H5 := by
            rw [hH5]
            exact Ext.upd ht2
          have nH5 : H5 t2 = some (.tup [.str wd, .str c, .str d]) := by rw [hH5, upd_same]
          rw [← hH5]
          clear hH5
          have g5 := xH5 _ _ g4
          have r5 := r4.ext xH5
          refine ⟨g, _, _, rfl, rfl, g5, by rw [sizeLine_eq]; omega, ?_⟩
          exact ⟨(x3.trans (xH4.trans xH5)).over hg, _, _, _, _, rfl, upd_same, by rw [List.length_append]; exact Nat.succ_le_succ len3, Rows.upd g5 (Rows.app r5 ⟨⟨t2, rfl, SqT.of nH5⟩, True.intro⟩)⟩
        · have c' : [wd, c, d] ∈ onceR old := by simpa using cc
          rw [if_pos c']
          exact ⟨x3.trans xH4, ys, _, _, _, rfl, g4, by omega, r4⟩
    · rintro σ H3 ⟨x3, ys, v4, v5, v6, rfl, g3, len3, r3⟩
      rw [rlen, List.take_length] at r3
      exact ⟨_, rfl, q g H3 (xH1.trans x3) ⟨ys, g3, r3⟩⟩
end
end My

namespace My
open PySem PySem.Spec PyProof.Rows L2
def spSmall (K : PySem.W.Frag) : Sp := fun vs H Q _ => ∃ (p : Addr) (n : Int), vs = [.ref p] ∧ Pool H p n ∧ n < 800000 ∧
  ∀ t lf lt fo th H', But H H' p → Pool H' p (n + 50) → SqT K H' t [.ref lf, .ref lt] → H' lf = some (.lst (fo.map V.str)) → H' lt = some (.lst (th.map V.str)) → lf ≠ p → lt ≠ p → Nst (fo ++ th) → 1 ≤ fo.length → fo.length ≤ 4 → (fo ++ th).length ≤ 5 → Q (.ref t) H'
abbrev nm__law_small : List Str := ["_law_pool_here"]
theorem sc__law_small : FnScope nm__law_small ["_law_pool_here"] (defScope s__law_small) := ⟨rfl, rfl, rfl, by decide +kernel, rfl, by decide +kernel, by decide +kernel⟩
section
variable {P : Program} {w : World} {K : PySem.W.Frag} {mg : Str → Option Value} {base : Heap} {f C CB CF CE CU : Addr} {fd : FuncData}
theorem ok_small (Fn : FnP K "_law_small" s__law_small f fd) (h_law_take : Has P w K mg base 1 "_law_take" ["_law_pool_here", "_law_many"] spTake) (h_law_plan : Has P w K mg base 3 "_law_plan" ["_law_pool_here", "_law_folders", "_law_things"] (spPlan K)) : FnOk P w K mg base CX0 4 f fd ["_law_pool_here"] (spSmall K) := by
  refine Fn.ok sc__law_small (fun vs H Q E h => ?_) (fun cdv A outer s H vs Q E hr h => ⟨_, PSs.nox
    (pss_cons (ps_if (pt_cmpR op_eq (pe_has h_law_take (hr.mono (by decide)) (pa_cons (pv 0) (pa_cons pe_int pa_nil))) pe_int (nomark _)) (pss_one (ps_ret (pe_has h_law_plan (hr.mono (by decide)) (pa_cons (pv 0) (pa_cons pe_int (pa_cons pe_int pa_nil)))))) pss_nil)
      (pss_one (ps_ret (pe_has h_law_plan (hr.mono (by decide)) (pa_cons (pv 0) (pa_cons pe_int (pa_cons pe_int pa_nil))))))), ?_⟩)
  · obtain ⟨p, n, rfl, _⟩ := h
    rfl
  · obtain ⟨p, n, rfl, hp, hn, q⟩ := h
    refine ⟨_, rfl, p, 4, _, rfl, by decide, by decide, hp, by omega, fun r o r0 r1 gp => ?_⟩
    obtain ⟨H3, hH3⟩ : ∃ H3, H3 = L2.upd H p o := ⟨_, rfl⟩
    rw [← hH3] at gp ⊢
    have b03 : But H H3 p := by rw [hH3]; exact But.upd (ext_but Ext.rfl')
    refine ⟨rfl, _, rfl, ?_⟩
    refine ite2 (fun c => ?_) fun c => ?_
    · refine ⟨_, rfl, p, _, 4, 1, rfl, by decide, by decide, gp, by omega, fun t lf lt fo th H4 b4 p4 st4 hf4 ht4 nfp ntp nst f1 f4 t3 => ?_⟩
      exact q t lf lt fo th H4 (b03.trans b4) (pool_mono p4 (by omega)) st4 hf4 ht4 nfp ntp nst f1 f4 (by rw [List.length_append]; omega)
    · refine ⟨_, rfl, p, _, 3, 2, rfl, by decide, by decide, gp, by omega, fun t lf lt fo th H4 b4 p4 st4 hf4 ht4 nfp ntp nst f1 f4 t3 => ?_⟩
      exact q t lf lt fo th H4 (b03.trans b4) (pool_mono p4 (by omega)) st4 hf4 ht4 nfp ntp nst f1 (by omega) (by rw [List.length_append]; omega)
end
end My

namespace My
open PySem PySem.Spec PyProof.Rows L2
/-- what a law has drawn: the parts at t, the facts as drawn at l, Facts of them at fa; the pool is at p -/
structure LawS (K : PySem.W.Frag) (CF C p t l fa : Addr) (fo th : List Str) (rs : List (List Str)) (lf lt : Addr) (H : Hp) : Prop where
  st : SqT K H t [.ref lf, .ref lt]
  hf : H lf = some (.lst (fo.map V.str))
  ht : H lt = some (.lst (th.map V.str))
  nfp : lf ≠ p
  ntp : lt ≠ p
  nlp : l ≠ p
  rat : RowsAt K H l rs
  fac : FacAt H K CF C fa fo th (onceR (rs.map (toldR (fo ++ th))))
theorem LawS.pr {K : PySem.W.Frag} {CF C p t l fa : Addr} {fo th : List Str} {rs : List (List Str)} {lf lt : Addr} {H : Hp} (s : LawS K CF C p t l fa fo th rs lf lt H) : PairAt K H t fo th := ⟨lf, lt, s.st, s.hf, s.ht⟩
theorem LawS.ext {K : PySem.W.Frag} {CF C p t l fa : Addr} {fo th : List Str} {rs : List (List Str)} {lf lt : Addr} {H H' : Hp} (s : LawS K CF C p t l fa fo th rs lf lt H) (e : Ext H H') : LawS K CF C p t l fa fo th rs lf lt H' :=
  ⟨s.st.ext e, e _ _ s.hf, e _ _ s.ht, s.nfp, s.ntp, s.nlp, s.rat.ext e, s.fac.ext e⟩
theorem LawS.but {K : PySem.W.Frag} {CF C p t l fa : Addr} {fo th : List Str} {rs : List (List Str)} {lf lt : Addr} {H H' : Hp} {n : Int} (s : LawS K CF C p t l fa fo th rs lf lt H) (hp : Pool H p n) (b : But H H' p) : LawS K CF C p t l fa fo th rs lf lt H' := by
  obtain ⟨ys, e⟩ := hp.lst
  obtain ⟨xs, h1, h2⟩ := s.rat
  exact ⟨sqT_butL e b s.st, b _ _ s.nfp s.hf, b _ _ s.ntp s.ht, s.nfp, s.ntp, s.nlp, ⟨xs, b _ _ s.nlp h1, h2.butL e b⟩, s.fac.butL e b⟩
/-- what is known of the drawn parts and facts -/
structure LawN (fo th : List Str) (rs : List (List Str)) (n m : Nat) : Prop where
  nst : Nst (fo ++ th)
  f1 : 1 ≤ fo.length
  f4 : fo.length ≤ 4
  len : (fo ++ th).length ≤ n
  fr : FactR fo th rs
  rl : rs.length ≤ m
section
variable {fo th : List Str} {rs : List (List Str)} {n m : Nat}
theorem LawN.nd (h : LawN fo th rs n m) : (fo ++ th).Nodup := h.nst.1
theorem LawN.nok (h : LawN fo th rs n m) : Nok (fo ++ th) := h.nst.ok
theorem LawN.oks (h : LawN fo th rs n m) : OkS (fo ++ th) := fun z hz => (h.nok.2 z hz).2.1
theorem LawN.ne (h : LawN fo th rs n m) : fo ≠ [] := fun e => by
  have := h.f1
  rw [e] at this
  exact absurd this (by decide)
theorem LawN.rows (h : LawN fo th rs n m) : (onceR (rs.map (toldR (fo ++ th)))).length ≤ m := by
  have := once_len (rs.map (toldR (fo ++ th))) []
  rw [List.length_map, List.length_nil] at this
  have := h.rl
  exact Nat.le_trans (by assumption) (by omega)
end
theorem told_TR' {fo th : List Str} (nd : (fo ++ th).Nodup) {rs : List (List Str)} (h : FactR fo th rs) : TR fo th (onceR (rs.map (toldR (fo ++ th)))) := fun r hr => by
  obtain ⟨x, hx, rfl⟩ := List.mem_map.mp (once_mem hr)
  obtain ⟨w, a, b, rfl, isf⟩ := h x hx
  obtain ⟨c, d, e, i⟩ := told_told' nd isf
  exact ⟨w, c, d, e, i⟩
end My

namespace My
open PySem PySem.Spec PyProof.Rows L2 LamX
/-! ### what stays behind a call with a lambda (only tables of numbers change) -/
theorem sqT_extN {K : PySem.W.Frag} {H H' : Hp} {a : Addr} {xs : List V} (h : SqT K H a xs) (e : ExtN H H') : SqT K H' a xs := by
  rcases h with (h | ⟨o, h⟩) | h
  · exact .inl (.inl (e _ _ h fun _ z => nomatch z))
  · exact .inl (.inr ⟨o, e _ _ h fun _ z => nomatch z⟩)
  · exact .inr h
theorem hou_extN {H H' : Hp} {K : PySem.W.Frag} {C b : Addr} {fo th : List Str} (h : Hou H K C b fo th) (e : ExtN H H') : Hou H' K C b fo th := by
  obtain ⟨⟨dx, fs, f, t, n, h1, h2, h3, h4, h5, h6, h7⟩, ok⟩ := h
  exact ⟨⟨dx, fs, f, t, n, e _ _ h1 (fun _ z => nomatch z), h2, h3, h4, sqT_extN h5 e, sqT_extN h6 e, sqT_extN h7 e⟩, ok⟩
theorem rows_extN {K : PySem.W.Frag} {H H' : Hp} (e : ExtN H H') : ∀ {xs : List V} {rs : List (List Str)}, Rows K H xs rs → Rows K H' xs rs
  | [], [], _ => True.intro
  | _ :: _, _ :: _, ⟨⟨t, e1, h⟩, hr⟩ => ⟨⟨t, e1, sqT_extN h e⟩, rows_extN e hr⟩
  | [], _ :: _, h => h.elim
  | _ :: _, [], h => h.elim
theorem fac_extN {H H' : Hp} {K : PySem.W.Frag} {CF C a : Addr} {fo th : List Str} {rows : List (List Str)} (h : FacAt H K CF C a fo th rows) (e : ExtN H H') : FacAt H' K CF C a fo th rows := by
  obtain ⟨dx, fs, ho, r, ys, h1, h2, h3, h4, h5, h6, h7, h8⟩ := h
  exact ⟨dx, fs, ho, r, ys, e _ _ h1 (fun _ z => nomatch z), h2, h3, hou_extN h4 e, sqT_extN h5 e, rows_extN e h6, h7, h8⟩
theorem sqL_extN {K : PySem.W.Frag} {H H' : Hp} {a : Addr} {xs : List V} (h : SqL K H a xs) (e : ExtN H H') : SqL K H' a xs := by
  rcases h with (h | ⟨o, h⟩) | h
  · exact .inl (.inl (e _ _ h fun _ z => nomatch z))
  · exact .inl (.inr ⟨o, e _ _ h fun _ z => nomatch z⟩)
  · exact .inr h
theorem seq2_extN {K : PySem.W.Frag} {H H' : Hp} {a : Addr} {xs : List V} (h : SeqAt2 K H a xs) (e : ExtN H H') : SeqAt2 K H' a xs := h.elim (fun z => .inl (sqL_extN z e)) fun z => .inr (sqT_extN z e)
theorem rowsAt_extN {K : PySem.W.Frag} {H H' : Hp} {l : Addr} {rs : List (List Str)} (h : RowsAt K H l rs) (e : ExtN H H') : RowsAt K H' l rs := by
  obtain ⟨xs, h1, h2⟩ := h
  exact ⟨xs, e _ _ h1 (fun _ z => nomatch z), rows_extN e h2⟩
theorem LawS.extN {K : PySem.W.Frag} {CF C p t l fa : Addr} {fo th : List Str} {rs : List (List Str)} {lf lt : Addr} {H H' : Hp} (s : LawS K CF C p t l fa fo th rs lf lt H) (e : ExtN H H') : LawS K CF C p t l fa fo th rs lf lt H' :=
  ⟨sqT_extN s.st e, e _ _ s.hf (fun _ z => nomatch z), e _ _ s.ht (fun _ z => nomatch z), s.nfp, s.ntp, s.nlp, rowsAt_extN s.rat e, fac_extN s.fac e⟩
theorem pool_extN {H H' : Hp} {p : Addr} {n : Int} (h : Pool H p n) (e : ExtN H H') : Pool H' p n := by
  obtain ⟨a, b, c, h1, h2⟩ := h
  exact ⟨a, b, c, e _ _ h1 (fun _ z => nomatch z), h2⟩
theorem dics_extN {H H' : Hp} (e : ExtN H H') : ∀ {xs : List V} {ds : List (List (Key × V))}, DicsAt H xs ds → DicsAt H' xs ds
  | [], [], _ => True.intro
  | _ :: _, _ :: _, ⟨⟨a, h1, h2⟩, h⟩ => ⟨⟨a, h1, e _ _ h2 (fun _ z => nomatch z)⟩, dics_extN e h⟩
  | [], _ :: _, h => h.elim
  | _ :: _, [], h => h.elim
/-! ### all but the pool and the tables stays -/
def Nx (p : Addr) (H H' : Hp) : Prop := ∀ b u, b ≠ p → H b = some u → (∀ ps, u ≠ .tbl ps) → H' b = some u
theorem tabs_but {T : List (Addr × Str)} {H H' : Hp} {p : Addr} {xs : List V} (t : Tabs T H) (b : But H H' p) (hp : H p = some (.lst xs)) : Tabs T H' := fun q hq => by
  obtain ⟨ps, h1, h2, h3⟩ := t q hq
  refine ⟨ps, b _ _ (fun e => by rw [e, hp] at h1; cases h1) h1, h2, fun pos cv hc => ?_⟩
  obtain ⟨c, e1, e2⟩ := h3 pos cv hc
  refine ⟨c, e1, b _ _ (fun e => ?_) e2⟩
  rw [e, hp] at e2
  unfold CodeO at e2
  cases e2
theorem TrsAt.butL {H H' : Hp} {p : Addr} {n : Int} {xs : List V} {ds : List Dic} (h : TrsAt H xs ds) (hp : Pool H p n) (b : But H H' p) : TrsAt H' xs ds := by
  obtain ⟨ys, e⟩ := hp.lst
  have go : ∀ (xs : List V) (ds : List (List (Key × V))), DicsAt H xs ds → DicsAt H' xs ds := by
    intro xs
    induction xs with
    | nil =>
      intro ds h
      cases ds with
      | nil => exact h
      | cons _ _ => exact h.elim
    | cons x xs ih =>
      intro ds h
      cases ds with
      | nil => exact h.elim
      | cons d ds =>
        obtain ⟨⟨a, h1, h2⟩, h3⟩ := h
        exact ⟨⟨a, h1, b _ _ (ne_of h2 e (fun z => nomatch z)) h2⟩, ih ds h3⟩
  exact go _ _ h
def SeqP (K : PySem.W.Frag) (H : Hp) (p a : Addr) (xs : List V) : Prop := (a ≠ p ∧ SqL K H a xs) ∨ SqT K H a xs
theorem SeqP.seq {K : PySem.W.Frag} {H : Hp} {p a : Addr} {xs : List V} (h : SeqP K H p a xs) : SeqAt2 K H a xs := h.elim (fun z => .inl z.2) .inr
theorem SeqP.ext {K : PySem.W.Frag} {H H' : Hp} {p a : Addr} {xs : List V} (h : SeqP K H p a xs) (e : Ext H H') : SeqP K H' p a xs := h.elim (fun z => .inl ⟨z.1, z.2.ext e⟩) fun z => .inr (z.ext e)
theorem SeqP.extN {K : PySem.W.Frag} {H H' : Hp} {p a : Addr} {xs : List V} (h : SeqP K H p a xs) (e : ExtN H H') : SeqP K H' p a xs := h.elim (fun z => .inl ⟨z.1, sqL_extN z.2 e⟩) fun z => .inr (sqT_extN z e)
theorem SeqP.but {K : PySem.W.Frag} {H H' : Hp} {a p : Addr} {xs : List V} {n : Int} (h : SeqP K H p a xs) (hp : Pool H p n) (b : But H H' p) : SeqP K H' p a xs := by
  rcases h with ⟨na, (h | ⟨o, h⟩) | h⟩ | h
  · exact .inl ⟨na, .inl (.inl (b _ _ na h))⟩
  · exact .inl ⟨na, .inl (.inr ⟨o, b _ _ na h⟩)⟩
  · exact .inl ⟨na, .inr h⟩
  · exact .inr (sqT_p h hp b)
/-- where a turn of a law with lambdas stands: what it has drawn, lists (G), lists or tuples (Q), trees (ds) -/
structure LS (K : PySem.W.Frag) (CF C p t l fa : Addr) (fo th : List Str) (rs : List (List Str)) (lf lt : Addr) (T : List (Addr × Str)) (ys : List V) (ds : List Dic) (H0 : Hp) (G Q : List (Addr × List V)) (H : Hp) (n : Int) : Prop where
  law : LawS K CF C p t l fa fo th rs lf lt H
  h0 : H0 p = none
  nx : ExtN H0 H
  pl : Pool H p n
  tb : Tabs T H
  tr : TrsAt H ys ds
  g : ∀ q, q ∈ G → q.1 ≠ p ∧ H q.1 = some (.lst q.2)
  q : ∀ q, q ∈ Q → SeqP K H p q.1 q.2
section
variable {K : PySem.W.Frag} {CF C p t l fa : Addr} {fo th : List Str} {rs : List (List Str)} {lf lt : Addr} {T : List (Addr × Str)} {ys : List V} {ds : List Dic} {H0 : Hp} {G Q : List (Addr × List V)} {H H' : Hp} {n m : Int}
theorem LS.ext (s : LS K CF C p t l fa fo th rs lf lt T ys ds H0 G Q H n) (e : Ext H H') : LS K CF C p t l fa fo th rs lf lt T ys ds H0 G Q H' n :=
  ⟨s.law.ext e, s.h0, s.nx.trans fun b u h _ => e b u h, pool_ext s.pl e, s.tb.ext e, s.tr.ext e, fun q hq => ⟨(s.g q hq).1, e _ _ (s.g q hq).2⟩, fun q hq => (s.q q hq).ext e⟩
theorem LS.but (s : LS K CF C p t l fa fo th rs lf lt T ys ds H0 G Q H n) (b : But H H' p) (pl : Pool H' p m) : LS K CF C p t l fa fo th rs lf lt T ys ds H0 G Q H' m := by
  obtain ⟨y, hy⟩ := s.pl.lst
  exact ⟨s.law.but s.pl b, s.h0, fun c u h ht => b c u (ne_of_none h s.h0) (s.nx c u h ht), pl, tabs_but s.tb b hy, s.tr.butL s.pl b, fun q hq => ⟨(s.g q hq).1, b _ _ (s.g q hq).1 (s.g q hq).2⟩, fun q hq => (s.q q hq).but s.pl b⟩
theorem LS.extN (s : LS K CF C p t l fa fo th rs lf lt T ys ds H0 G Q H n) (e : ExtN H H') (tb : Tabs T H') : LS K CF C p t l fa fo th rs lf lt T ys ds H0 G Q H' n :=
  ⟨s.law.extN e, s.h0, s.nx.trans e, pool_extN s.pl e, tb, dics_extN e s.tr, fun q hq => ⟨(s.g q hq).1, e _ _ (s.g q hq).2 fun _ z => nomatch z⟩, fun q hq => (s.q q hq).extN e⟩
theorem LS.mono (s : LS K CF C p t l fa fo th rs lf lt T ys ds H0 G Q H n) (h : n ≤ m) : LS K CF C p t l fa fo th rs lf lt T ys ds H0 G Q H m := ⟨s.law, s.h0, s.nx, pool_mono s.pl h, s.tb, s.tr, s.g, s.q⟩
theorem LS.add (s : LS K CF C p t l fa fo th rs lf lt T ys ds H0 G Q H n) {a : Addr} {xs : List V} (na : a ≠ p) (h : H a = some (.lst xs)) : LS K CF C p t l fa fo th rs lf lt T ys ds H0 ((a, xs) :: G) Q H n :=
  ⟨s.law, s.h0, s.nx, s.pl, s.tb, s.tr, fun q hq => (List.mem_cons.mp hq).elim (fun e => by rw [e]; exact ⟨na, h⟩) (s.g q), s.q⟩
theorem LS.addQ (s : LS K CF C p t l fa fo th rs lf lt T ys ds H0 G Q H n) {a : Addr} {xs : List V} (h : SeqP K H p a xs) : LS K CF C p t l fa fo th rs lf lt T ys ds H0 G ((a, xs) :: Q) H n :=
  ⟨s.law, s.h0, s.nx, s.pl, s.tb, s.tr, s.g, fun q hq => (List.mem_cons.mp hq).elim (fun e => by rw [e]; exact h) (s.q q)⟩
theorem LS.lst (s : LS K CF C p t l fa fo th rs lf lt T ys ds H0 G Q H n) (i : Nat) {a : Addr} {xs : List V} (h : G[i]? = some (a, xs) := by rfl) : H a = some (.lst xs) := (s.g _ (List.mem_of_getElem? h)).2
theorem LS.ln (s : LS K CF C p t l fa fo th rs lf lt T ys ds H0 G Q H n) (i : Nat) {a : Addr} {xs : List V} (h : G[i]? = some (a, xs) := by rfl) : a ≠ p := (s.g _ (List.mem_of_getElem? h)).1
theorem LS.sq (s : LS K CF C p t l fa fo th rs lf lt T ys ds H0 G Q H n) (i : Nat) {a : Addr} {xs : List V} (h : Q[i]? = some (a, xs) := by rfl) : SeqP K H p a xs := s.q _ (List.mem_of_getElem? h)
theorem LS.base (s : LS K CF C p t l fa fo th rs lf lt T ys ds H0 G Q H n) : LS K CF C p t l fa fo th rs lf lt T ys ds H0 [] [] H n := ⟨s.law, s.h0, s.nx, s.pl, s.tb, s.tr, fun _ h => (by cases h), fun _ h => (by cases h)⟩
theorem LS.trees (s : LS K CF C p t l fa fo th rs lf lt T ys ds H0 G Q H n) {ys' : List V} {ds' : List Dic} (tr : TrsAt H ys' ds') : LS K CF C p t l fa fo th rs lf lt T ys' ds' H0 G Q H n := ⟨s.law, s.h0, s.nx, s.pl, s.tb, tr, s.g, s.q⟩
end
theorem with_post {T : List (Addr × Str)} {TT : (XK → Hp → VK → Prop) → Hp → VK → Prop} {t : XK → TE} {σ : L2.St} {H : Hp} {Q : VK} (Fd : Addr → Hp → Prop) (h2 : ∀ tt H', Fd tt H' → Q (.ref tt) H') (h : (∀ tt H', Fd tt H' → Q (.ref tt) H') → tLam T TT t σ H Q) : tLam T TT t σ H Q := h h2
end My

namespace My
open PySem PySem.Spec PyProof.Rows L2
/-- what is picked of any list; of share 4 all of it, in some order -/
def spPickedV : Sp := fun vs H Q _ => ∃ (p l : Addr) (zs : List V) (sh : Nat) (n : Int), vs = [.ref p, .ref l, .int (sh : Int)] ∧ H l = some (.lst zs) ∧ l ≠ p ∧ zs.length ≤ 20 ∧ Pool H p n ∧ n < 900000 ∧
  ∀ l' ys rest H', But H H' p → Pool H' p (n + 40) → H l' = none → H' l' = some (.lst ys) → (ys ++ rest).Perm zs → (4 ≤ sh → rest = []) → Q (.ref l') H'
theorem strs_perm {ys : List V} {zs : List Str} (h : ys.Perm (zs.map V.str)) : ∃ ys' : List Str, ys = ys'.map V.str ∧ ys'.Perm zs := by
  let g : V → Str := fun v => match v with
    | .str s => s
    | _ => ""
  have e : ∀ l : List Str, (l.map V.str).map g = l := fun l => by
    rw [List.map_map]
    exact (List.map_congr_left (fun _ _ => rfl)).trans (List.map_id l)
  refine ⟨ys.map g, ?_, ?_⟩
  · rw [List.map_map]
    refine ((List.map_congr_left fun y hy => ?_).trans (List.map_id ys)).symm
    obtain ⟨z, _, rfl⟩ := List.mem_map.mp (h.mem_iff.mp hy)
    rfl
  · have k := h.map g
    rw [e] at k
    exact k
theorem rows_mem {K : PySem.W.Frag} {H : Hp} : ∀ {xs : List V} {rs : List (List Str)}, Rows K H xs rs → xs.length = rs.length
  | [], [], _ => rfl
  | _ :: _, _ :: _, ⟨_, h⟩ => congrArg (· + 1) (rows_mem h)
  | [], _ :: _, h => h.elim
  | _ :: _, [], h => h.elim
theorem rows_perm {K : PySem.W.Frag} {H : Hp} {xs ys : List V} (h : ys.Perm xs) : ∀ {rs : List (List Str)}, Rows K H xs rs → ∃ ss, Rows K H ys ss ∧ ss.Perm rs := by
  induction h with
  | nil =>
    intro rs hr
    exact ⟨rs, hr, .refl _⟩
  | cons x _ ih =>
    intro rs hr
    cases rs with
    | nil => exact hr.elim
    | cons r rs =>
      obtain ⟨ss, h1, h2⟩ := ih hr.2
      exact ⟨r :: ss, ⟨hr.1, h1⟩, h2.cons r⟩
  | swap x y l =>
    intro rs hr
    match rs, hr with
    | a :: b :: rs, ⟨h1, h2, h3⟩ => exact ⟨b :: a :: rs, ⟨h2, h1, h3⟩, .swap a b rs⟩
    | [_], ⟨_, h⟩ => exact h.elim
    | [], h => exact h.elim
  | trans _ _ ih1 ih2 =>
    intro rs hr
    obtain ⟨s1, h1, h2⟩ := ih2 hr
    obtain ⟨s2, h3, h4⟩ := ih1 h1
    exact ⟨s2, h3, h4.trans h2⟩
section
variable {P : Program} {w : World} {K : PySem.W.Frag} {mg : Str → Option Value} {base : Heap} {f : Addr} {fd : FuncData}
theorem okV_picked (Fn : FnP K "_law_picked" s__law_picked f fd) (h_law_take : Has P w K mg base 1 "_law_take" ["_law_pool_here", "_law_many"] spTake) (gB_range : mg "range" = none) (gB_len : mg "len" = none) (gB_list : mg "list" = none) :
    FnOk P w K mg base CX0 2 f fd ["_law_pool_here", "_law_things", "_law_share"] spPickedV := by
  refine Fn.ok sc__law_picked (fun vs H Q E h => ?_) (fun cdv A outer s H vs Q E hr h => ⟨_, PSs.nox
    (pss_cons (ps_set (i := 3) sc__law_picked.nd rfl (Or.inl rfl) (pe_callTy call_lstS (by rfl) gB_list (by decide +kernel) (pa_cons (pv 1) pa_nil)))
      (pss_cons (ps_set (i := 4) sc__law_picked.nd rfl (Or.inl rfl) (pe_lst pa_nil))
      (pss_cons (ps_for PassesOwn.never rfl (pi_range1 (by rfl) gB_range (pa_cons (pe_callB call_len (by rfl) gB_len boot_len (pa_cons (pv 1) pa_nil)) pa_nil)) (pg_name (i := 5) sc__law_picked.nd rfl (Or.inl rfl))
      (pss_cons (ps_set (i := 6) sc__law_picked.nd rfl (Or.inl rfl) (pe_bm PySem.F.plainAttrs_list PySem.F.slot_list_pop PySem.F.type_list_pop mt_popAt (pv 3) (pa_cons (pe_has h_law_take (hr.mono (by decide)) (pa_cons (pv 0) (pa_cons (pe_callB call_len (by rfl) gB_len boot_len (pa_cons (pv 3) pa_nil)) pa_nil))) pa_nil)))
      (pss_one (ps_if (pt_cmpR op_lt (pe_has h_law_take (hr.mono (by decide)) (pa_cons (pv 0) (pa_cons pe_int pa_nil))) (pv 2) (nomark _)) (pss_one (ps_expr (pe_bm PySem.F.plainAttrs_list PySem.F.slot_list_append PySem.F.type_list_append mt_append (pv 4) (pa_cons (pv 6) pa_nil)))) pss_nil))))
      (pss_one (ps_ret (pv 4)))))), ?_⟩)
  · obtain ⟨p, l, zs, sh, n, rfl, _⟩ := h
    rfl
  · obtain ⟨p, l, zs, sh, n, rfl, hl, nlp, len, hp, hn, q⟩ := h
    refine ⟨_, rfl, l, _, rfl, .inl (SqL.of hl), fun s hs => ?_⟩
    refine ⟨Nat.le_of_ble_eq_true rfl, fun g hg => ?_⟩
    have x1 : Ext H (L2.upd H s (.lst zs)) := Ext.upd hs
    have hg0 : H g = none := ext_none x1 hg
    have nsp : s ≠ p := pool_ne hp hs
    have ngp : g ≠ p := pool_ne hp hg0
    have nsg : s ≠ g := fun e => by rw [← e, upd_same] at hg; cases hg
    obtain ⟨H1, hH1⟩ : ∃ H1, H1 = L2.upd (L2.upd H s (.lst zs)) g (.lst []) := ⟨_, rfl⟩
    have x2 : Ext H H1 := by rw [hH1]; exact x1.trans (Ext.upd hg)
    have s1 : H1 s = some (.lst zs) := by rw [hH1, upd_ne nsg, upd_same]
    have g1 : H1 g = some (.lst []) := by rw [hH1, upd_same]
    rw [← hH1]
    refine ⟨_, rfl, _, zs.length, rfl, .inl ⟨_, SqL.of (x2 _ _ hl), rfl⟩, (zs.length : Int), rfl, by omega, by omega, for_range (lo := 0) (n := zs.length) (fun k σ H' => ∃ (v5 v6 : Option V) (rem fnd rest : List V), σ = [some (.ref p), some (.ref l), some (.int (sh : Int)), some (.ref s), some (.ref g), v5, v6] ∧ But H H' p ∧ Pool H' p (n + 2 * k) ∧
      H' s = some (.lst rem) ∧ H' g = some (.lst fnd) ∧ ((fnd ++ rest) ++ rem).Perm zs ∧ (fnd ++ rest).length = k ∧ (4 ≤ sh → rest = [])) ?_ ?_ ?_⟩
    · exact ⟨_, _, zs, [], [], rfl, ext_but x2, by simpa using pool_ext hp x2, s1, g1, .refl _, rfl, fun _ => rfl⟩
    · rintro k σ H2 hk ⟨v5, v6, rem, fnd, rest, rfl, b2, p2, s2, g2, pm, cnt, full⟩
      have lenrem : rem.length = zs.length - k := by
        have z := pm.length_eq
        rw [List.length_append, cnt] at z
        omega
      refine ⟨_, rfl, .inl ⟨rfl, _, SqL.of s2⟩, ?_⟩
      refine ⟨_, rfl, _, rfl, _, _, rfl, .inl ⟨_, SqL.of s2, rfl⟩, ?_⟩
      refine ⟨p, _, _, rfl, ?_, ?_, p2, by omega, fun r o r0 r1 gp => ?_⟩
      · omega
      · omega
      obtain ⟨r, rfl⟩ := Int.eq_ofNat_of_zero_le r0
      have r1' : r < rem.length := by omega
      obtain ⟨H3, hH3⟩ : ∃ H3, H3 = L2.upd H2 p o := ⟨_, rfl⟩
      rw [← hH3] at gp ⊢
      have b23 : But H2 H3 p := by rw [hH3]; exact But.upd (ext_but Ext.rfl')
      have s3 := b23 _ _ nsp s2
      have g3 := b23 _ _ ngp g2
      refine ⟨s, _, (r : Int), r, rem[r], rfl, rfl, s3, Int.le_trans (by decide) (Int.natCast_nonneg r), by omega, seqIx (r1'), List.getElem?_eq_getElem r1', ?_⟩
      obtain ⟨H4, hH4⟩ : ∃ H4, H4 = L2.upd H3 s (.lst (rem.eraseIdx r)) := ⟨_, rfl⟩
      have s4 : H4 s = some (.lst (rem.eraseIdx r)) := by rw [hH4, upd_same]
      have g4 : H4 g = some (.lst fnd) := by rw [hH4, upd_ne nsg.symm]; exact g3
      have p4 : Pool H4 p (n + 2 * k + 1) := by rw [hH4]; exact pool_upd gp nsp
      have b4 : But H H4 p := fun b u nb hb => by
        rw [hH4, upd_ne (ne_of_none hb hs)]
        exact b23 _ _ nb (b2 _ _ nb hb)
      rw [← hH4]
      have pm4 : ∀ (a b : List V), ((a ++ b) ++ rem).Perm zs → ((a ++ b) ++ (rem[r] :: rem.eraseIdx r)).Perm zs := fun a b h => (List.Perm.append_left _ (era_perm rem r r1')).trans h
      have pm5 := pm4 fnd rest pm
      refine ⟨_, rfl, p, 4, _, rfl, by decide, by decide, p4, by omega, fun r2 o2 r20 r21 gp2 => ?_⟩
      obtain ⟨H5, hH5⟩ : ∃ H5, H5 = L2.upd H4 p o2 := ⟨_, rfl⟩
      rw [← hH5] at gp2 ⊢
      have b45 : But H4 H5 p := by rw [hH5]; exact But.upd (ext_but Ext.rfl')
      have s5 := b45 _ _ nsp s4
      have g5 := b45 _ _ ngp g4
      have b5 := b4.trans b45
      have ee : n + 2 * ((k + 1 : Nat) : Int) = n + 2 * (k : Int) + 1 + 1 := by omega
      refine ⟨_, rfl, _, _, rfl, rfl, _, rfl, ?_⟩
      refine ite2 (fun c => ?_) fun c => ?_
      · refine ⟨_, rfl, .inl ⟨rfl, _, SqL.of g5⟩, _, rfl, g, _, _, rfl, rfl, g5, ?_, ?_⟩
        · rw [sizeLine_eq]
          rw [List.length_append] at cnt
          omega
        refine ⟨_, _, rem.eraseIdx r, fnd ++ [rem[r]], rest, rfl, fun b u nb hb => ?_, by rw [ee]; exact pool_upd gp2 ngp, ?_, ?_, ?_, ?_, full⟩
        · rw [upd_ne (ne_of_none hb hg0)]
          exact b5 _ _ nb hb
        · rw [upd_ne nsg]
          exact s5
        · rw [upd_same]
        · refine List.Perm.trans ?_ pm5
          rw [List.append_assoc fnd, List.append_assoc, List.append_assoc fnd]
          refine List.Perm.append_left fnd ?_
          rw [List.singleton_append, List.cons_append]
          exact List.perm_middle.symm
        · simp only [List.length_append, List.length_singleton] at cnt ⊢
          omega
      · refine ⟨_, _, rem.eraseIdx r, fnd, rest ++ [rem[r]], rfl, b5, by rw [ee]; exact gp2, s5, g5, ?_, ?_, fun h4 => ?_⟩
        · refine List.Perm.trans ?_ pm5
          rw [← List.append_assoc fnd rest, List.append_assoc (fnd ++ rest), List.singleton_append]
        · simp only [List.length_append, List.length_singleton] at cnt ⊢
          omega
        · exact absurd (decide_eq_true (show r2 < ((sh : Nat) : Int) by omega)) c
    · rintro σ H2 ⟨v5, v6, rem, fnd, rest, rfl, b2, p2, s2, g2, pm, cnt, full⟩
      have rn : rem = [] := by
        have z := pm.length_eq
        rw [List.length_append, cnt] at z
        exact List.eq_nil_of_length_eq_zero (by omega)
      rw [rn, List.append_nil] at pm
      exact ⟨_, rfl, q g fnd rest H2 b2 (pool_mono p2 (by omega)) hg0 g2 pm full⟩
end
end My

/-! closures: a comprehension's block that knows where it began; a lambda called with arguments -/
namespace L2
open PySem PySem.Spec PyProof.Rows
section
variable {X : Cx} {pins : List (Addr × Obj)} {σ : St} {H : Hp} {s : Shared}
/-- a block that begins here -/
structure Beg (X : Cx) (pins : List (Addr × Obj)) (σ : St) (sb : Shared) (Hb : Hp) (fp : List Addr) : Prop where
  inv : Inv X pins σ Hb sb
  fp : ∀ b ∈ fp, FpOk X pins Hb b
theorem lcg_core {Q : VK} {elt tg iter : Expr} {ifs : List Expr} {scope : Scope} {own : List (Str × Nat)} {pos pos' : Pos} {wi : TI} {g : TG} {tt : TT} {te : TE} {use : Option (Value → Sem Unit)} {Qf : Value → Shared → Prop}
    (hc : X.calm = true) (hN : X.N.Nodup) (I : Inv X pins σ H s) (hi : PI X tg iter wi) (ok : BlkOk X.N X.env.scope scope own)
    (hb : ∀ (sb : Shared) (Hb : Hp) (C : Addr) (cl : List (Str × Addr)) (fp : List Addr), Beg X pins σ sb Hb fp → PG (X.blk sb Hb scope (compEnvC scope cl C X.env) fp) tg g ∧ PTs (X.blk sb Hb scope (compEnvC scope cl C X.env) fp) ifs tt ∧ PE (X.blk sb Hb scope (compEnvC scope cl C X.env) fp) elt te)
    (hs : ∀ x, foldedSetIterable iter X.env x = pure x) (h : tLc wi g tt te (own.map (·.2)) σ H Q)
    (fin : ∀ D C s' m H', Inv X pins σ H' s' → Q (.ref D) H' → s'.heap.Ns C m → FpOk X pins H' C → compPost (model X.prog X.w) X.A X.xe use Qf (.ref D) C (.ok .next) s') :
    wpAny (model X.prog X.w) X.A (comprehension (.ListComp elt [⟨tg, iter, ifs, 0⟩] scope pos) scope X.env pos' (newList []) false (eval iter X.env) use) Qf X.xe s := by
  have caps : ∀ y ∈ scope.names, y.2 = .free → ∃ c, X.env.cells.lookup y.1 = some c := fun y hy e => (ok.free y hy e).elim (fun k => I.ok.has _ (.inl k)) (fun k => I.ok.has _ (.inr k))
  refine wpAny_comprehension_free (use := use) rfl hs (closure_ok caps) ok.kind (fun y hy e => by rw [ok.uniq y hy, e]) ?_
  refine thn (hi.run pins s σ H _ I h) fun _ sA hA => thn hA fun _ sB ⟨it, fp, tn, J, HB, eit, IB, T, stB, fB, body⟩ => ?_
  subst eit
  refine wpAny_newObj_type (newEnv_comp ?_) (by show 0 ≤ sizeLine; decide)
  have bD : HB sB.heap.objs.size = none := IB.hok.fresh (Nat.le_refl _)
  obtain ⟨W, ⟨mz, wz⟩, turn⟩ := body _ bD
  have kC : ∀ b o, sB.heap.get? b = some o → (sB.heap.push { cls := .type "list", data := .seq ([] : List Value).toArray }).get? b = some o := fun b o e => Heap.get?_push_of_some _ e
  have IC : Inv X pins σ (upd HB sB.heap.objs.size (.lst [])) { sB with heap := sB.heap.push { cls := .type "list", data := .seq ([] : List Value).toArray } } :=
    IB.laid (t' := sB.toks) kC (Nat.le_refl _) ⟨Nat.zero_le _, [], 0, .nil, Heap.get?_push_size _ rfl⟩
  have lts : ∀ b ∈ fp, b < sB.heap.objs.size := fun b hb => let ⟨_, e, _⟩ := T.obj _ _ stB b hb; Heap.lt_size e
  have fC : ∀ b ∈ fp, FpOk X pins (upd HB sB.heap.objs.size (.lst [])) b := fun b hb => ⟨(upd_ne (Nat.ne_of_lt (lts b hb))).trans (fB b hb).1, (fB b hb).2⟩
  have stC := T.keep _ _ _ stB fun b _ o e => kC b o e
  generalize hHC : upd HB sB.heap.objs.size (.lst []) = HC at IC fC wz
  generalize sB.heap.objs.size = D at turn wz ⊢
  obtain ⟨sC, hsC⟩ : ∃ sC : Shared, sC = { sB with heap := sB.heap.push { cls := .type "list", data := .seq ([] : List Value).toArray } } := ⟨_, rfl⟩
  rw [← hsC] at IC ⊢
  have ltC : ∀ b ∈ fp, b < sC.heap.objs.size := fun b hb => by
    rw [hsC, Heap.size_push]
    exact Nat.lt_succ_of_lt (lts b hb)
  have IZ := block_start IC ok hN fun b hb => ⟨fC b hb, ltC b hb⟩
  obtain ⟨pg, pt, pe⟩ := hb sC HC sC.heap.objs.size (cellsFrom (sC.heap.objs.size + 1) scope.names (cloFrom X.env.cells scope.names [])) fp ⟨IC, fC⟩
  have stC' : tn 0 sC.heap := by rw [hsC]; exact stC
  have stZ : tn 0 (pushCells (sC.heap.push { cls := .type "dict", data := .dict #[] }) scope.names) := T.keep _ _ _ stC' fun b _ o e => pushCells_keeps _ _ _ _ (Heap.get?_push_of_some _ e)
  show codeAny _ _ (.compStart (.ListComp elt [⟨tg, iter, ifs, 0⟩] scope pos) 0 (.ref it) (.ref D) (compEnvC scope (cellsFrom (sC.heap.objs.size + 1) scope.names (cloFrom X.env.cells scope.names [])) sC.heap.objs.size X.env)) (compPost (model X.prog X.w) X.A X.xe use Qf (.ref D) sC.heap.objs.size) { sC with heap := pushCells (sC.heap.push { cls := .type "dict", data := .dict #[] }) scope.names }
  have pL : (compEnvC scope (cellsFrom (sC.heap.objs.size + 1) scope.names (cloFrom X.env.cells scope.names [])) sC.heap.objs.size X.env).locals = sC.heap.objs.size := rfl
  generalize compEnvC scope (cellsFrom (sC.heap.objs.size + 1) scope.names (cloFrom X.env.cells scope.names [])) sC.heap.objs.size X.env = ce at IZ pg pt pe pL ⊢
  obtain ⟨sZ, hsZ⟩ : ∃ sZ : Shared, sZ = { sC with heap := pushCells (sC.heap.push { cls := .type "dict", data := .dict #[] }) scope.names } := ⟨_, rfl⟩
  have stZ : tn 0 sZ.heap := by rw [hsZ]; exact stZ
  rw [← hsZ] at IZ ⊢
  have still : ∀ {σ' : St} {H' : Hp} {s' : Shared}, Inv (X.blk sC HC scope ce fp) [] σ' H' s' → (∀ b ∈ fp, H' b = none) → ∀ b ∈ fp, FpOk (X.blk sC HC scope ce fp) [] H' b := fun {σ' H' s'} I' hn b hb =>
    ⟨hn b hb, (I'.ok.exf b hb).1, I'.ok.exfs b hb, .inl hb, fun x c e => (I'.ok.exf b hb).2 x c e, fun p hp => absurd (show p ∈ ([] : List (Addr × Obj)) from hp) (by simp)⟩
  have loop : codeAny (model X.prog X.w) X.A (.compLoop (.ListComp elt [⟨tg, iter, ifs, 0⟩] scope pos) 0 (.ref it) (.ref D) ce) (compPost (model X.prog X.w) X.A X.xe use Qf (.ref D) sC.heap.objs.size) sZ := by
    refine compLoop_any (fun n s' => ∃ i H', Inv (X.blk sC HC scope ce fp) [] (wipe σ (own.map (·.2))) H' s' ∧ tn i s'.heap ∧ (∀ b ∈ fp, H' b = none) ∧ W i n H') ?_ mz ⟨0, HC, IZ, stZ, fun b hb => (fC b hb).1, wz⟩
    rintro n s5 ⟨i, H5, I5, st5, n5, w5⟩
    rcases turn i n H5 w5 with ⟨stop, qq⟩ | ⟨go, Nx, hNx, step⟩
    · refine thnF (T.done (X.blk sC HC scope ce fp) rfl rfl rfl hc i [] s5 _ H5 (fun _ _ => False) I5 (still I5 n5) st5 stop) fun r s6 ⟨hr, I6⟩ => ?_
      subst hr
      have I7 : Inv X pins σ H5 s6 := IC.call' (ch := fp) I6.os I6.base I6.hok I6.bare fun b hb => ⟨(fC b hb).2.2.2.1, (fC b hb).2.1, (fC b hb).2.2.2.2.1, (fC b hb).2.2.2.2.2⟩
      have nC : H5 sC.heap.objs.size = none := by
        rw [← pL]
        exact I6.free
      obtain ⟨m, hn, _⟩ := I6.loc
      have hn : s6.heap.Ns ce.locals m := hn
      rw [pL] at hn
      exact fin D _ s6 m H5 I7 qq hn (IC.fpOk (Nat.le_refl _) nC)
    · refine thnF (T.item (X.blk sC HC scope ce fp) rfl rfl rfl hc i [] s5 _ H5 (fun _ _ => False) I5 (still I5 n5) st5 go) fun r s6 ⟨u, hr, h6⟩ => ?_
      subst hr
      refine thnF h6 fun _ s7 ⟨x, H7, I7, r7, y7, st7, n7⟩ => ?_
      refine thnF (pg.run _ s7 _ H7 x u _ (I7.pinned (still I7 n7) (T.obj _ _ st7)) r7 (step x H7 y7)) fun _ s8 ⟨σ8, H8, I8, hw8, q8⟩ => ?_
      refine thnF (pt.run _ s8 σ8 H8 _ I8 q8) fun b s9 ⟨H9, I9, q9⟩ => ?_
      have over : ∀ {s' : Shared} {H' : Hp}, Inv (X.blk sC HC scope ce fp) ([] ++ pinsAt fp s7.heap) σ8 H' s' → Nx H' → ∃ m, m < n ∧ ∃ i H', Inv (X.blk sC HC scope ce fp) [] (wipe σ (own.map (·.2))) H' s' ∧ tn i s'.heap ∧ (∀ b ∈ fp, H' b = none) ∧ W i m H' := fun {s' H'} I' nx => by
        obtain ⟨m', hm, w'⟩ := hNx H' nx
        have stay : ∀ b ∈ fp, ∀ o, s7.heap.get? b = some o → s'.heap.get? b = some o ∧ H' b = none := fun b hb o e =>
          have z := I'.pin (b, o) (List.mem_append_right _ (List.mem_append_right _ (mem_pinsAt hb e)))
          ⟨z.1, z.2.1⟩
        refine ⟨m', hm, i + 1, H', (I'.unpinned (pins := [])).weak (by rw [← hw8, wipe_length]) (fun j v e => (wipe_some (hw8 ▸ e)).1), T.keep _ _ _ st7 fun b hb o e => (stay b hb o e).1, fun b hb => ?_, w'⟩
        obtain ⟨o, e, _⟩ := T.obj _ _ st7 b hb
        exact (stay b hb o e).2
      cases b with
      | false =>
        simp only [Bool.false_eq_true, if_false] at q9 ⊢
        exact over I9 q9
      | true =>
        simp only [if_true] at q9 ⊢
        exact thnF (pe.run _ s9 σ8 H9 _ I9 q9) fun z s10 ⟨yv, H10, I10, r10, acc, hD10, hz10, nx⟩ => app_ok (X := X.blk sC HC scope ce fp) I10 hD10 hz10 r10 fun s11 I11 => over I11 nx
  exact codeAny_compStart_list loop (T.self X.A 0 _ _ _ stZ loop)
end
section
variable {X : Cx} {elt tg iter : Expr} {ifs : List Expr} {scope : Scope} {own : List (Str × Nat)} {pos spos : Pos} {wi : TI} {g : TG} {tt : St → TT} {te : St → TE}
/-- what a block is shown to do, it being known where it began -/
def BlkG (X : Cx) (scope : Scope) (tg elt : Expr) (ifs : List Expr) (g : TG) (tt : St → TT) (te : St → TE) : Prop :=
  ∀ (pins : List (Addr × Obj)) (σ : St) (sb : Shared) (Hb : Hp) (C : Addr) (cl : List (Str × Addr)) (fp : List Addr), Beg X pins σ sb Hb fp →
    PG (X.blk sb Hb scope (compEnvC scope cl C X.env) fp) tg g ∧ PTs (X.blk sb Hb scope (compEnvC scope cl C X.env) fp) ifs (tt σ) ∧ PE (X.blk sb Hb scope (compEnvC scope cl C X.env) fp) elt (te σ)
def tLcG (wi : TI) (g : TG) (tt : St → TT) (te : St → TE) (vs : List Nat) : TE := fun σ H Q => tLc wi g (tt σ) (te σ) vs σ H Q
theorem pe_lcG (hc : X.calm = true) (hN : X.N.Nodup) (hi : PI X tg iter wi) (ok : BlkOk X.N X.env.scope scope own) (hb : BlkG X scope tg elt ifs g tt te) (hs : ∀ x, foldedSetIterable iter X.env x = pure x := by intro _; rfl) :
    PE X (.ListComp elt [⟨tg, iter, ifs, 0⟩] scope pos) (tLcG wi g tt te (own.map (·.2))) := ⟨fun pins s σ H Q I h => by
  rw [eval_ListComp]
  refine lcg_core hc hN I hi ok (fun sb Hb C cl fp => hb pins σ sb Hb C cl fp) hs h fun D C s' m H' I' q hn f => ⟨m, hn, fun h2 sb => ?_⟩
  obtain ⟨f0, f1, _, f3, f4, f5⟩ := f
  exact ⟨.ref D, H', I'.turned (t' := s'.toks) (fun b o ne e => (sb.2 b ne).trans e) f0 f1 f3 f4 f5, rfl, q⟩⟩
/-- name = [..] on one line -/
theorem ps_setLcG {i : Nat} {y : Str} {py : Pos} (hc : X.calm = true) (hN : X.N.Nodup) (hy : X.N[i]? = some y) (hyl : X.env.scope.names.lookup y = some .local)
    (hsw : swapsWith (.ListComp elt [⟨tg, iter, ifs, 0⟩] scope pos) (some (.Name y py)) spos.line X.env = pure true) (hi : PI X tg iter wi) (ok : BlkOk X.N X.env.scope scope own) (hb : BlkG X scope tg elt ifs g tt te) (hs : ∀ x, foldedSetIterable iter X.env x = pure x := by intro _; rfl) :
    PS X (.Assign [.Name y py] (.ListComp elt [⟨tg, iter, ifs, 0⟩] scope pos) spos) (tAsg (tLcG wi g tt te (own.map (·.2))) (gName i)) := ⟨fun pins s σ H D I h => by
  rw [exec_Assign_Name_used _ _ _ _ hsw]
  refine wpAny_bind (wpAny_standAt (wpAny_bind ?_))
  have hq : tLc wi g (tt σ) (te σ) (own.map (·.2)) σ H (fun x H1 => gName i x σ H1 D.nx) := h
  show wpAny _ X.A (do let _ ← comprehension (.ListComp elt [⟨tg, iter, ifs, 0⟩] scope pos) scope X.env (firstIterPos [⟨tg, iter, ifs, 0⟩] pos) (newList []) false (eval iter X.env) (some (assign (.Name y py) X.env))) _ _ s
  refine wpAny_bind (thn (lcg_core (Qf := fun _ sq => SP X pins D .next sq) hc hN I hi ok (fun sb Hb C cl fp => hb pins σ sb Hb C cl fp) hs hq fun L C sq m H' I' q hn f => ?_) fun _ _ z => wpAny_pure (wpAny_pure z))
  show wpAny _ _ (assign (.Name y py) X.env (.ref L)) _ _ _
  refine wpAny_assign_Name (store_ok2 (v := V.ref L) I' hN hy (.inl hyl) rfl (fun s2 I2 ⟨a, sb, ha⟩ => ?_) (.inr hyl))
  obtain ⟨f0, f1, _, f3, f4, f5⟩ := f
  have ne : C ≠ a := ha.elim (fun z => by rw [z]; exact f1) fun z e => f4 y a z e.symm
  exact ⟨m, hn.sameBut sb ne, fun h3 sb3 => ⟨_, H', I2.turned (t' := s2.toks) (fun b o nb e => (sb3.2 b nb).trans e) f0 f1 f3 f4 f5, q⟩⟩⟩
end
end L2
namespace LamX
open PySem PySem.Spec PyProof.Rows L2
/-! ### what a lambda's maker leaves known -/
structure CloS (N : List Str) (sc : Scope) (cells : List (Str × Addr)) (σ : L2.St) (H : Hp) (h : Heap) : Prop where
  inj : ∀ x y c, cells.lookup x = some c → cells.lookup y = some c → x = y
  has : ∀ x, (sc.names.lookup x = some .cell ∨ sc.names.lookup x = some .free) → ∃ c, cells.lookup x = some c
  loc : ∀ (i : Nat) (y : Str) (v : V), N[i]? = some y → σ[i]? = some (some v) → (sc.names.lookup y = some .cell ∨ sc.names.lookup y = some .free) → ∃ u c, RelV v u ∧ cells.lookup y = some c ∧ h.IsCell c (some u)
  cell : ∀ y c, cells.lookup y = some c → ∃ v, h.IsCell c v
  free : ∀ y c, cells.lookup y = some c → H c = none
  len : σ.length = N.length
theorem CloS.of {X : Cx} {pins : List (Addr × Obj)} {σ : L2.St} {H : Hp} {s : Shared} (I : Inv X pins σ H s) : CloS X.N X.env.scope X.env.cells σ H s.heap := by
  refine ⟨I.ok.inj, I.ok.has, fun i y v e1 e2 k => ?_, I.cell, I.freeC, I.len⟩
  obtain ⟨m, _, hl⟩ := I.loc
  obtain ⟨u, r, q⟩ := hl i y v e1 e2 (.inr k)
  rcases q with ⟨k', _⟩ | ⟨_, c, e, z⟩
  · have k' : X.env.scope.names.lookup y = some .local := k'
    rcases k with k | k <;> rw [k] at k' <;> cases k'
  · exact ⟨u, c, r, e, z⟩
theorem CloS.un {N : List Str} {sc : Scope} {cells : List (Str × Addr)} {σ : L2.St} {H H' : Hp} {h h' : Heap} {fs ex : List Addr} (C : CloS N sc cells σ H h) (u : Un fs ex H H' h h') (nx : ∀ y c, cells.lookup y = some c → c ∉ ex) : CloS N sc cells σ H' h' := by
  have kc : ∀ y c v, cells.lookup y = some c → h.IsCell c v → h'.IsCell c v := fun y c v e ⟨o, ho, hd⟩ => by
    obtain ⟨sl, q⟩ := u.any ho (C.free y c e) (nx y c e)
    exact ⟨_, q, hd⟩
  refine ⟨C.inj, C.has, fun i y v e1 e2 k => ?_, fun y c e => ?_, fun y c e => ?_, C.len⟩
  · obtain ⟨w, c, r, e, z⟩ := C.loc i y v e1 e2 k
    exact ⟨w, c, r, e, kc y c _ e z⟩
  · obtain ⟨v, z⟩ := C.cell y c e
    exact ⟨v, kc y c v e z⟩
  · obtain ⟨v, o, ho, _⟩ := C.cell y c e
    exact u.free c o ho (C.free y c e) (nx y c e)
/-! ### a lambda's names: its parameters, captured ones and globals -/
structure LamP (N : List Str) (sc scope : Scope) (ps : List Str) : Prop where
  kind : scope.kind = .function
  co : scope.isCoroutine = false
  gen : scope.isGenerator = false
  own : ∀ y ∈ scope.names, y.2 ≠ .cell ∧ (y.2 = .local → y.1 ∈ ps)
  free : ∀ y ∈ scope.names, y.2 = .free → sc.names.lookup y.1 = some .cell ∨ sc.names.lookup y.1 = some .free
  par : ∀ x ∈ ps, scope.names.lookup x = some .local ∧ x ∉ N
  nd : ps.Nodup
def lamPB (N : List Str) (sc scope : Scope) (ps : List Str) : Bool :=
  decide (scope.kind = .function) && !scope.isCoroutine && !scope.isGenerator && (scope.names.all fun y => !decide (y.2 = .cell) && (!decide (y.2 = .local) || decide (y.1 ∈ ps)) && (!decide (y.2 = .free) || decide (sc.names.lookup y.1 = some .cell) || decide (sc.names.lookup y.1 = some .free))) &&
  (ps.all fun x => decide (scope.names.lookup x = some .local) && !decide (x ∈ N)) && decide ps.Nodup
theorem lamP_by {N : List Str} {sc scope : Scope} {ps : List Str} (h : lamPB N sc scope ps = true) : LamP N sc scope ps := by
  unfold lamPB at h
  simp only [Bool.and_eq_true, Bool.or_eq_true, Bool.not_eq_true', decide_eq_true_eq, decide_eq_false_iff_not, List.all_eq_true] at h
  obtain ⟨⟨⟨⟨⟨h1, h2⟩, h3⟩, h4⟩, h5⟩, h6⟩ := h
  refine ⟨h1, h2, h3, fun y hy => ⟨(h4 y hy).1.1, fun e => (h4 y hy).1.2.elim (fun z => absurd e z) id⟩, fun y hy e => ?_, h5, h6⟩
  rcases (h4 y hy).2 with (z | z) | z
  · exact absurd e z
  · exact .inl z
  · exact .inr z
abbrev lamE (qual : Str) (cells : List (Str × Addr)) (scope : Scope) (L f c' : Addr) : Env := PySem.W.envX qual scope L f (.ref c') (cloFrom cells scope.names [])
/-- the context of a lambda's body -/
def lamC (P : Program) (w : World) (K : PySem.W.Frag) (mg : Str → Option Value) (base : Heap) (N : List Str) (qual : Str) (cells : List (Str × Addr)) (A : Around) (outer : List Env) (s : Shared) (H : Hp) (E : XK) (scope : Scope) (f c' : Addr) : Cx where
  prog := P
  w := w
  K := K
  mg := mg
  base := base
  A := A.deeper (lamE qual cells scope s.heap.objs.size f c')
  N := N
  s_0 := s
  H_0 := H
  env := lamE qual cells scope s.heap.objs.size f c'
  outer := outer
  stack := lamE qual cells scope s.heap.objs.size f c' :: outer
  ex := []
  fn := fun _ => false
  calm := true
  pn := []
  xe := fun e s' => wpAny (model P w) (A.deeper (lamE qual cells scope s.heap.objs.size f c')) (leaving (lamE qual cells scope s.heap.objs.size f c') e) (fun _ s'' => L2.CX P w outer H s E e s'') (fun e' s'' => L2.CX P w outer H s E e' s'') s'
theorem lookup_nd {α : Type} : ∀ {l : List (Str × α)} {y : Str} {u : α}, (l.map (·.1)).Nodup → (y, u) ∈ l → l.lookup y = some u
  | [], _, _, _, h => by cases h
  | (a, b) :: r, y, u, nd, h => by
    rw [List.map_cons, List.nodup_cons] at nd
    rcases List.mem_cons.mp h with e | h
    · cases e
      simp [List.lookup_cons]
    · have ne : (y == a) = false := by
        rw [beq_eq_false_iff_ne]
        intro e
        exact nd.1 (e ▸ List.mem_map_of_mem (f := (·.1)) h)
      rw [List.lookup_cons, ne]
      exact lookup_nd nd.2 h
theorem zip_rev {α : Type} {ps : List Str} {us : List α} (hl : us.length = ps.length) (nd : ps.Nodup) {j : Nat} {y : Str} {u : α} (h1 : ps[j]? = some y) (h2 : us[j]? = some u) : (ps.zip us).reverse.lookup y = some u := by
  refine lookup_nd ?_ (List.mem_reverse.mpr (List.mem_of_getElem? (i := j) ?_))
  · rw [List.map_reverse, List.map_fst_zip (by rw [hl]; exact Nat.le_refl _)]
    exact (List.reverse_perm ps).nodup_iff.mpr nd
  · rw [List.getElem?_zip_eq_some]
    exact ⟨h1, h2⟩
section
variable {P : Program} {w : World} {K : PySem.W.Frag} {mg : Str → Option Value} {base : Heap} {N ps : List Str} {sc scope : Scope} {qual : Str} {cells : List (Str × Addr)} {σ : L2.St} {HZ : Hp} {s1 : Shared} {A : Around} {outer : List Env} {E : XK} {f c' : Addr}
theorem lamC_start {h₁ : Heap} {tk : Nat} {vs : List V} {us : List Value} (C : CloS N sc cells σ HZ s1.heap) (L : LamP N sc scope ps) (e0 : Env0 P w K mg base A outer s1 HZ) (hd : A.handled = none) (r : Vals vs us) (hl : vs.length = ps.length)
    (hns : h₁.Ns s1.heap.objs.size fun y => (ps.zip us).reverse.lookup y) (kp : ∀ b o, s1.heap.get? b = some o → h₁.get? b = some o) :
    Inv (lamC P w K mg base (N ++ ps) qual cells A outer s1 HZ E scope f c') [] (σ ++ vs.map some) HZ { s1 with heap := h₁, toks := tk } := by
  have cm : ∀ {y c}, (cloFrom cells scope.names []).lookup y = some c → cells.lookup y = some c := fun {y c} e => by
    rcases cloFrom_mem (PySem.mem_of_lookup e) with hm | ⟨h1, h2⟩
    · cases hm
    · obtain ⟨c1, hc⟩ := C.has _ (L.free _ h1 rfl)
      have hc : cells.lookup y = some c1 := hc
      have e2 : c = c1 := by rw [h2, hc] <;> rfl
      rw [e2]
      exact hc
  have look : ∀ {y}, scope.names.lookup y = some .free → ∃ c, (cloFrom cells scope.names []).lookup y = some c := fun {y} z => mem_lookup (cloFrom_has (cells := cells) (acc := []) (show (y, NameKind.free) ∈ scope.names from PySem.mem_of_lookup z))
  have ck : ∀ {c : Addr} {v : Option Value}, s1.heap.IsCell c v → h₁.IsCell c v := fun {c v} ⟨o, ho, z⟩ => ⟨o, kp _ _ ho, z⟩
  have noA : ∀ b : Addr, b ∉ (lamC P w K mg base (N ++ ps) qual cells A outer s1 HZ E scope f c').ex := fun b z => absurd (show b ∈ ([] : List Addr) from z) (by simp)
  have lu : us.length = ps.length := by rw [← r.length]; exact hl
  refine ⟨⟨e0.mod, L.kind, rfl, rfl, Nat.le_refl _, fun y z c e1 e2 => C.inj y z c (cm e1) (cm e2), fun y hy => ?_, fun y c z _ => ?_, fun _ => hd, Around.frames_deeper e0.frames, .inr ⟨rfl, rfl⟩, fun b z => absurd z (noA b), e0.bs, e0.bsz, fun b _ _ => noA b, fun b z => absurd z (noA b), e0.funs, e0.frf⟩,
    rfl, e0.bare, Un.kept kp, ⟨_, hns, fun i y v e1 e2 e3 => ?_⟩, fun y c e => ?_, e0.hok.fresh (Nat.le_refl _), fun y c e => C.free y c (cm e), fun q hq => absurd (show q ∈ ([] : List (Addr × Obj)) ++ [] from hq) (by simp), e0.hok.kept kp, ?_⟩
  · have hy : scope.names.lookup y = some .cell ∨ scope.names.lookup y = some .free := hy
    exact hy.elim (fun z => absurd rfl (L.own _ (PySem.mem_of_lookup z)).1) look
  · have z : false = true := z
    cases z
  · have e1 : (N ++ ps)[i]? = some y := e1
    have e3 : Vis scope y := e3
    by_cases hi : i < N.length
    · rw [List.getElem?_append_left hi] at e1
      rw [List.getElem?_append_left (by rw [C.len]; exact hi)] at e2
      rcases e3 with k | k | k
      · exact absurd (List.mem_of_getElem? e1) (L.par y ((L.own _ (PySem.mem_of_lookup k)).2 rfl)).2
      · exact absurd rfl (L.own _ (PySem.mem_of_lookup k)).1
      · obtain ⟨u, c, ru, ec, z⟩ := C.loc i y v e1 e2 (L.free _ (PySem.mem_of_lookup k) rfl)
        obtain ⟨c2, h2⟩ := look k
        have c1 := cm h2
        rw [ec] at c1
        cases c1
        exact ⟨u, ru, .inr ⟨.inr k, c, h2, ck z⟩⟩
    · rw [List.getElem?_append_right (Nat.le_of_not_lt hi)] at e1
      rw [List.getElem?_append_right (by rw [C.len]; exact Nat.le_of_not_lt hi), C.len, List.getElem?_map] at e2
      obtain ⟨v', e2, ev⟩ := Option.map_eq_some_iff.mp e2
      cases ev
      obtain ⟨u, eu, ru⟩ := r.get e2
      exact ⟨u, ru, .inl ⟨(L.par y (List.mem_of_getElem? e1)).1, zip_rev lu L.nd e1 eu⟩⟩
  · obtain ⟨v, z⟩ := C.cell y c (cm e)
    exact ⟨v, ck z⟩
  · show (σ ++ vs.map some).length = (N ++ ps).length
    rw [List.length_append, List.length_append, List.length_map, C.len, hl]
/-- a lambda runs -/
theorem lamC_run {k : Nat} {params : Arguments} {body : Expr} {pm ctv : Value} {vs : List V} {us : List Value} {tb : TE} {Q : VK} (e0 : Env0 P w K mg base A outer s1 HZ) (hr : Room (k + 1) A) (C : CloS N sc cells σ HZ s1.heap) (L : LamP N sc scope ps)
    (hf : s1.heap.get? f = some (PySem.W.kla_obj "<lambda>" qual params body scope (cloFrom cells scope.names []) pm c' ctv)) (hco : HZ c' = some (CodeO c' qual))
    (hbind : bindArgs (PySem.W.kla_fn "<lambda>" qual params body scope (cloFrom cells scope.names []) pm (.ref c') ctv) ⟨us, []⟩ = pure (ps.zip us)) (r : Vals vs us) (hl : vs.length = ps.length)
    (hbody : Room k (A.deeper (lamE qual cells scope s1.heap.objs.size f c')) → PE (lamC P w K mg base (N ++ ps) qual cells A outer s1 HZ E scope f c') body tb) (h : tb (σ ++ vs.map some) HZ Q) :
    codeAny (model P w) A (.call (.ref f) ⟨us, []⟩) (CR (L2.CX P w) outer P w HZ s1 Q E) s1 := by
  obtain ⟨⟨oc, xs, t, hoc, hdc, hvc⟩, _, _⟩ := e0.hok c' _ hco
  refine PySem.W.kla_callFunE hr.depth hf rfl L.co L.gen rfl ⟨c', oc, xs, t, rfl, hoc, hdc, hvc⟩ ?_
  rw [hbind]
  have nolim : s1.heap.NoLimit := e0.mod.nolimit.keeps fun b o e => (e0.bs b o e).1
  refine wpAny_pure (wpAny_newFunctionEnv (fun y hy => (L.own y hy).1) (fun y hy => (L.par _ (List.of_mem_zip hy).1).1) (fun h₁ hns hsb => ⟨nolim.fresh _ hsb, ?_⟩) L.kind)
  show codeAny _ _ (.expr body (lamE qual cells scope s1.heap.objs.size f c')) _ _
  have kp : ∀ b o, s1.heap.get? b = some o → h₁.get? b = some o := fun b o e => hsb.extBut b o (Nat.ne_of_lt (Heap.lt_size e)) (Heap.get?_push_of_some _ e)
  have J := lamC_start (E := E) (f := f) (c' := c') (qual := qual) (tk := s1.toks + (ps.zip us).length) C L e0 hr.hd r hl hns kp
  refine PySem.W.kla_codeExpr (wpAny_mono ((hbody (hr.deeper _)).run [] _ _ HZ Q J h) (fun v s' ⟨w', H', J', rv, q⟩ => ?_) fun e s' hq => hq)
  exact ⟨w', H', J'.os, J'.bare, J'.base, J'.hok, rv, q⟩
end
section
variable {Z : Cx} {N ps : List Str} {sc scope : Scope} {qual : Str} {cells : List (Str × Addr)} {σ : L2.St} {f c' : Addr} {k i : Nat} {a : Str} {params : Arguments} {body : Expr} {pm ctv : Value} {E : XK} {tb te : TE} {p1 p2 : Pos} {e : Expr} {G : Hp → Prop}
/-- it is known at each state of Z in which G what stands at f and in the cells -/
def Known (Z : Cx) (N : List Str) (sc : Scope) (cells : List (Str × Addr)) (σ : L2.St) (G : Hp → Prop) (f c' : Addr) (o : Obj) (qual : Str) : Prop :=
  ∀ (pins : List (Addr × Obj)) (s : Shared) (σZ : L2.St) (H : Hp), Inv Z pins σZ H s → G H → s.heap.get? f = some o ∧ CloS N sc cells σ H s.heap ∧ H c' = some (CodeO c' qual)
/-- a(e), a being a lambda -/
theorem pe_lam1 (kn : Known Z N sc cells σ G f c' (PySem.W.kla_obj "<lambda>" qual params body scope (cloFrom cells scope.names []) pm c' ctv) qual) (L : LamP N sc scope ps) (hx : Passes (L2.CX Z.prog Z.w) Z E) (hr : Room (k + 1) Z.A)
    (hbind : ∀ u, bindArgs (PySem.W.kla_fn "<lambda>" qual params body scope (cloFrom cells scope.names []) pm (.ref c') ctv) ⟨[u], []⟩ = pure (ps.zip [u])) (hp : ps.length = 1)
    (hbody : ∀ (s : Shared) (H : Hp), Room k (Z.A.deeper (lamE qual cells scope s.heap.objs.size f c')) → PE (lamC Z.prog Z.w Z.K Z.mg Z.base (N ++ ps) qual cells Z.A Z.stack s H E scope f c') body tb)
    (hN : Z.N[i]? = some a) (hv : Vis Z.env.scope a) (he : PE Z e te) (hd : (a == ("__debug__" : Str)) = false := by decide) (hcd : (a == ("__classdict__" : Str)) = false := by decide) (hst : starEach [e] Z.env = (false, eval e Z.env) :: starEach [] Z.env := by rfl) :
    PE Z (.Call (.Name a p1) [e] [] p2) (fun σZ HZ Q => σZ[i]? = some (some (.ref f)) ∧ G HZ ∧ te σZ HZ fun v H1 => G H1 ∧ tb (σ ++ [some v]) H1 Q) := by
  refine ⟨fun pinsZ sZ σZ HZ Q IZ h => ?_⟩
  obtain ⟨hs, hg, ht⟩ := h
  have pa : PA Z [e] (tCons te tNil) := pa_cons he pa_nil hst
  refine wpAny_Call_Name_kw (thn ((pe_var (pos := p1) (i := i) hN hv hd hcd).run pinsZ sZ σZ HZ (fun v H1 => v = .ref f ∧ H1 = HZ) IZ ⟨.ref f, hs, rfl, rfl⟩) fun u s1 ⟨v, H1, I1, r1, ev, eH⟩ => ?_)
  subst ev
  rw [eH] at I1
  obtain rfl : u = Value.ref f := r1
  refine PySem.W.callWith_F ⟨_, _, _, _, (kn _ _ _ _ I1 hg).1⟩ (thn (pa.run p2 pinsZ s1 σZ HZ (fun vs H2 => ∃ v, vs = [v] ∧ G H2 ∧ tb (σ ++ [some v]) H2 Q) I1 ?_) fun us s2 ⟨vs, H2, I2, r2, v, ev, g2, q2⟩ => ?_) hst
  · show te σZ HZ _
    exact (by simpa [tNil] using ht)
  · subst ev
    obtain ⟨e1, e2, e3⟩ := kn _ _ _ _ I2 g2
    refine ⟨⟨_, _, _, _, e1⟩, ?_⟩
    have run := lamC_run (E := E) (Q := Q) (vs := [v]) (us := us) I2.env0 hr e2 L e1 e3 (by
      cases r2 with
      | cons r rest =>
        cases rest
        exact hbind _) r2 (by rw [hp]; rfl) (fun hr2 => hbody s2 H2 hr2) q2
    refine wpAny_call (codeAny_mono run fun r s' hq => ?_)
    cases r with
    | error e => exact hx pinsZ σZ H2 s2 e s' I2 hq
    | ok fl =>
      cases fl with
      | ret u => exact I2.after hq
      | next => exact False.elim hq
      | brk => exact False.elim hq
      | cont => exact False.elim hq
/-- a(), a being a lambda -/
theorem pe_lam0 (kn : Known Z N sc cells σ G f c' (PySem.W.kla_obj "<lambda>" qual params body scope (cloFrom cells scope.names []) pm c' ctv) qual) (L : LamP N sc scope []) (hx : Passes (L2.CX Z.prog Z.w) Z E) (hr : Room (k + 1) Z.A)
    (hbind : bindArgs (PySem.W.kla_fn "<lambda>" qual params body scope (cloFrom cells scope.names []) pm (.ref c') ctv) ⟨[], []⟩ = pure [])
    (hbody : ∀ (s : Shared) (H : Hp), Room k (Z.A.deeper (lamE qual cells scope s.heap.objs.size f c')) → PE (lamC Z.prog Z.w Z.K Z.mg Z.base (N ++ []) qual cells Z.A Z.stack s H E scope f c') body tb)
    (hN : Z.N[i]? = some a) (hv : Vis Z.env.scope a) (hd : (a == ("__debug__" : Str)) = false := by decide) (hcd : (a == ("__classdict__" : Str)) = false := by decide) :
    PE Z (.Call (.Name a p1) [] [] p2) (fun σZ HZ Q => σZ[i]? = some (some (.ref f)) ∧ G HZ ∧ tb σ HZ Q) := by
  refine ⟨fun pinsZ sZ σZ HZ Q IZ h => ?_⟩
  obtain ⟨hs, hg, ht⟩ := h
  refine wpAny_Call_Name_kw (thn ((pe_var (pos := p1) (i := i) hN hv hd hcd).run pinsZ sZ σZ HZ (fun v H1 => v = .ref f ∧ H1 = HZ) IZ ⟨.ref f, hs, rfl, rfl⟩) fun u s1 ⟨v, H1, I1, r1, ev, eH⟩ => ?_)
  subst ev
  rw [eH] at I1
  obtain rfl : u = Value.ref f := r1
  obtain ⟨e1, e2, e3⟩ := kn _ _ _ _ I1 hg
  refine PySem.W.callWith_F0 ⟨_, _, _, _, e1⟩ ?_
  have run := lamC_run (E := E) (Q := Q) (vs := []) (us := []) (ps := []) I1.env0 hr e2 L e1 e3 hbind .nil rfl (fun hr2 => hbody s1 HZ hr2) (by simpa using ht)
  refine wpAny_call (codeAny_mono run fun r s' hq => ?_)
  cases r with
  | error e => exact hx pinsZ σZ HZ s1 e s' I1 hq
  | ok fl =>
    cases fl with
    | ret u => exact I1.after hq
    | next => exact False.elim hq
    | brk => exact False.elim hq
    | cont => exact False.elim hq
end
end LamX

/-! lambdas kept in a list -/
namespace LamX
open PySem PySem.Spec PyProof.Rows L2
def anyO : HO := .ext fun _ => True
/-- a lambda of X's def stands at f -/
def LamAt (X : Cx) (params : Arguments) (body : Expr) (scope : Scope) (H : Hp) (f : Addr) : Prop := ∃ (pm ctv : Value) (c' : Addr),
  H f = some (.frz (PySem.W.kla_obj "<lambda>" (X.env.qual ++ "<lambda>") params body scope (cloFrom X.env.cells scope.names []) pm c' ctv) anyO) ∧ H c' = some (CodeO c' (X.env.qual ++ "<lambda>"))
/-- .. whose body reads so -/
def LamT (X : Cx) (k : Nat) (t : XK → TE) (H : Hp) (f : Addr) : Prop := ∃ (params : Arguments) (body : Expr) (scope : Scope), LamAt X params body scope H f ∧ LamP X.N X.env.scope scope [] ∧
  (∀ (q : Str) (cl : List (Str × Addr)) (pm cv ctv : Value), bindArgs (PySem.W.kla_fn "<lambda>" q params body scope cl pm cv ctv) ⟨[], []⟩ = pure []) ∧
  ∀ (f c' : Addr) (A : Around) (outer : List Env) (s : Shared) (H : Hp) (E : XK), Room k (A.deeper (lamE (X.env.qual ++ "<lambda>") X.env.cells scope s.heap.objs.size f c')) → PE (lamC X.prog X.w X.K X.mg X.base (X.N ++ []) (X.env.qual ++ "<lambda>") X.env.cells A outer s H E scope f c') body (t E)
theorem LamAt.mk {X : Cx} {params : Arguments} {body : Expr} {scope : Scope} {H : Hp} {f : Addr} {k : Nat} {t : XK → TE} (h : LamAt X params body scope H f) (L : lamPB X.N X.env.scope scope [] = true)
    (hbody : ∀ (f c' : Addr) (A : Around) (outer : List Env) (s : Shared) (H : Hp) (E : XK), Room k (A.deeper (lamE (X.env.qual ++ "<lambda>") X.env.cells scope s.heap.objs.size f c')) → PE (lamC X.prog X.w X.K X.mg X.base (X.N ++ []) (X.env.qual ++ "<lambda>") X.env.cells A outer s H E scope f c') body (t E))
    (hbind : ∀ (q : Str) (cl : List (Str × Addr)) (pm cv ctv : Value), bindArgs (PySem.W.kla_fn "<lambda>" q params body scope cl pm cv ctv) ⟨[], []⟩ = pure [] := by intros; rfl) : LamT X k t H f := ⟨params, body, scope, h, lamP_by L, hbind, hbody⟩
section
variable {X : Cx} {params : Arguments} {body : Expr} {scope : Scope} {H H' : Hp} {f : Addr} {k : Nat} {t : XK → TE}
theorem LamAt.extN (h : LamAt X params body scope H f) (e : ExtN H H') : LamAt X params body scope H' f := by
  obtain ⟨pm, ctv, c', h1, h2⟩ := h
  exact ⟨pm, ctv, c', e _ _ h1 (fun _ z => nomatch z), e _ _ h2 codeO_ne⟩
theorem LamAt.ext (h : LamAt X params body scope H f) (e : ∀ b o, H b = some o → H' b = some o) : LamAt X params body scope H' f := h.extN (ExtN.of e)
theorem LamT.extN (h : LamT X k t H f) (e : ExtN H H') : LamT X k t H' f := by
  obtain ⟨p, b, sc, h1, h2, h3, h4⟩ := h
  exact ⟨p, b, sc, h1.extN e, h2, h3, h4⟩
theorem LamT.ext (h : LamT X k t H f) (e : ∀ b o, H b = some o → H' b = some o) : LamT X k t H' f := h.extN (ExtN.of e)
end
def tLamF (X : Cx) (T : List (Addr × Str)) (params : Arguments) (body : Expr) (scope : Scope) : TE := fun _ H Q => Tabs T H ∧ ∀ H1 f, ExtN H H1 → Tabs T H1 → H f = none → LamAt X params body scope H1 f → Q (.ref f) H1
theorem any_ok {P : Program} {w : World} {H : Hp} {h : Heap} {a : Addr} {o : Obj} (e : h.get? a = some o) : ObjOk P w H h a (.frz o anyO) := ⟨e, True.intro, ⟨o, e⟩, fun _ _ _ _ => True.intro⟩
/-- lambda: body, as a value -/
theorem pe_lamF {X : Cx} {T : List (Addr × Str)} {c P : Addr} {params : Arguments} {body : Expr} {scope : Scope} {pos : Pos} (hmT : (P, X.env.qual ++ "<lambda>") ∈ T) (hu : ∀ p ∈ T, p.1 = P → p.2 = X.env.qual ++ "<lambda>") (TB : TabB X.base X.mg c P) (hcode : X.env.code = .ref c)
    (L : lamPB X.N X.env.scope scope [] = true) (hdef : defaultsOf params X.env = ([], []) := by rfl) : PE X (.Lambda params body scope pos) (tLamF X T params body scope) := by
  refine ⟨fun pins s σ H Q I h => ?_⟩
  obtain ⟨hT, hq⟩ := h
  have LP := lamP_by L
  have caps : ∀ y ∈ scope.names, y.2 = .free → ∃ c, X.env.cells.lookup y.1 = some c := fun y hy e => (LP.free y hy e).elim (fun k => I.ok.has _ (.inl k)) (fun k => I.ok.has _ (.inr k))
  obtain ⟨ps, hP, ht, ha⟩ := hT _ hmT
  have bP : s.heap.BuiltinsAt X.mg P := TB.bm.keeps I.bk
  have hP' : s.heap.get? P = some { cls := .none, data := .fields ps } := I.hok P _ hP
  refine PySem.W.kla_eval hdef ?_
  cases hc : codeAmong pos ps.toList with
  | some cv =>
    obtain ⟨c', e, hco⟩ := ha pos cv hc
    subst e
    refine PySem.W.kla_makeFunctionHit (mg := X.mg) (c := c) (P := P) (ps := ps) (closure_ok caps) I.ok.glob (I.mod.glob.keeps I.bk) hcode (TB.code.keeps I.bk) hP' ht hc bP fun ctv h' tk hx hsz => ?_
    have I1 : Inv X pins σ H { s with heap := h', toks := tk } := I.kept hx
    have I2 := I1.laid (t' := tk) (o := .frz (PySem.W.kla_obj "<lambda>" (X.env.qual ++ "<lambda>") params body scope (cloFrom X.env.cells scope.names []) ((X.mg "__name__").getD .none) c' ctv) anyO) (h' := h'.push (PySem.W.kla_obj "<lambda>" (X.env.qual ++ "<lambda>") params body scope (cloFrom X.env.cells scope.names []) ((X.mg "__name__").getD .none) c' ctv)) (fun b u e => Heap.get?_push_of_some _ e) (Nat.le_refl _) (any_ok (Heap.get?_push_size _ rfl))
    have nf : H h'.objs.size = none := I1.hok.fresh (Nat.le_refl _)
    have up : ∀ b o, H b = some o → L2.upd H h'.objs.size (.frz (PySem.W.kla_obj "<lambda>" (X.env.qual ++ "<lambda>") params body scope (cloFrom X.env.cells scope.names []) ((X.mg "__name__").getD .none) c' ctv) anyO) b = some o := fun b o e => by
      rw [upd_ne (ne_of_none e nf)]
      exact e
    exact ⟨.ref h'.objs.size, _, I2, rfl, hq _ _ (ExtN.of up) (hT.ext up) nf ⟨_, _, c', upd_same, up _ _ hco⟩⟩
  | none =>
    refine PySem.W.kla_makeFunction (mg := X.mg) (c := c) (P := P) (ps := ps) (closure_ok caps) I.ok.glob (I.mod.glob.keeps I.bk) hcode (TB.code.keeps I.bk) hP' ht hc TB.gP bP fun c' ctv h' tk hx hge hlt hrec htb => ?_
    obtain ⟨c2, oc, vs, t, e2, hoc, hd, hv⟩ := hrec
    cases e2
    have nC : H c' = none := I.hok.fresh hge
    have I1 := inv_table (t' := tk) (more := #[rawInt pos.line, rawInt pos.col, .ref c']) (h' := h') I hP (fun b o hb e => hx b o hb e) htb hge ⟨oc, vs, t, hoc, hd, hv⟩
    have eN : ExtN H (upd (upd H P (.tbl (ps ++ #[rawInt pos.line, rawInt pos.col, .ref c']))) c' (CodeO c' (X.env.qual ++ "<lambda>"))) := fun b o e n => by
      rw [upd_ne (ne_of_none e nC), upd_ne (fun z => n ps (Option.some.inj (e.symm.trans (by rw [z]; exact hP))))]
      exact e
    have T1 : Tabs T (upd (upd H P (.tbl (ps ++ #[rawInt pos.line, rawInt pos.col, .ref c']))) c' (CodeO c' (X.env.qual ++ "<lambda>"))) := fun p hp => by
      by_cases hb : p.1 = P
      · rw [hu p hp hb, hb]
        have eL : (ps ++ #[rawInt pos.line, rawInt pos.col, .ref c']).toList = ps.toList ++ [rawInt pos.line, rawInt pos.col, .ref c'] := by simp
        refine ⟨_, by rw [upd_ne (ne_of_none hP nC), upd_same], by rw [eL]; exact PySem.TriplesOk_snoc _ _ _ _ ht, fun p' cv hcv => ?_⟩
        rw [eL] at hcv
        rcases among_app _ ht hcv with z | z
        · obtain ⟨c0, e1, e2⟩ := ha p' cv z
          exact ⟨c0, e1, eN _ _ e2 codeO_ne⟩
        · exact ⟨c', z, upd_same⟩
      · obtain ⟨ps', a1, a2, a3⟩ := hT p hp
        refine ⟨ps', by rw [upd_ne (ne_of_none a1 nC), upd_ne hb]; exact a1, a2, fun p' cv hcv => ?_⟩
        obtain ⟨c0, e1, e2⟩ := a3 p' cv hcv
        exact ⟨c0, e1, eN _ _ e2 codeO_ne⟩
    generalize hH1 : upd (upd H P (.tbl (ps ++ #[rawInt pos.line, rawInt pos.col, .ref c']))) c' (CodeO c' (X.env.qual ++ "<lambda>")) = H1 at I1 eN T1
    have hco : H1 c' = some (CodeO c' (X.env.qual ++ "<lambda>")) := by rw [← hH1, upd_same]
    have I2 := I1.laid (t' := tk) (o := .frz (PySem.W.kla_obj "<lambda>" (X.env.qual ++ "<lambda>") params body scope (cloFrom X.env.cells scope.names []) ((X.mg "__name__").getD .none) c' ctv) anyO) (h' := h'.push (PySem.W.kla_obj "<lambda>" (X.env.qual ++ "<lambda>") params body scope (cloFrom X.env.cells scope.names []) ((X.mg "__name__").getD .none) c' ctv)) (fun b u e => Heap.get?_push_of_some _ e) (Nat.le_refl _) (any_ok (Heap.get?_push_size _ rfl))
    have nf : H1 h'.objs.size = none := I1.hok.fresh (Nat.le_refl _)
    have nf0 : H h'.objs.size = none := I.hok.fresh (Nat.le_trans hge (Nat.le_of_lt hlt))
    have up : ∀ b o, H1 b = some o → L2.upd H1 h'.objs.size (.frz (PySem.W.kla_obj "<lambda>" (X.env.qual ++ "<lambda>") params body scope (cloFrom X.env.cells scope.names []) ((X.mg "__name__").getD .none) c' ctv) anyO) b = some o := fun b o e => by
      rw [upd_ne (ne_of_none e nf)]
      exact e
    exact ⟨.ref h'.objs.size, _, I2, rfl, hq _ _ (eN.trans (ExtN.of up)) (T1.ext up) nf0 ⟨_, _, c', upd_same, up _ _ hco⟩⟩
/-! ### called by a def that was handed it -/
theorem known_tr {CXg : CXT} {P : Program} {w : World} {K : PySem.W.Frag} {mg : Str → Option Value} {base : Heap} {Ng : List Str} {qg : Str} {sg : Scope} {g f c' : Addr} {cdg : Value} {A : Around} {outer : List Env} {s : Shared} {H : Hp} {Eg : XK} {pn : List (Addr × Obj)} {xe : Value → Shared → Prop} {N : List Str} {sc : Scope} {cells : List (Str × Addr)} {σ : L2.St} {o : Obj} {q : Str}
    (hf : H f = some (.frz o anyO)) (C : CloS N sc cells σ H s.heap) : Known ((cxOf CXg P w K mg base Ng qg sg g cdg A outer s H Eg).tr pn xe) N sc cells σ (fun HZ => HZ c' = some (CodeO c' q)) f c' o q := by
  intro pins s2 σ2 H2 I2 hc
  have e := I2.base.frzs f o anyO hf
  exact ⟨(I2.hok f _ e).1, C.un I2.base (fun y c e => by show c ∉ ([] : List Addr); simp), hc⟩
section
variable {X : Cx} {x a an : Str} {g : Addr} {k i : Nat} {pg : Arguments} {bg : List Stmt} {sg : Scope} {dV kV doc pm cdv ct oc : Value} {ann od : Option Addr} {osl : Array (Option Value)} {Ng : List Str} {TT : (XK → Hp → VK → Prop) → Hp → VK → Prop} {p pa pos : Pos}
def tAskL (X : Cx) (k i : Nat) (TT : (XK → Hp → VK → Prop) → Hp → VK → Prop) (σ : L2.St) : TE := fun σ2 H Q => ∃ f t, σ2[i]? = some (some (.ref f)) ∧ LamT X k t H f ∧ TT (fun E H' Q' => t E σ H' Q') H Q
/-- x(a) in a context Z where the cells are known -/
theorem pe_askZ {Z : Cx} {σ : L2.St} (eP : Z.prog = X.prog) (ew : Z.w = X.w) (eK : Z.K = X.K) (em : Z.mg = X.mg) (eb : Z.base = X.base) (clo : ∀ (pins : List (Addr × Obj)) (s : Shared) (σZ : L2.St) (H : Hp), Inv Z pins σZ H s → CloS X.N X.env.scope X.env.cells σ H s.heap)
    (hg : Gl Z x) (hm : Z.mg x = some (.ref g)) (hk : PySem.W.keepIn Z.K (.ref g) = true) (lk : Z.K.lookup g = some ⟨oc, od, .func (PySem.W.fnOf x x pg bg sg dV kV doc pm ann cdv ct), osl⟩) (hcg : PySem.W.codeIn Z.K cdv x = true)
    (hb : L2.Binds Z.K (PySem.W.fnOf x x pg bg sg dV kV doc pm ann cdv ct) [a] []) (Sg : FnScope Ng [a] sg) (hNg : Ng[0]? = some a) (hva : Vis sg a) (hG : GivesTo Z Ng x sg g cdv bg a (X.env.qual ++ "<lambda>") TT) (hr : Room (k + 2) Z.A)
    (hN : Z.N[i]? = some an) (hv : Vis Z.env.scope an) (hst : starEach [.Name an pa] Z.env = (false, eval (.Name an pa) Z.env) :: starEach [] Z.env := by rfl) (hdb : (x == ("__debug__" : Str)) = false := by decide) (hd : (a == ("__debug__" : Str)) = false := by decide) (hcd : (a == ("__classdict__" : Str)) = false := by decide)
    (hd2 : (an == ("__debug__" : Str)) = false := by decide) (hcd2 : (an == ("__classdict__" : Str)) = false := by decide) : PE Z (.Call (.Name x p) [.Name an pa] [] pos) (tAskL X k i TT σ) := by
  refine ⟨fun pins s σZ H Q I h => ?_⟩
  obtain ⟨f, t, hs, ⟨params, body, scope, ⟨pm', ctv, c', hf, hco⟩, LP, hbind, hbody⟩, ht⟩ := h
  have pav : PA Z [.Name an pa] (tCons (tVar i) tNil) := pa_cons (pe_var hN hv hd2 hcd2) pa_nil hst
  refine wpAny_Call_Name_kw (ld_glob I hg hm ?_ hdb)
  refine PySem.W.callWith_K (h₀ := Z.base) I.ok.mod.kin hk (thn (pav.run pos pins s σZ H (fun vs H' => vs = [.ref f] ∧ H' = H) I ⟨_, hs, rfl, rfl⟩) fun us s1 ⟨vs, H1, I1, r1, ev, eH⟩ => ⟨I1.kIn, ?_⟩) hst rfl
  subst ev
  rw [eH] at I1
  obtain rfl : us = [Value.ref f] := by
    cases r1 with
    | cons r rest =>
      cases rest
      cases r
      rfl
  have C := clo _ _ _ _ I1
  have rc : codeAny (model Z.prog Z.w) Z.A (.call (.ref g) ⟨[.ref f], []⟩) (CR C8.CX0 Z.stack Z.prog Z.w H s1 Q C8.E0) s1 := by
    refine run_ofS (N := Ng) (ps := [a]) (us := [.ref f]) (vs := [.ref f]) lk hcg Sg hr I1.env0 (hb s1 [.ref f] I1.kIn rfl) (.cons rfl .nil) rfl fun hr' => ?_
    obtain ⟨t', ht', hq'⟩ := hG f c' s1 H Q (fun E H' Q' => t E σ H' Q') (fun W pn xe E p1 p2 tk hW => by
      have hbody' : ∀ (s2 : Shared) (H2 : Hp), Room k ((Z.A.deeper (envOfC x sg s1.heap.objs.size g cdv)).deeper (lamE (X.env.qual ++ "<lambda>") X.env.cells scope s2.heap.objs.size f c')) → PE (lamC Z.prog Z.w Z.K Z.mg Z.base (X.N ++ []) (X.env.qual ++ "<lambda>") X.env.cells (Z.A.deeper (envOfC x sg s1.heap.objs.size g cdv)) (envOfC x sg s1.heap.objs.size g cdv :: Z.stack) s2 H2 E scope f c') body (t E) := fun s2 H2 hr2 => by
        rw [eP, ew, eK, em, eb]
        exact hbody f c' _ _ s2 H2 E hr2
      exact pe_lam0 (i := 0) (tb := t E) (known_tr hf C) LP (passes_call tk hW) hr' (hbind _ _ _ _ _) hbody' hNg hva hd hcd) hco ht
    exact ⟨t', ht'.nox, hq'⟩
  refine wpAny_call (codeAny_mono rc fun r s2 hq => ?_)
  cases r with
  | error e => exact (show False from hq).elim
  | ok fl =>
    cases fl with
    | ret u => exact I1.after hq
    | next => exact False.elim hq
    | brk => exact False.elim hq
    | cont => exact False.elim hq
theorem clo_blk {pins : List (Addr × Obj)} {σ : L2.St} {sb : Shared} {Hb : Hp} {fp : List Addr} {bscope : Scope} {cenv : Env} (B : Beg X pins σ sb Hb fp) : ∀ (pins : List (Addr × Obj)) (s : Shared) (σZ : L2.St) (H : Hp), Inv (X.blk sb Hb bscope cenv fp) pins σZ H s → CloS X.N X.env.scope X.env.cells σ H s.heap := fun _ s _ H I =>
  (CloS.of B.inv).un I.base fun y c e z => (B.fp c z).2.2.2.2.1 y c e rfl
end
end LamX

namespace My
open PySem PySem.Spec PyProof.Rows L2
/-! ### [x for x in xs if ..] -/
def selI {α : Type} (p : Nat → Bool) (xs : List α) : List α := (xs.zipIdx.filter fun q => p q.2).map (·.1)
theorem selI_take {α : Type} {p : Nat → Bool} {xs : List α} {i : Nat} {x : α} (h : xs[i]? = some x) : selI p (xs.take (i + 1)) = selI p (xs.take i) ++ if p i = true then [x] else [] := by
  have hi : i < xs.length := (List.getElem?_eq_some_iff.mp h).1
  unfold selI
  rw [List.take_add_one, h, Option.toList_some, List.zipIdx_append, List.filter_append, List.map_append]
  congr 1
  have e : 0 + (xs.take i).length = i := by rw [List.length_take, Nat.zero_add]; omega
  rw [e]
  by_cases c : p i = true
  · simp [c]
  · simp [c]
theorem selI_len {α : Type} (p : Nat → Bool) (xs : List α) : (selI p xs).length ≤ xs.length := by
  unfold selI
  rw [List.length_map]
  have := List.length_filter_le (fun q : α × Nat => p q.2) xs.zipIdx
  rwa [List.length_zipIdx] at this
theorem selI_eq {α : Type} {p : Nat → Bool} {pd : α → Bool} {ds : List α} (h : ∀ i d, ds[i]? = some d → p i = pd d) : selI p ds = ds.filter pd := by
  have go : ∀ n, n ≤ ds.length → selI p (ds.take n) = (ds.take n).filter pd := by
    intro n
    induction n with
    | zero => intro _; rfl
    | succ n ih =>
      intro hn
      obtain ⟨x, hx⟩ : ∃ x, ds[n]? = some x := ⟨_, List.getElem?_eq_getElem hn⟩
      rw [selI_take hx, ih (by omega), List.take_add_one, hx, List.filter_append, h n x hx]
      congr 1
      show _ = [x].filter pd
      rw [List.filter_cons]
      rfl
  have e := go ds.length (Nat.le_refl _)
  rwa [List.take_length] at e
theorem selI_empty {α β : Type} {p : Nat → Bool} {pd : β → Bool} {xs : List α} {ds : List β} (hl : xs.length = ds.length) (h : ∀ i d, ds[i]? = some d → p i = pd d) : (selI p xs).isEmpty = !(ds.any pd) := by
  have e1 : (selI p xs).length = (selI p ds).length := by
    unfold selI
    rw [List.length_map, List.length_map]
    have : ∀ {γ : Type} (l : List γ) (n : Nat), (l.zipIdx n).map (·.2) = List.range' n l.length := fun l n => by rw [List.zipIdx_map_snd]
    have f : ∀ {γ : Type} (l : List γ), (l.zipIdx.filter fun q => p q.2).length = ((List.range' 0 l.length).filter p).length := fun l => by
      rw [← this l 0, List.filter_map, List.length_map]
      rfl
    rw [f, f, hl]
  rw [selI_eq h] at e1
  cases c : ds.any pd with
  | true =>
    obtain ⟨d, hd, hp⟩ := List.any_eq_true.mp c
    have : 0 < (ds.filter pd).length := List.length_pos_of_mem (List.mem_filter.mpr ⟨hd, hp⟩)
    cases z : selI p xs with
    | nil => rw [z] at e1; rw [← e1] at this; exact absurd this (Nat.lt_irrefl 0)
    | cons _ _ => rfl
  | false =>
    have : ds.filter pd = [] := List.filter_eq_nil_iff.mpr fun d hd => by
      have := List.any_eq_false.mp c d hd
      simpa using this
    rw [this] at e1
    rw [List.eq_nil_of_length_eq_zero e1]
    rfl
def pI {α : Type} (ds : List α) (pd : α → Bool) : Nat → Bool := fun i => match ds[i]? with | some d => pd d | none => false
theorem pI_at {α : Type} {ds : List α} {pd : α → Bool} {i : Nat} {d : α} (h : ds[i]? = some d) : pI ds pd i = pd d := by
  unfold pI
  rw [h]
theorem lc_filt {K : PySem.W.Frag} {a : Addr} {xs : List V} {k : Nat} {tt : TT} {σ : L2.St} {H1 : Hp} {D : Addr} {Qd : Hp → Prop} (p : Nat → Bool) (hk : k < σ.length) (hD : H1 D = none) (sq : SqL K H1 a xs) (sz : xs.length < sizeLine)
    (hs : ∀ i x H, xs[i]? = some x → Ext H1 H → ∀ R : Bool → Hp → Prop, (∀ H', Ext H H' → R (p i) H') → tt (σ.set k (some x)) H R) (hd : ∀ H, Ext H1 H → H D = some (.lst (selI p xs)) → Qd H) :
    ∃ W : Nat → Nat → Hp → Prop, (∃ m, W 0 m (L2.upd H1 D (.lst []))) ∧ ∀ i m H, W i m H →
      ((Itl K a).stop i H ∧ Qd H) ∨ ((Itl K a).go i H ∧ ∃ Nx : Hp → Prop, (∀ H', Nx H' → ∃ m', m' < m ∧ W (i + 1) m' H') ∧ ∀ x H', (Itl K a).yld i H x H' → gName k x (wipe σ [k]) H' fun σ2 H2 => wipe σ2 [k] = wipe σ [k] ∧ tt σ2 H2 fun b H3 =>
        if b = true then tVar k σ2 H3 fun y H4 => ∃ acc, H4 D = some (.lst acc) ∧ acc.length < sizeLine ∧ Nx (L2.upd H4 D (.lst (acc ++ [y]))) else Nx H3) := by
  refine lc_list (K := K) (a := a) (xs := xs) (fun i H' => Ext H1 H' ∧ H' D = some (.lst (selI p (xs.take i)))) ⟨Ext.upd hD, upd_same⟩ (fun i H' _ z => sq.ext z.1) ?_ ?_
  · rintro i x H hx ⟨x1, d1⟩
    have es : (wipe σ [k]).set k (some x) = σ.set k (some x) := by
      show (σ.set k none).set k (some x) = _
      rw [List.set_set]
    show wipe ((wipe σ [k]).set k (some x)) [k] = wipe σ [k] ∧ tt ((wipe σ [k]).set k (some x)) H _
    rw [es]
    refine ⟨?_, hs i x H hx x1 _ fun H' x2 => ?_⟩
    · show (σ.set k (some x)).set k none = σ.set k none
      rw [List.set_set]
    · have d2 := x2 _ _ d1
      have st := selI_take (p := p) hx
      have hi := (List.getElem?_eq_some_iff.mp hx).1
      have ll := selI_len p (xs.take i)
      rw [List.length_take] at ll
      refine ite2 (fun c => ?_) fun c => ?_
      · rw [if_pos c] at st
        refine ⟨x, by rw [List.getElem?_set_self hk], _, d2, by omega, (x1.trans x2).over hD, ?_⟩
        rw [upd_same, st]
      · rw [if_neg c, List.append_nil] at st
        exact ⟨x1.trans x2, by rw [st]; exact d2⟩
  · rintro H ⟨x1, d1⟩
    rw [List.take_length] at d1
    exact hd H x1 d1
theorem lc_filtT {K : PySem.W.Frag} {a : Addr} {xs : List V} {k : Nat} {tt : TT} {σ : L2.St} {H1 : Hp} {D : Addr} {Qd : Hp → Prop} (p : Nat → Bool) (hk : k < σ.length) (hD : H1 D = none) (sq : SqT K H1 a xs) (sz : xs.length < sizeLine)
    (hs : ∀ i x H, xs[i]? = some x → Ext H1 H → ∀ R : Bool → Hp → Prop, (∀ H', Ext H H' → R (p i) H') → tt (σ.set k (some x)) H R) (hd : ∀ H, Ext H1 H → H D = some (.lst (selI p xs)) → Qd H) :
    ∃ W : Nat → Nat → Hp → Prop, (∃ m, W 0 m (L2.upd H1 D (.lst []))) ∧ ∀ i m H, W i m H →
      ((Itt K a).stop i H ∧ Qd H) ∨ ((Itt K a).go i H ∧ ∃ Nx : Hp → Prop, (∀ H', Nx H' → ∃ m', m' < m ∧ W (i + 1) m' H') ∧ ∀ x H', (Itt K a).yld i H x H' → gName k x (wipe σ [k]) H' fun σ2 H2 => wipe σ2 [k] = wipe σ [k] ∧ tt σ2 H2 fun b H3 =>
        if b = true then tVar k σ2 H3 fun y H4 => ∃ acc, H4 D = some (.lst acc) ∧ acc.length < sizeLine ∧ Nx (L2.upd H4 D (.lst (acc ++ [y]))) else Nx H3) := by
  refine lc_tup (K := K) (a := a) (xs := xs) (fun i H' => Ext H1 H' ∧ H' D = some (.lst (selI p (xs.take i)))) ⟨Ext.upd hD, upd_same⟩ (fun i H' _ z => sq.ext z.1) ?_ ?_
  · rintro i x H hx ⟨x1, d1⟩
    have es : (wipe σ [k]).set k (some x) = σ.set k (some x) := by
      show (σ.set k none).set k (some x) = _
      rw [List.set_set]
    show wipe ((wipe σ [k]).set k (some x)) [k] = wipe σ [k] ∧ tt ((wipe σ [k]).set k (some x)) H _
    rw [es]
    refine ⟨?_, hs i x H hx x1 _ fun H' x2 => ?_⟩
    · show (σ.set k (some x)).set k none = σ.set k none
      rw [List.set_set]
    · have d2 := x2 _ _ d1
      have st := selI_take (p := p) hx
      have hi := (List.getElem?_eq_some_iff.mp hx).1
      have ll := selI_len p (xs.take i)
      rw [List.length_take] at ll
      refine ite2 (fun c => ?_) fun c => ?_
      · rw [if_pos c] at st
        refine ⟨x, by rw [List.getElem?_set_self hk], _, d2, by omega, (x1.trans x2).over hD, ?_⟩
        rw [upd_same, st]
      · rw [if_neg c, List.append_nil] at st
        exact ⟨x1.trans x2, by rw [st]; exact d2⟩
  · rintro H ⟨x1, d1⟩
    rw [List.take_length] at d1
    exact hd H x1 d1
end My

namespace My
open PySem PySem.Spec PyProof.Rows L2 LamX
noncomputable def folB (fo th : List Str) (rows more : List (List Str)) : Bool := more.all fun r => !notB fo th rows r
def spAlike (K : PySem.W.Frag) (CF C CUn : Addr) : Sp := fun vs H Q E => ∃ a m fo th fo2 th2 rows more, vs = [.ref a, .ref m] ∧ FacAt H K CF C a fo th rows ∧ AskOk fo th rows 300 ∧ FacAt H K CF C m fo2 th2 more ∧
  ((¬ (fo = fo2 ∧ th = th2) ∧ ∀ H', Ext H H' → E (.ref CUn) none H') ∨ (fo2 = fo ∧ th2 = th ∧ AskOk fo th more 300 ∧ ∀ H', Ext H H' → Q (.bl (folB fo th rows more && folB fo th more rows)) H'))
def spStrange (K : PySem.W.Frag) (C : Addr) : Sp := fun vs H Q _ => ∃ (p t lf lt : Addr) (fo th : List Str) (n : Int), vs = [.ref p, .ref t] ∧ SqT K H t [.ref lf, .ref lt] ∧ H lf = some (.lst (fo.map V.str)) ∧ H lt = some (.lst (th.map V.str)) ∧ lf ≠ p ∧ lt ≠ p ∧ Nst (fo ++ th) ∧ 1 ≤ fo.length ∧ (fo ++ th).length ≤ 8 ∧ Pool H p n ∧ n < 900000 ∧
  ∀ h fo2 th2 H', But H H' p → Pool H' p (n + 1) → Hou H' K C h fo2 th2 → Nok (fo2 ++ th2) → fo2 ≠ [] → (fo2 ++ th2).length ≤ 20 → ¬ (fo = fo2 ∧ th = th2) → Q (.ref h) H'
theorem add_once {ns : List Str} {rs ss : List (List Str)} : addR ns (onceR (rs.map (toldR ns))) ss = onceR ((rs ++ ss).map (toldR ns)) := by
  unfold addR
  rw [once_left, List.map_append]
theorem rows_left {K : PySem.W.Frag} {H : Hp} : ∀ {xs ys : List V} {ss : List (List Str)}, Rows K H (xs ++ ys) ss → ∃ s1 s2, ss = s1 ++ s2 ∧ Rows K H xs s1
  | [], _, ss, _ => ⟨[], ss, rfl, True.intro⟩
  | x :: xs, ys, [], h => h.elim
  | x :: xs, ys, s :: ss, ⟨h1, h2⟩ => by
    obtain ⟨s1, s2, e, h3⟩ := rows_left h2
    exact ⟨s :: s1, s2, by rw [e]; rfl, h1, h3⟩
def spOthers (K : PySem.W.Frag) : Sp := fun vs H Q _ => ∃ (p t l lf lt : Addr) (fo th : List Str) (xs : List V) (rs : List (List Str)) (n : Int), vs = [.ref p, .ref t, .ref l] ∧ SqT K H t [.ref lf, .ref lt] ∧ H lf = some (.lst (fo.map V.str)) ∧ H lt = some (.lst (th.map V.str)) ∧ lf ≠ p ∧ lt ≠ p ∧ (fo ++ th).Nodup ∧ OkS (fo ++ th) ∧ 1 ≤ fo.length ∧ fo.length ≤ 8 ∧ th.length ≤ 8 ∧ H l = some (.lst xs) ∧ l ≠ p ∧ Rows K H xs rs ∧ FactR fo th rs ∧ rs.length ≤ 10 ∧ Pool H p n ∧ n < 600000 ∧
  ∀ l' rs' H', But H H' p → Pool H' p (n + 400) → l' ≠ p → RowsAt K H' l' rs' → TR fo th rs' → rs'.Nodup → rs'.length ≤ 20 → Q (.ref l') H'
def firI (p : List Str → Bool) (more : List (List Str)) : V := match more.findIdx? p with | some i => .int (i : Nat) | none => .non
theorem fir_at {p : List Str → Bool} {more : List (List Str)} {i : Nat} {r : List Str} (h : more[i]? = some r) (hp : p r = true) (hn : ∀ j r, j < i → more[j]? = some r → p r = false) : firI p more = .int (i : Nat) := by
  have e : more.findIdx? p = some i := by
    rw [List.findIdx?_eq_some_iff_getElem]
    have hi := (List.getElem?_eq_some_iff.mp h).1
    have he := (List.getElem?_eq_some_iff.mp h).2
    refine ⟨hi, by rw [he]; exact hp, fun j hj => ?_⟩
    have := hn j more[j] hj (List.getElem?_eq_getElem (by omega))
    rw [this]
    exact Bool.false_ne_true
  unfold firI
  rw [e]
theorem fir_no {p : List Str → Bool} {more : List (List Str)} (h : ∀ r, r ∈ more → p r = false) : firI p more = .non := by
  have e : more.findIdx? p = none := by
    rw [List.findIdx?_eq_none_iff]
    exact h
  unfold firI
  rw [e]
def spFirst (K : PySem.W.Frag) : Sp := fun vs H Q _ => ∃ (t l m : Addr) (fo th : List Str) (xs : List V) (ds : List Dic) (rs : List (List Str)), vs = [.ref t, .ref l, .ref m] ∧ H l = some (.lst xs) ∧ TrsAt H xs ds ∧ (∀ d, d ∈ ds → DicOk fo d) ∧ ds.length ≤ 1000000 ∧ RowsAt K H m rs ∧ FactR fo th rs ∧ rs.length ≤ 100 ∧
  ∀ H', Ext H H' → Q (firI (fun r => ds.any fun d => !holdsR d r) rs) H'
def spPartedR (K : PySem.W.Frag) (CT C : Addr) : Sp := fun vs H Q _ => ∃ (t l m : Addr) (fo th : List Str) (rs more : List (List Str)) (v : V), vs = [.ref t, .ref l, .ref m, v, firI (notB fo th rs) more] ∧ PairAt K H t fo th ∧ Nok (fo ++ th) ∧ fo ≠ [] ∧ (fo ++ th).length ≤ 8 ∧ RowsAt K H l rs ∧ TR fo th rs ∧ rs.Nodup ∧ rs.length ≤ 50 ∧ RowsAt K H m more ∧ FactR fo th more ∧ more.length ≤ 50 ∧ PartV H K CT C fo th rs more v ∧
  ∀ H', Ext H H' → Q (.bl true) H'
/-! ### slices of lists of names -/
theorem cut_s1 {zs : List Str} (h : 1 ≤ zs.length) : cutV (zs.map V.str) (some 1) none = (zs.drop 1).map V.str := by
  rw [show (some (1 : Int)) = some (((1 : Nat)) : Int) from rfl, cutV_drop (by rw [List.length_map]; exact h), List.map_drop]
theorem cut_t1 {zs : List Str} (h : 1 ≤ zs.length) : cutV (zs.map V.str) none (some 1) = (zs.take 1).map V.str := by
  rw [show (some (1 : Int)) = some (((1 : Nat)) : Int) from rfl, cutV_take (by rw [List.length_map]; exact h), List.map_take]
theorem six_m1 (n d : Nat) (h : 1 ≤ n) : HT.sIx n d (some (-1)) = n - 1 := by
  show (if (-1 : Int) < 0 then ((-1 : Int) + (n : Int)).toNat else min (-1 : Int).toNat n) = n - 1
  rw [if_pos (by decide)]
  omega
theorem cut_tm {zs : List Str} (h : 1 ≤ zs.length) : cutV (zs.map V.str) none (some (-1)) = (zs.take (zs.length - 1)).map V.str := by
  unfold cutV
  rw [six_m1 _ _ (by rw [List.length_map]; exact h), HT.sIx_none, List.drop_zero, Nat.sub_zero, List.length_map, List.map_take]
theorem cut_sm {zs : List Str} (h : 1 ≤ zs.length) : cutV (zs.map V.str) (some (-1)) none = (zs.drop (zs.length - 1)).map V.str := by
  unfold cutV
  rw [six_m1 _ _ (by rw [List.length_map]; exact h), HT.sIx_none, List.length_map, ← List.map_drop, ← List.map_take]
  rw [List.take_of_length_le (by rw [List.length_drop]; exact Nat.le_refl _)]
abbrev sgS : List Str := ["strange"]
theorem strange_ok {ns zs : List Str} (h : Nst ns) (nd : zs.Nodup) (sub : ∀ z, z ∈ zs → z ∈ ns ∨ z = "strange") : Nok zs := ⟨nd, fun z hz => by
  rcases sub z hz with k | rfl
  · exact h.ok.2 z k
  · exact ⟨by decide +kernel, by decide +kernel, by rw [sizeLine_eq]; decide +kernel⟩⟩
theorem strange_no {ns : List Str} (h : Nst ns) : ("strange" : Str) ∉ ns := fun m => by
  have : ("strange" : Str) ∈ stems := h.2 _ m
  revert this
  decide +kernel
/-- a house that is unlike -/
def StE (K : PySem.W.Frag) (C : Addr) (fo th : List Str) (H : Hp) (v : V) : Prop := ∃ h fo2 th2, v = .ref h ∧ Hou H K C h fo2 th2 ∧ Nok (fo2 ++ th2) ∧ fo2 ≠ [] ∧ (fo2 ++ th2).length ≤ 20 ∧ ¬ (fo = fo2 ∧ th = th2)
theorem StE.ext {K : PySem.W.Frag} {C : Addr} {fo th : List Str} {H H' : Hp} {v : V} (h : StE K C fo th H v) (e : Ext H H') : StE K C fo th H' v := by
  obtain ⟨a, b, c, h1, h2, h3⟩ := h
  exact ⟨a, b, c, h1, h2.ext e, h3⟩
theorem StE.upd {K : PySem.W.Frag} {C g : Addr} {fo th : List Str} {H : Hp} {v : V} {ys zs : List V} (h : StE K C fo th H v) (hg : H g = some (.lst ys)) : StE K C fo th (L2.upd H g (.lst zs)) v := by
  obtain ⟨a, b, c, h1, h2, h3⟩ := h
  exact ⟨a, b, c, h1, hou_butL hg (But.upd (ext_but Ext.rfl')) h2, h3⟩
theorem all_cases {fo th : List Str} (nst : Nst (fo ++ th)) (f1 : 1 ≤ fo.length) (l8 : (fo ++ th).length ≤ 8) :
    (∀ z, z ∈ [(fo.drop 1 ++ sgS, th), (fo.take (fo.length - 1) ++ sgS, th)] → Nok (z.1 ++ z.2) ∧ z.1 ≠ [] ∧ (z.1 ++ z.2).length ≤ 20 ∧ ¬ (fo = z.1 ∧ th = z.2)) ∧
    (th ≠ [] → ∀ z, z ∈ [(fo ++ th.take 1, th.drop 1), (fo, th.drop 1 ++ sgS)] → Nok (z.1 ++ z.2) ∧ z.1 ≠ [] ∧ (z.1 ++ z.2).length ≤ 20 ∧ ¬ (fo = z.1 ∧ th = z.2)) ∧
    (1 < fo.length → ∀ z, z ∈ [(fo.reverse, th), (fo.take (fo.length - 1), fo.drop (fo.length - 1) ++ th)] → Nok (z.1 ++ z.2) ∧ z.1 ≠ [] ∧ (z.1 ++ z.2).length ≤ 20 ∧ ¬ (fo = z.1 ∧ th = z.2)) := by
  have ns := strange_no nst
  have nd := nst.1
  have ndf := (List.nodup_append.mp nd).1
  have ndt := (List.nodup_append.mp nd).2.1
  have dis := (List.nodup_append.mp nd).2.2
  have sf : ("strange" : Str) ∉ fo := fun m => ns (List.mem_append_left _ m)
  have st : ("strange" : Str) ∉ th := fun m => ns (List.mem_append_right _ m)
  have fne : fo ≠ [] := fun e => by rw [e] at f1; exact absurd f1 (by decide)
  rw [List.length_append] at l8
  have with1 : ∀ g : List Str, g.Sublist fo → Nok ((g ++ sgS) ++ th) ∧ ¬ (fo = g ++ sgS ∧ th = th) := fun g sub => by
    refine ⟨strange_ok nst ?_ fun z hz => ?_, fun e => sf ?_⟩
    · refine List.nodup_append.mpr ⟨List.nodup_append.mpr ⟨sub.nodup ndf, (List.nodup_cons.mpr ⟨by simp, List.nodup_nil⟩), fun a ha b hb e => ?_⟩, ndt, fun a ha b hb e => ?_⟩
      · rw [List.mem_singleton.mp hb] at e
        exact sf (e ▸ sub.subset ha)
      · rcases List.mem_append.mp ha with h | h
        · exact dis a (sub.subset h) b hb e
        · rw [List.mem_singleton.mp h] at e
          exact st (e ▸ hb)
    · rcases List.mem_append.mp hz with h | h
      · rcases List.mem_append.mp h with h | h
        · exact .inl (List.mem_append_left _ (sub.subset h))
        · exact .inr (List.mem_singleton.mp h)
      · exact .inl (List.mem_append_right _ h)
    · rw [e.1]
      exact List.mem_append_right _ (List.mem_singleton.mpr rfl)
  refine ⟨fun z hz => ?_, fun tne z hz => ?_, fun f2 z hz => ?_⟩
  · rcases List.mem_cons.mp hz with rfl | hz
    · obtain ⟨h1, h2⟩ := with1 _ (List.drop_sublist 1 fo)
      refine ⟨h1, by simp, ?_, h2⟩
      simp only [List.length_append, List.length_drop, List.length_singleton]
      omega
    · rw [List.mem_singleton.mp hz]
      obtain ⟨h1, h2⟩ := with1 _ (List.take_sublist (fo.length - 1) fo)
      refine ⟨h1, by simp, ?_, h2⟩
      simp only [List.length_append, List.length_take, List.length_singleton]
      omega
  · have t1 : 1 ≤ th.length := by
      cases th with
      | nil => exact absurd rfl tne
      | cons _ _ => exact Nat.le_add_left _ _
    rcases List.mem_cons.mp hz with rfl | hz
    · have e : (fo ++ th.take 1) ++ th.drop 1 = fo ++ th := by rw [List.append_assoc, List.take_append_drop]
      refine ⟨by show Nok ((fo ++ th.take 1) ++ th.drop 1); rw [e]; exact nst.ok, by simp [fne], ?_, fun k => ?_⟩
      · show ((fo ++ th.take 1) ++ th.drop 1).length ≤ 20
        rw [e, List.length_append]
        omega
      · have := congrArg List.length k.2
        rw [List.length_drop] at this
        omega
    · rw [List.mem_singleton.mp hz]
      refine ⟨strange_ok nst ?_ fun z hz => ?_, fne, ?_, fun e => st ?_⟩
      · refine List.nodup_append.mpr ⟨ndf, List.nodup_append.mpr ⟨(List.drop_sublist 1 th).nodup ndt, (List.nodup_cons.mpr ⟨by simp, List.nodup_nil⟩), fun a ha b hb e => ?_⟩, fun a ha b hb e => ?_⟩
        · rw [List.mem_singleton.mp hb] at e
          exact st (e ▸ (List.drop_sublist 1 th).subset ha)
        · rcases List.mem_append.mp hb with h | h
          · exact dis a ha b ((List.drop_sublist 1 th).subset h) e
          · rw [List.mem_singleton.mp h] at e
            exact sf (e ▸ ha)
      · rcases List.mem_append.mp hz with h | h
        · exact .inl (List.mem_append_left _ h)
        · rcases List.mem_append.mp h with h | h
          · exact .inl (List.mem_append_right _ ((List.drop_sublist 1 th).subset h))
          · exact .inr (List.mem_singleton.mp h)
      · simp only [List.length_append, List.length_drop, List.length_singleton]
        omega
      · rw [e.2]
        exact List.mem_append_right _ (List.mem_singleton.mpr rfl)
  · rcases List.mem_cons.mp hz with rfl | hz
    · refine ⟨nst.ok.perm ((List.reverse_perm fo).append_right th), by simp [fne], ?_, fun e => ?_⟩
      · simp only [List.length_append, List.length_reverse]
        omega
      · have e : fo = fo.reverse := e.1
        match fo, f2 with
        | a :: b :: r, _ =>
          have h0 : (a :: b :: r)[0]? = (a :: b :: r).reverse[0]? := by rw [← e]
          rw [List.getElem?_reverse (by simp)] at h0
          have := (List.getElem?_inj (i := 0) (j := (a :: b :: r).length - 1 - 0) (by simp) ndf).mp h0
          simp at this
    · rw [List.mem_singleton.mp hz]
      have e : fo.take (fo.length - 1) ++ (fo.drop (fo.length - 1) ++ th) = fo ++ th := by rw [← List.append_assoc, List.take_append_drop]
      refine ⟨by show Nok (fo.take (fo.length - 1) ++ (fo.drop (fo.length - 1) ++ th)); rw [e]; exact nst.ok, fun k => ?_, ?_, fun k => ?_⟩
      · have := congrArg List.length k
        rw [List.length_take] at this
        simp at this
        omega
      · show (fo.take (fo.length - 1) ++ (fo.drop (fo.length - 1) ++ th)).length ≤ 20
        rw [e, List.length_append]
        omega
      · have := congrArg List.length k.1
        rw [List.length_take] at this
        omega
abbrev nm_alike : List Str := ["one", "other"]
theorem sc_alike : FnScope nm_alike ["one", "other"] (defScope s_alike) := ⟨rfl, rfl, rfl, by decide +kernel, rfl, by decide +kernel, by decide +kernel⟩
abbrev nm__law_strange_house : List Str := ["_law_pool_here", "_law_parts", "_law_folders", "_law_things", "_law_found"]
theorem sc__law_strange_house : FnScope nm__law_strange_house ["_law_pool_here", "_law_parts"] (defScope s__law_strange_house) := ⟨rfl, rfl, rfl, by decide +kernel, rfl, by decide +kernel, by decide +kernel⟩
abbrev nm__law_others : List Str := ["_law_pool_here", "_law_parts", "_law_told_here", "_law_found"]
theorem sc__law_others : FnScope nm__law_others ["_law_pool_here", "_law_parts", "_law_told_here"] (defScope s__law_others) := ⟨rfl, rfl, rfl, by decide +kernel, rfl, by decide +kernel, by decide +kernel⟩
abbrev nm__law_first : List Str := ["_law_parts", "_law_trees", "_law_more", "_law_index", "_law_over_here"]
theorem sc__law_first : FnScope nm__law_first ["_law_parts", "_law_trees", "_law_more"] (defScope s__law_first) := ⟨rfl, rfl, rfl, by decide +kernel, rfl, by decide +kernel, by decide +kernel⟩
abbrev nm__law_parted_right : List Str := ["_law_parts", "_law_told_here", "_law_more", "_law_found", "_law_due"]
theorem sc__law_parted_right : FnScope nm__law_parted_right ["_law_parts", "_law_told_here", "_law_more", "_law_found", "_law_due"] (defScope s__law_parted_right) := ⟨rfl, rfl, rfl, by decide +kernel, rfl, by decide +kernel, by decide +kernel⟩
abbrev nm__law_unlike : List Str := ["_law_ask"]
theorem sc__law_unlike : FnScope nm__law_unlike ["_law_ask"] (defScope s__law_unlike) := ⟨rfl, rfl, rfl, by decide +kernel, rfl, by decide +kernel, by decide +kernel⟩
section
variable {P : Program} {w : World} {K : PySem.W.Frag} {mg : Str → Option Value} {base : Heap} {f C CB CF CE CT CUn : Addr} {fd : FuncData}
theorem ok_alike (Fn : FnP K "alike" s_alike f fd) (hfollows : HasX P w K mg base 11 "follows" ["facts", "more"] (spFollows K CF C CUn)) : FnOk P w K mg base (L2.CX P w) 12 f fd ["one", "other"] (spAlike K CF C CUn) := by
  refine Fn.ok sc_alike (fun vs H Q E h => ?_) (fun cdv A outer s H vs Q E hr h => ⟨_,
    (pss_one (ps_ret (pe_and (pe_hasX hfollows (hr.mono (by decide)) (pa_cons (pv 0) (pa_cons (pv 1) pa_nil)) (passes_call (takes_of rfl rfl rfl rfl) (fun _ _ _ _ h => h))) (pe_one (pe_hasX hfollows (hr.mono (by decide)) (pa_cons (pv 1) (pa_cons (pv 0) pa_nil)) (passes_call (takes_of rfl rfl rfl rfl) (fun _ _ _ _ h => h))))))), ?_⟩)
  · obtain ⟨a, m, fo, th, fo2, th2, rows, more, rfl, _⟩ := h
    rfl
  · obtain ⟨a, m, fo, th, fo2, th2, rows, more, rfl, fa, ok, fm, hh⟩ := h
    rcases hh with ⟨ne, qE⟩ | ⟨rfl, rfl, okm, q⟩
    · exact ⟨_, rfl, _, rfl, a, m, fo, th, fo2, th2, rows, more, rfl, fa, ok, fm, .inl ⟨ne, qE⟩⟩
    · refine ⟨_, rfl, _, rfl, a, m, fo2, th2, fo2, th2, rows, more, rfl, fa, ok, fm, .inr ⟨rfl, rfl, okm.tr, okm.rl, fun H1 x1 => ⟨_, rfl, ?_⟩⟩⟩
      refine ite2 (fun c => ?_) fun c => ?_
      · refine ⟨_, rfl, _, rfl, m, a, fo2, th2, fo2, th2, more, rows, rfl, fm.ext x1, okm, fa.ext x1, .inr ⟨rfl, rfl, ok.tr, ok.rl, fun H2 x2 => ?_⟩⟩
        have q1 := q H2 (x1.trans x2)
        rw [show folB fo2 th2 rows more = true from c] at q1
        exact q1
      · have q1 := q H1 x1
        rw [show folB fo2 th2 rows more = false from by simpa [folB] using c] at q1
        exact q1
theorem ok_strange (Fn : FnP K "_law_strange_house" s__law_strange_house f fd) (Z : HouseTxt P w K mg C CB) (h_law_take : Has P w K mg base 1 "_law_take" ["_law_pool_here", "_law_many"] spTake) (gB_len : mg "len" = none) : FnOk P w K mg base CX0 6 f fd ["_law_pool_here", "_law_parts"] (spStrange K C) := by
  refine Fn.ok sc__law_strange_house (fun vs H Q E h => ?_) (fun cdv A outer s H vs Q E hr h => ⟨_, PSs.nox
    (pss_cons (ps_asg (pv 1) (pg_tup rfl (pgs_cons (pg_name (i := 2) sc__law_strange_house.nd rfl (Or.inl rfl)) (pgs_cons (pg_name (i := 3) sc__law_strange_house.nd rfl (Or.inl rfl)) pgs_nil))))
      (pss_cons (ps_set (i := 4) sc__law_strange_house.nd rfl (Or.inl rfl) (pe_lst (pa_cons (pe_make Z.M (Z.I _) (hr.mono (by decide)) (by rfl) Z.gH Z.bI .nil passL (pa_cons (pe_op L2.op_cat (pe_slice sl_list (pv 2) (po_some pe_int) po_none) (pe_lst (pa_cons pe_str pa_nil))) (pa_cons (pv 3) pa_nil))) (pa_cons (pe_make Z.M (Z.I _) (hr.mono (by decide)) (by rfl) Z.gH Z.bI .nil passL (pa_cons (pe_op L2.op_cat (pe_slice sl_list (pv 2) po_none (po_some (pe_un un_neg pe_int))) (pe_lst (pa_cons pe_str pa_nil))) (pa_cons (pv 3) pa_nil))) pa_nil))))
      (C8.pss_cut (ps_if (pt_cmpR (op_neNil hr.units0) (pv 3) (pe_lst pa_nil) (nomark _)) (pss_cons (ps_expr (pe_bm PySem.F.plainAttrs_list PySem.F.slot_list_append PySem.F.type_list_append mt_append (pv 4) (pa_cons (pe_make Z.M (Z.I _) (hr.mono (by decide)) (by rfl) Z.gH Z.bI .nil passL (pa_cons (pe_op L2.op_cat (pv 2) (pe_slice sl_list (pv 3) po_none (po_some pe_int))) (pa_cons (pe_slice sl_list (pv 3) (po_some pe_int) po_none) pa_nil))) pa_nil)))
      (pss_one (ps_expr (pe_bm PySem.F.plainAttrs_list PySem.F.slot_list_append PySem.F.type_list_append mt_append (pv 4) (pa_cons (pe_make Z.M (Z.I _) (hr.mono (by decide)) (by rfl) Z.gH Z.bI .nil passL (pa_cons (pv 2) (pa_cons (pe_op L2.op_cat (pe_slice sl_list (pv 3) (po_some pe_int) po_none) (pe_lst (pa_cons pe_str pa_nil))) pa_nil))) pa_nil))))) pss_nil)
      (C8.pss_cut (ps_if (pt_cmpR op_gt (pe_callB call_len (by rfl) gB_len boot_len (pa_cons (pv 2) pa_nil)) pe_int (nomark _)) (pss_cons (ps_expr (pe_bm PySem.F.plainAttrs_list PySem.F.slot_list_append PySem.F.type_list_append mt_append (pv 4) (pa_cons (pe_make Z.M (Z.I _) (hr.mono (by decide)) (by rfl) Z.gH Z.bI .nil passL (pa_cons (pe_revL (pv 2)) (pa_cons (pv 3) pa_nil))) pa_nil)))
      (pss_one (ps_expr (pe_bm PySem.F.plainAttrs_list PySem.F.slot_list_append PySem.F.type_list_append mt_append (pv 4) (pa_cons (pe_make Z.M (Z.I _) (hr.mono (by decide)) (by rfl) Z.gH Z.bI .nil passL (pa_cons (pe_slice sl_list (pv 2) po_none (po_some (pe_un un_neg pe_int))) (pa_cons (pe_op L2.op_cat (pe_slice sl_list (pv 2) (po_some (pe_un un_neg pe_int)) po_none) (pv 3)) pa_nil))) pa_nil))))) pss_nil)
      (pss_one (ps_ret (pe_ix ix_list (pv 4) (pe_has h_law_take (hr.mono (by decide)) (pa_cons (pv 0) (pa_cons (pe_callB call_len (by rfl) gB_len boot_len (pa_cons (pv 4) pa_nil)) pa_nil))) (fun _ _ => rfl)))))))), ?_⟩)
  · obtain ⟨p, t, lf, lt, fo, th, n, rfl, _⟩ := h
    rfl
  · obtain ⟨p, t, lf, lt, fo, th, n, rfl, st, hf, ht, nfp, ntp, nst, f1, l8, hp, hn, q⟩ := h
    obtain ⟨c1, c2, c3⟩ := all_cases nst f1 l8
    have lm : ∀ zs : List Str, (zs.map V.str).length = zs.length := fun zs => List.length_map _
    have size : ∀ k : Nat, k ≤ 1000 → k ≤ sizeLine := fun k hk => by
      rw [sizeLine_eq]
      omega
    rw [List.length_append] at l8
    refine ⟨_, rfl, t, _, rfl, st, rfl, _, _, rfl, _, _, rfl, rfl, ?_⟩
    have k1 := c1 _ List.mem_cons_self
    have k2 := c1 _ (List.mem_cons_of_mem _ (List.mem_singleton.mpr rfl))
    refine ⟨_, rfl, _, rfl, lf, _, rfl, SqL.of hf, fun s1 hs1 => ?_⟩
    rw [cut_s1 f1]
    obtain ⟨H1, hH1⟩ : ∃ H1, H1 = L2.upd H s1 (.lst ((fo.drop 1).map V.str)) := ⟨_, rfl⟩
    have xH1 : Ext H H1 := by
      rw [hH1]
      exact Ext.upd hs1
    have nH1 : H1 s1 = some (.lst ((fo.drop 1).map V.str)) := by rw [hH1, upd_same]
    rw [← hH1]
    clear hH1
    refine ⟨Nat.le_of_ble_eq_true rfl, fun g1 hg1 => ?_⟩
    obtain ⟨H2, hH2⟩ : ∃ H2, H2 = L2.upd H1 g1 (.lst [.str "strange"]) := ⟨_, rfl⟩
    have xH2 : Ext H1 H2 := by
      rw [hH2]
      exact Ext.upd hg1
    have nH2 : H2 g1 = some (.lst [.str "strange"]) := by rw [hH2, upd_same]
    rw [← hH2]
    clear hH2
    refine ⟨s1, g1, _, _, rfl, rfl, xH2 _ _ nH1, nH2, size _ (by simp; omega), fun a1 ha1 => ?_⟩
    obtain ⟨H3, hH3⟩ : ∃ H3, H3 = L2.upd H2 a1 (.lst ((fo.drop 1).map V.str ++ [.str "strange"])) := ⟨_, rfl⟩
    have xH3 : Ext H2 H3 := by
      rw [hH3]
      exact Ext.upd ha1
    have nH3 : H3 a1 = some (.lst ((fo.drop 1).map V.str ++ [.str "strange"])) := by rw [hH3, upd_same]
    rw [← hH3]
    clear hH3
    have x3 := xH1.trans (xH2.trans xH3)
    refine ⟨_, rfl, ?_⟩
    intro x dx hx hdx nx
    refine mk_at (a := a1) (b := lt) (fo := fo.drop 1 ++ sgS) (th := th) (.inl (SqL.of (by rw [nH3, List.map_append]; rfl))) (.inl (SqL.of (x3 _ _ ht))) k1.1 k1.2.1 (size _ (Nat.le_trans k1.2.2.1 (by decide))) hx hdx nx fun H4 x4 hou1 => ?_
    have x04 := x3.trans x4
    clear nH1 nH2 nH3 xH1 xH2 xH3 hs1 hg1 ha1 hx hdx x3
    refine ⟨_, rfl, _, rfl, _, rfl, lf, _, rfl, SqL.of (x04 _ _ hf), fun s2 hs2 => ?_⟩
    rw [show (-1 : Int) = -1 from rfl, cut_tm f1]
    obtain ⟨H5, hH5⟩ : ∃ H5, H5 = L2.upd H4 s2 (.lst ((fo.take (fo.length - 1)).map V.str)) := ⟨_, rfl⟩
    have xH5 : Ext H4 H5 := by
      rw [hH5]
      exact Ext.upd hs2
    have nH5 : H5 s2 = some (.lst ((fo.take (fo.length - 1)).map V.str)) := by rw [hH5, upd_same]
    rw [← hH5]
    clear hH5
    refine ⟨Nat.le_of_ble_eq_true rfl, fun g2 hg2 => ?_⟩
    obtain ⟨H6, hH6⟩ : ∃ H6, H6 = L2.upd H5 g2 (.lst [.str "strange"]) := ⟨_, rfl⟩
    have xH6 : Ext H5 H6 := by
      rw [hH6]
      exact Ext.upd hg2
    have nH6 : H6 g2 = some (.lst [.str "strange"]) := by rw [hH6, upd_same]
    rw [← hH6]
    clear hH6
    refine ⟨s2, g2, _, _, rfl, rfl, xH6 _ _ nH5, nH6, size _ (by simp; omega), fun a2 ha2 => ?_⟩
    obtain ⟨H7, hH7⟩ : ∃ H7, H7 = L2.upd H6 a2 (.lst ((fo.take (fo.length - 1)).map V.str ++ [.str "strange"])) := ⟨_, rfl⟩
    have xH7 : Ext H6 H7 := by
      rw [hH7]
      exact Ext.upd ha2
    have nH7 : H7 a2 = some (.lst ((fo.take (fo.length - 1)).map V.str ++ [.str "strange"])) := by rw [hH7, upd_same]
    rw [← hH7]
    clear hH7
    have x47 := xH5.trans (xH6.trans xH7)
    refine ⟨_, rfl, ?_⟩
    intro y dy hy hdy ny
    refine mk_at (a := a2) (b := lt) (fo := fo.take (fo.length - 1) ++ sgS) (th := th) (.inl (SqL.of (by rw [nH7, List.map_append]; rfl))) (.inl (SqL.of ((x04.trans x47) _ _ ht))) k2.1 k2.2.1 (size _ (Nat.le_trans k2.2.2.1 (by decide))) hy hdy ny fun H8 x8 hou2 => ?_
    have x48 := x47.trans x8
    have x08 := x04.trans x48
    clear nH5 nH6 nH7 xH5 xH6 xH7 hs2 hg2 ha2 hy hdy x47
    refine ⟨Nat.le_of_ble_eq_true rfl, fun g hg => ?_⟩
    obtain ⟨H9, hH9⟩ : ∃ H9, H9 = L2.upd H8 g (.lst [.ref x, .ref y]) := ⟨_, rfl⟩
    have xH9 : Ext H8 H9 := by
      rw [hH9]
      exact Ext.upd hg
    have nH9 : H9 g = some (.lst [.ref x, .ref y]) := by rw [hH9, upd_same]
    rw [← hH9]
    clear hH9
    have x09 := x08.trans xH9
    have ng : H g = none := ext_none x08 hg
    have ent0 : ∀ v, v ∈ [V.ref x, V.ref y] → StE K C fo th H9 v := fun v hv => by
      rcases List.mem_cons.mp hv with rfl | hv
      · exact ⟨x, _, _, rfl, (hou1.ext x48).ext xH9, k1⟩
      · rw [List.mem_singleton.mp hv]
        exact ⟨y, _, _, rfl, hou2.ext xH9, k2⟩
    clear hou1 hou2 x04 x08 x48 x8 k1 k2
    have grow : ∀ {Hq : Hp} {acc : List V} {z : Addr} {fo2 th2 : List Str}, Ext H Hq → Hq g = some (.lst acc) → (∀ v, v ∈ acc → StE K C fo th Hq v) → Hou Hq K C z fo2 th2 → (Nok (fo2 ++ th2) ∧ fo2 ≠ [] ∧ (fo2 ++ th2).length ≤ 20 ∧ ¬ (fo = fo2 ∧ th = th2)) →
        Ext H (L2.upd Hq g (.lst (acc ++ [.ref z]))) ∧ L2.upd Hq g (.lst (acc ++ [.ref z])) g = some (.lst (acc ++ [.ref z])) ∧ ∀ v, v ∈ acc ++ [.ref z] → StE K C fo th (L2.upd Hq g (.lst (acc ++ [.ref z]))) v := fun {Hq acc z fo2 th2} xq gq en hz kz => ⟨xq.over ng, upd_same, fun v hv => by
      rcases List.mem_append.mp hv with hv | hv
      · exact (en v hv).upd gq
      · rw [List.mem_singleton.mp hv]
        exact StE.upd ⟨z, fo2, th2, rfl, hz, kz⟩ gq⟩
    -- by the things
    refine ⟨fun σ' H' => ∃ acc : List V, σ' = [some (.ref p), some (.ref t), some (.ref lf), some (.ref lt), some (.ref g)] ∧ Ext H H' ∧ H' g = some (.lst acc) ∧ 0 < acc.length ∧ acc.length ≤ 10 ∧ ∀ v, v ∈ acc → StE K C fo th H' v, ?_, ?_⟩
    · refine ⟨_, rfl, Nat.zero_le _, fun e he => ?_⟩
      obtain ⟨HA, hHA⟩ : ∃ HA, HA = L2.upd H9 e (.lst []) := ⟨_, rfl⟩
      have xHA : Ext H9 HA := by
        rw [hHA]
        exact Ext.upd he
      have nHA : HA e = some (.lst []) := by rw [hHA, upd_same]
      rw [← hHA]
      clear hHA
      have x0A := x09.trans xHA
      have entA : ∀ v, v ∈ [V.ref x, V.ref y] → StE K C fo th HA v := fun v hv => (ent0 v hv).ext xHA
      refine ⟨lt, e, _, rfl, rfl, SqL.of (x0A _ _ ht), SqL.of nHA, _, rfl, ?_⟩
      refine ite2 (fun c => ?_) fun c => ?_
      · have tne : th ≠ [] := fun z => by
          rw [z] at c
          exact absurd c (by decide)
        have t1 : 1 ≤ th.length := by
          cases th with
          | nil => exact absurd rfl tne
          | cons _ _ => exact Nat.le_add_left _ _
        have k3 := c2 tne _ List.mem_cons_self
        have k4 := c2 tne _ (List.mem_cons_of_mem _ (List.mem_singleton.mpr rfl))
        have gA := xHA _ _ nH9
        refine ⟨_, rfl, .inl ⟨rfl, _, SqL.of gA⟩, _, rfl, _, rfl, _, rfl, lt, _, rfl, SqL.of (x0A _ _ ht), fun s3 hs3 => ?_⟩
        rw [cut_t1 t1]
        obtain ⟨HB, hHB⟩ : ∃ HB, HB = L2.upd HA s3 (.lst ((th.take 1).map V.str)) := ⟨_, rfl⟩
        have xHB : Ext HA HB := by
          rw [hHB]
          exact Ext.upd hs3
        have nHB : HB s3 = some (.lst ((th.take 1).map V.str)) := by rw [hHB, upd_same]
        rw [← hHB]
        clear hHB
        refine ⟨lf, s3, _, _, rfl, rfl, (x0A.trans xHB) _ _ hf, nHB, size _ (by simp; omega), fun a3 ha3 => ?_⟩
        obtain ⟨HC, hHC⟩ : ∃ HC, HC = L2.upd HB a3 (.lst (fo.map V.str ++ (th.take 1).map V.str)) := ⟨_, rfl⟩
        have xHC : Ext HB HC := by
          rw [hHC]
          exact Ext.upd ha3
        have nHC : HC a3 = some (.lst (fo.map V.str ++ (th.take 1).map V.str)) := by rw [hHC, upd_same]
        rw [← hHC]
        clear hHC
        have x0C := x0A.trans (xHB.trans xHC)
        refine ⟨_, rfl, _, rfl, lt, _, rfl, SqL.of (x0C _ _ ht), fun s4 hs4 => ?_⟩
        rw [cut_s1 t1]
        obtain ⟨HD, hHD⟩ : ∃ HD, HD = L2.upd HC s4 (.lst ((th.drop 1).map V.str)) := ⟨_, rfl⟩
        have xHD : Ext HC HD := by
          rw [hHD]
          exact Ext.upd hs4
        have nHD : HD s4 = some (.lst ((th.drop 1).map V.str)) := by rw [hHD, upd_same]
        rw [← hHD]
        clear hHD
        have xAD := xHB.trans (xHC.trans xHD)
        intro z dz hz hdz nz
        refine mk_at (a := a3) (b := s4) (fo := fo ++ th.take 1) (th := th.drop 1) (.inl (SqL.of (by rw [List.map_append]; exact xHD _ _ nHC))) (.inl (SqL.of nHD)) k3.1 k3.2.1 (size _ (Nat.le_trans k3.2.2.1 (by decide))) hz hdz nz fun HE xE hou3 => ?_
        have gE := (xAD.trans xE) _ _ gA
        refine ⟨g, _, _, rfl, rfl, gE, by rw [sizeLine_eq]; exact Nat.le_of_ble_eq_true rfl, ?_⟩
        obtain ⟨xF, gF, entF⟩ := grow (x0A.trans (xAD.trans xE)) gE (fun v hv => (entA v hv).ext (xAD.trans xE)) hou3 k3
        obtain ⟨HF, hHF⟩ : ∃ HF, HF = L2.upd HE g (.lst ([.ref x, .ref y] ++ [.ref z])) := ⟨_, rfl⟩
        rw [← hHF] at xF gF entF ⊢
        clear hHF gE hou3 xE xAD nHB nHC nHD xHB xHC xHD hs3 ha3 hs4 hz hdz x0C
        -- the second
        refine ⟨_, rfl, .inl ⟨rfl, _, SqL.of gF⟩, _, rfl, _, rfl, _, rfl, lt, _, rfl, SqL.of (xF _ _ ht), fun s5 hs5 => ?_⟩
        rw [cut_s1 t1]
        obtain ⟨HG, hHG⟩ : ∃ HG, HG = L2.upd HF s5 (.lst ((th.drop 1).map V.str)) := ⟨_, rfl⟩
        have xHG : Ext HF HG := by
          rw [hHG]
          exact Ext.upd hs5
        have nHG : HG s5 = some (.lst ((th.drop 1).map V.str)) := by rw [hHG, upd_same]
        rw [← hHG]
        clear hHG
        refine ⟨Nat.le_of_ble_eq_true rfl, fun g5 hg5 => ?_⟩
        obtain ⟨HI, hHI⟩ : ∃ HI, HI = L2.upd HG g5 (.lst [.str "strange"]) := ⟨_, rfl⟩
        have xHI : Ext HG HI := by
          rw [hHI]
          exact Ext.upd hg5
        have nHI : HI g5 = some (.lst [.str "strange"]) := by rw [hHI, upd_same]
        rw [← hHI]
        clear hHI
        refine ⟨s5, g5, _, _, rfl, rfl, xHI _ _ nHG, nHI, size _ (by simp; omega), fun a5 ha5 => ?_⟩
        obtain ⟨HJ, hHJ⟩ : ∃ HJ, HJ = L2.upd HI a5 (.lst ((th.drop 1).map V.str ++ [.str "strange"])) := ⟨_, rfl⟩
        have xHJ : Ext HI HJ := by
          rw [hHJ]
          exact Ext.upd ha5
        have nHJ : HJ a5 = some (.lst ((th.drop 1).map V.str ++ [.str "strange"])) := by rw [hHJ, upd_same]
        rw [← hHJ]
        clear hHJ
        have xFJ := xHG.trans (xHI.trans xHJ)
        intro z2 dz2 hz2 hdz2 nz2
        refine mk_at (a := lf) (b := a5) (fo := fo) (th := th.drop 1 ++ sgS) (.inl (SqL.of ((xF.trans xFJ) _ _ hf))) (.inl (SqL.of (by rw [nHJ, List.map_append]; rfl))) k4.1 k4.2.1 (size _ (Nat.le_trans k4.2.2.1 (by decide))) hz2 hdz2 nz2 fun HK xK hou4 => ?_
        have gK := (xFJ.trans xK) _ _ gF
        refine ⟨g, _, _, rfl, rfl, gK, by rw [sizeLine_eq]; exact Nat.le_of_ble_eq_true rfl, ?_⟩
        obtain ⟨xL, gL, entL⟩ := grow (xF.trans (xFJ.trans xK)) gK (fun v hv => (entF v hv).ext (xFJ.trans xK)) hou4 k4
        exact ⟨_, rfl, xL, gL, Nat.le_of_ble_eq_true rfl, Nat.le_of_ble_eq_true rfl, entL⟩
      · exact ⟨_, rfl, x0A, xHA _ _ nH9, Nat.le_of_ble_eq_true rfl, Nat.le_of_ble_eq_true rfl, entA⟩
    clear ent0 nH9 xH9 x09 c1
    rintro σ' HB ⟨acc, rfl, xB, gB, al0, al1, entB⟩
    refine ⟨fun σ' H' => ∃ acc : List V, σ' = [some (.ref p), some (.ref t), some (.ref lf), some (.ref lt), some (.ref g)] ∧ Ext H H' ∧ H' g = some (.lst acc) ∧ 0 < acc.length ∧ acc.length ≤ 20 ∧ ∀ v, v ∈ acc → StE K C fo th H' v, ?_, ?_⟩
    · refine ⟨_, rfl, _, _, rfl, .inl ⟨_, SqL.of (xB _ _ hf), rfl⟩, _, _, rfl, rfl, _, rfl, ?_⟩
      rw [lm]
      refine ite2 (fun c => ?_) fun c => ?_
      · have f2 : 1 < fo.length := by
          have := of_decide_eq_true c
          omega
        have k5 := c3 f2 _ List.mem_cons_self
        have k6 := c3 f2 _ (List.mem_cons_of_mem _ (List.mem_singleton.mpr rfl))
        refine ⟨_, rfl, .inl ⟨rfl, _, SqL.of gB⟩, _, rfl, lf, _, rfl, SqL.of (xB _ _ hf), fun s3 hs3 => ?_⟩
        rw [← List.map_reverse]
        obtain ⟨HE, hHE⟩ : ∃ HE, HE = L2.upd HB s3 (.lst (fo.reverse.map V.str)) := ⟨_, rfl⟩
        have xHE : Ext HB HE := by
          rw [hHE]
          exact Ext.upd hs3
        have nHE : HE s3 = some (.lst (fo.reverse.map V.str)) := by rw [hHE, upd_same]
        rw [← hHE]
        clear hHE
        refine ⟨_, rfl, ?_⟩
        intro z dz hz hdz nz
        refine mk_at (a := s3) (b := lt) (fo := fo.reverse) (th := th) (.inl (SqL.of nHE)) (.inl (SqL.of ((xB.trans xHE) _ _ ht))) k5.1 k5.2.1 (size _ (Nat.le_trans k5.2.2.1 (by decide))) hz hdz nz fun HF xF hou3 => ?_
        have gF := (xHE.trans xF) _ _ gB
        refine ⟨g, _, _, rfl, rfl, gF, by rw [sizeLine_eq]; omega, ?_⟩
        obtain ⟨xG, gG, entG⟩ := grow (xB.trans (xHE.trans xF)) gF (fun v hv => (entB v hv).ext (xHE.trans xF)) hou3 k5
        obtain ⟨HG, hHG⟩ : ∃ HG, HG = L2.upd HF g (.lst (acc ++ [.ref z])) := ⟨_, rfl⟩
        rw [← hHG] at xG gG entG ⊢
        clear hHG gF hou3 xF nHE xHE hs3 hz hdz
        refine ⟨_, rfl, .inl ⟨rfl, _, SqL.of gG⟩, _, rfl, _, rfl, _, rfl, lf, _, rfl, SqL.of (xG _ _ hf), fun s5 hs5 => ?_⟩
        rw [cut_tm f1]
        obtain ⟨HH, hHH⟩ : ∃ HH, HH = L2.upd HG s5 (.lst ((fo.take (fo.length - 1)).map V.str)) := ⟨_, rfl⟩
        have xHH : Ext HG HH := by
          rw [hHH]
          exact Ext.upd hs5
        have nHH : HH s5 = some (.lst ((fo.take (fo.length - 1)).map V.str)) := by rw [hHH, upd_same]
        rw [← hHH]
        clear hHH
        refine ⟨_, rfl, _, rfl, _, rfl, lf, _, rfl, SqL.of ((xG.trans xHH) _ _ hf), fun s6 hs6 => ?_⟩
        rw [cut_sm f1]
        obtain ⟨HI, hHI⟩ : ∃ HI, HI = L2.upd HH s6 (.lst ((fo.drop (fo.length - 1)).map V.str)) := ⟨_, rfl⟩
        have xHI : Ext HH HI := by
          rw [hHI]
          exact Ext.upd hs6
        have nHI : HI s6 = some (.lst ((fo.drop (fo.length - 1)).map V.str)) := by rw [hHI, upd_same]
        rw [← hHI]
        clear hHI
        refine ⟨_, rfl, s6, lt, _, _, rfl, rfl, nHI, (xG.trans (xHH.trans xHI)) _ _ ht, size _ (by simp; omega), fun a5 ha5 => ?_⟩
        obtain ⟨HJ, hHJ⟩ : ∃ HJ, HJ = L2.upd HI a5 (.lst ((fo.drop (fo.length - 1)).map V.str ++ th.map V.str)) := ⟨_, rfl⟩
        have xHJ : Ext HI HJ := by
          rw [hHJ]
          exact Ext.upd ha5
        have nHJ : HJ a5 = some (.lst ((fo.drop (fo.length - 1)).map V.str ++ th.map V.str)) := by rw [hHJ, upd_same]
        rw [← hHJ]
        clear hHJ
        have xGJ := xHH.trans (xHI.trans xHJ)
        intro z2 dz2 hz2 hdz2 nz2
        refine mk_at (a := s5) (b := a5) (fo := fo.take (fo.length - 1)) (th := fo.drop (fo.length - 1) ++ th) (.inl (SqL.of ((xHI.trans xHJ) _ _ nHH))) (.inl (SqL.of (by rw [nHJ, List.map_append]))) k6.1 k6.2.1 (size _ (Nat.le_trans k6.2.2.1 (by decide))) hz2 hdz2 nz2 fun HK xK hou4 => ?_
        have gK := (xGJ.trans xK) _ _ gG
        refine ⟨g, _, _, rfl, rfl, gK, by rw [sizeLine_eq, List.length_append, List.length_singleton]; omega, ?_⟩
        obtain ⟨xL, gL, entL⟩ := grow (xG.trans (xGJ.trans xK)) gK (fun v hv => (entG v hv).ext (xGJ.trans xK)) hou4 k6
        exact ⟨_, rfl, xL, gL, by simp, by simp; omega, entL⟩
      · exact ⟨acc, rfl, xB, gB, al0, by omega, entB⟩
    rintro σ' HC ⟨acc, rfl, xC, gC, al0, al1, entC⟩
    have ngp : g ≠ p := pool_ne hp ng
    refine ⟨_, rfl, _, rfl, _, rfl, _, _, rfl, .inl ⟨_, SqL.of gC, rfl⟩, p, _, n, rfl, by omega, by omega, pool_ext hp xC, by omega, fun r o r0 r1 gp => ?_⟩
    obtain ⟨r, rfl⟩ := Int.eq_ofNat_of_zero_le r0
    have rl : r < acc.length := by omega
    obtain ⟨HD, hHD⟩ : ∃ HD, HD = L2.upd HC p o := ⟨_, rfl⟩
    rw [← hHD] at gp ⊢
    have bD : But HC HD p := by rw [hHD]; exact But.upd (ext_but Ext.rfl')
    clear hHD
    obtain ⟨h, fo2, th2, e, hou, k1, k2, k3, k4⟩ := entC acc[r] (List.getElem_mem rl)
    refine ⟨g, acc, (r : Int), acc[r], rfl, rfl, SqL.of (bD _ _ ngp gC), atI_nat (List.getElem?_eq_getElem rl), ?_⟩
    rw [e]
    obtain ⟨yp, hyp⟩ := hp.lst
    exact q h fo2 th2 HD ((ext_but xC).trans bD) gp (hou_butL (xC _ _ hyp) bD hou) k1 k2 k3 k4
theorem ok_others (Fn : FnP K "_law_others" s__law_others f fd) (h_law_picked : Has P w K mg base 2 "_law_picked" ["_law_pool_here", "_law_things", "_law_share"] spPickedV) (h_law_take : Has P w K mg base 1 "_law_take" ["_law_pool_here", "_law_many"] spTake) (h_law_drawn_facts : Has P w K mg base 4 "_law_drawn_facts" ["_law_pool_here", "_law_parts", "_law_most"] (spDrawnFacts K)) (h_law_told : Has P w K mg base 1 "_law_told" ["_law_parts", "_law_facts_here"] (spLTold K)) : FnOk P w K mg base CX0 5 f fd ["_law_pool_here", "_law_parts", "_law_told_here"] (spOthers K) := by
  refine Fn.ok sc__law_others (fun vs H Q E h => ?_) (fun cdv A outer s H vs Q E hr h => ⟨_, PSs.nox
    (pss_cons (ps_set (i := 3) sc__law_others.nd rfl (Or.inl rfl) (pe_has h_law_picked (hr.mono (by decide)) (pa_cons (pv 0) (pa_cons (pv 2) (pa_cons pe_int pa_nil)))))
      (C8.pss_cut (ps_if (pt_cmpR op_eq (pe_has h_law_take (hr.mono (by decide)) (pa_cons (pv 0) (pa_cons pe_int pa_nil))) pe_int (nomark _)) (pss_one (ps_set (i := 3) sc__law_others.nd rfl (Or.inl rfl) (pe_op L2.op_cat (pv 3) (pe_has h_law_drawn_facts (hr.mono (by decide)) (pa_cons (pv 0) (pa_cons (pv 1) (pa_cons pe_int pa_nil))))))) pss_nil)
      (pss_one (ps_ret (pe_has h_law_told (hr.mono (by decide)) (pa_cons (pv 1) (pa_cons (pv 3) pa_nil))))))), ?_⟩)
  · obtain ⟨p, t, l, lf, lt, fo, th, xs, rs, n, rfl, _⟩ := h
    rfl
  · obtain ⟨p, t, l, lf, lt, fo, th, xs, rs, n, rfl, st, hf, ht, nfp, ntp, nd, oks, f1, f8, t8, hl, nlp, rw0, fr, rl, hp, hn, q⟩ := h
    have xl := rw0.len
    obtain ⟨yp, hyp⟩ := hp.lst
    refine ⟨_, rfl, _, rfl, p, l, xs, 3, n, rfl, hl, nlp, by omega, hp, by omega, fun l1 ys rest H1 b1 p1 l10 hl1 perm _ => ?_⟩
    have nl1 : l1 ≠ p := pool_ne hp l10
    obtain ⟨ss, rws, pss⟩ := rows_perm perm (rw0.butL hyp b1)
    obtain ⟨s1, s2, rfl, rw1⟩ := rows_left rws
    have fr1 : FactR fo th s1 := fun r hr => fr r (pss.mem_iff.mp (List.mem_append_left _ hr))
    have sl1 : s1.length ≤ 10 := by
      have := pss.length_eq
      rw [List.length_append] at this
      omega
    refine ⟨fun σ' H' => ∃ l3 xs3 rs3, σ' = [some (.ref p), some (.ref t), some (.ref l), some (.ref l3)] ∧ But H H' p ∧ Pool H' p (n + 390) ∧ l3 ≠ p ∧ H' l3 = some (.lst xs3) ∧ Rows K H' xs3 rs3 ∧ FactR fo th rs3 ∧ rs3.length ≤ 20, ?_, ?_⟩
    · refine ⟨_, rfl, p, 2, _, rfl, by decide, by decide, p1, by omega, fun r o r0 r1 gp => ⟨rfl, _, rfl, ?_⟩⟩
      obtain ⟨H2, hH2⟩ : ∃ H2, H2 = L2.upd H1 p o := ⟨_, rfl⟩
      rw [← hH2] at gp ⊢
      have b12 : But H1 H2 p := by rw [hH2]; exact But.upd (ext_but Ext.rfl')
      clear hH2
      obtain ⟨yp1, hyp1⟩ := p1.lst
      have b02 := b1.trans b12
      refine ite2 (fun c => ?_) fun c => ?_
      · refine ⟨_, rfl, _, rfl, _, rfl, p, t, lf, lt, fo, th, 3, _, rfl, sqT_p st hp b02, b02 _ _ nfp hf, b02 _ _ ntp ht, nfp, ntp, nd, f1, f8, t8, by decide, gp, by omega, fun l2 ys2 rs2 H3 b3 p3 l20 hl2 rw2 fr2 rl2 => ?_⟩
        have nl2 : l2 ≠ p := pool_ne gp l20
        have b13 := b12.trans b3
        obtain ⟨yp2, hyp2⟩ := gp.lst
        have yl2 := rw2.len
        have yl1 := rw1.len
        refine ⟨l1, l2, ys, ys2, rfl, rfl, b13 _ _ nl1 hl1, hl2, by rw [sizeLine_eq]; omega, fun m hm => ?_⟩
        obtain ⟨H4, hH4⟩ : ∃ H4, H4 = L2.upd H3 m (.lst (ys ++ ys2)) := ⟨_, rfl⟩
        have xH4 : Ext H3 H4 := by
          rw [hH4]
          exact Ext.upd hm
        have nH4 : H4 m = some (.lst (ys ++ ys2)) := by rw [hH4, upd_same]
        rw [← hH4]
        clear hH4
        exact ⟨m, _, s1 ++ rs2, rfl, (b02.trans b3).ext xH4, pool_mono (pool_ext p3 xH4) (by omega), pool_ne p3 hm, nH4, (Rows.app (rw1.butL hyp1 b13) rw2).ext xH4, fun r hr => (List.mem_append.mp hr).elim (fr1 r) (fr2 r), by rw [List.length_append]; omega⟩
      · exact ⟨l1, ys, s1, rfl, b02, pool_mono gp (by omega), nl1, b12 _ _ nl1 hl1, rw1.butL hyp1 b12, fr1, by omega⟩
    rintro σ' H4 ⟨l3, xs3, rs3, rfl, b4, p4, nl3, hl3, rw3, fr3, rl3⟩
    refine ⟨_, rfl, _, rfl, t, l3, fo, th, rs3, rfl, ⟨lf, lt, sqT_p st hp b4, b4 _ _ nfp hf, b4 _ _ ntp ht⟩, nd, by rw [List.length_append]; omega, oks, ⟨xs3, hl3, rw3⟩, fr3, by omega, fun l4 H5 x5 rat => ?_⟩
    have p5 := pool_ext p4 x5
    have nl4 : l4 ≠ p := fun e => by
      obtain ⟨xs4, hl4, rw4⟩ := rat
      obtain ⟨a1, a2, a3, e1, _⟩ := p5
      rw [e, e1] at hl4
      injection hl4 with hl4
      injection hl4 with hl4
      rw [← hl4] at rw4
      cases hz : onceR (rs3.map (toldR (fo ++ th))) with
      | nil => rw [hz] at rw4; exact rw4.elim
      | cons r rr =>
        rw [hz] at rw4
        obtain ⟨⟨u, eu, _⟩, _⟩ := rw4
        cases eu
    refine q l4 _ H5 (b4.ext x5) (pool_mono p5 (by omega)) nl4 rat (told_TR nd fr3).once (once_nodup' _ [] List.nodup_nil) ?_
    have := once_len (rs3.map (toldR (fo ++ th))) []
    rw [List.length_map, List.length_nil] at this
    exact Nat.le_trans this (by omega)
theorem ok_first (Fn : FnP K "_law_first" s__law_first f fd) (h_law_holds : Has P w K mg base 2 "_law_holds" ["_law_over_here", "_law_fact"] (spHolds K)) (gB_range : mg "range" = none) (gB_len : mg "len" = none) : FnOk P w K mg base CX0 3 f fd ["_law_parts", "_law_trees", "_law_more"] (spFirst K) := by
  refine Fn.ok sc__law_first (fun vs H Q E h => ?_) (fun cdv A outer s H vs Q E hr h => ⟨_, PSs.nox
    (pss_cons (ps_for PassesOwn.never rfl (pi_range1 (by rfl) gB_range (pa_cons (pe_callB call_len (by rfl) gB_len boot_len (pa_cons (pv 2) pa_nil)) pa_nil)) (pg_name (i := 3) sc__law_first.nd rfl (Or.inr rfl))
      (pss_one (ps_if (pt_cmpR (op_neNil hr.units0) (pe_lc (own := [("_law_over_here", 4)]) (g := (gName 4)) rfl sc__law_first.nd (pi_list (pv 1)) (blkOk_by (N := nm__law_first) (sc := defScope s__law_first) (by decide +kernel)) (fun _ _ _ _ _ => (pg_name (i := 4) sc__law_first.nd rfl (Or.inl rfl))) (fun _ _ _ _ _ => pts_one (pt_not (pt_val (pe_has h_law_holds (hr.mono (by decide)) (pa_cons (pv 4) (pa_cons (pe_ix (ixK (r := rIxL) (K := K) rfl ix_list) (pv 2) (pv 3) (fun _ _ => rfl)) pa_nil)))))) (fun _ _ _ _ _ => (pv 4))) (pe_lst pa_nil) (nomark _)) (pss_one (ps_ret (pv 3))) pss_nil)))
      (pss_one (ps_ret pe_non))), ?_⟩)
  · obtain ⟨t, l, m, fo, th, xs, ds, rs, rfl, _⟩ := h
    rfl
  · obtain ⟨t, l, m, fo, th, xs, ds, rs, rfl, hl, trs, okd, dl, ⟨ys, hm, rw0⟩, fr, rl, q⟩ := h
    have yl := rw0.len
    have xl := trs.len
    refine ⟨_, rfl, _, ys.length, rfl, .inl ⟨_, SqL.of hm, rfl⟩, (ys.length : Int), rfl, by omega, by omega, ?_⟩
    refine for_range (lo := 0) (n := ys.length) (fun i σ H' => (∃ v3 : Option V, σ = [some (.ref t), some (.ref l), some (.ref m), v3, none]) ∧ Ext H H' ∧ ∀ j r, j < i → rs[j]? = some r → (ds.any fun d => !holdsR d r) = false) ⟨⟨_, rfl⟩, Ext.rfl', fun j _ h => absurd h (Nat.not_lt_zero j)⟩ ?_ ?_
    · rintro i σ H1 hi ⟨⟨v3, rfl⟩, x1, before⟩
      obtain ⟨y, hy⟩ : ∃ y, ys[i]? = some y := ⟨_, List.getElem?_eq_getElem hi⟩
      obtain ⟨u, r, rfl, hr, su⟩ := (rw0.ext x1).at_ hy
      obtain ⟨wd, a, b, rfl, isf⟩ := fr r (List.mem_of_getElem? su)
      refine ⟨_, rfl, l, rfl, ⟨_, SqL.of (x1 _ _ hl)⟩, fun D hD => ?_⟩
      refine lc_filt (k := 4) (pI ds fun d => !holdsR d [wd, a, b]) (Nat.le_of_ble_eq_true rfl) hD (SqL.of (x1 _ _ hl)) (by rw [sizeLine_eq]; omega) ?_ ?_
      · intro j x H2 hx x2 R hR
        obtain ⟨p, d, rfl, hp, hd⟩ := (trs.ext (x1.trans x2)).at_ hx
        refine ⟨_, rfl, _, rfl, _, rfl, m, ys, (i : Int), .ref u, rfl, by rw [Int.zero_add], SqL.of ((x1.trans x2) _ _ hm), atI_nat hy, ?_⟩
        refine ⟨p, u, d, fo, wd, a, b, rfl, hp, okd d (List.mem_of_getElem? hd), hr.ext x2, _, rfl, ?_⟩
        have r1 := hR H2 Ext.rfl'
        rw [pI_at hd] at r1
        exact r1
      · intro H2 x2 d2
        refine ⟨Nat.zero_le _, fun e he => ?_⟩
        obtain ⟨H3, hH3⟩ : ∃ H3, H3 = L2.upd H2 e (.lst []) := ⟨_, rfl⟩
        have xH3 : Ext H2 H3 := by
          rw [hH3]
          exact Ext.upd he
        have nH3 : H3 e = some (.lst []) := by rw [hH3, upd_same]
        rw [← hH3]
        clear hH3
        refine ⟨D, e, _, rfl, rfl, SqL.of (xH3 _ _ d2), SqL.of nH3, _, rfl, ?_⟩
        rw [selI_empty xl fun i z hz => pI_at hz, Bool.not_not]
        refine ite2 (fun c => ?_) fun c => ?_
        · refine ⟨_, rfl, ?_⟩
          have q1 := q H3 (x1.trans (x2.trans xH3))
          have fi : firI (fun r => ds.any fun d => !holdsR d r) rs = .int (i : Nat) := fir_at su c before
          rw [fi] at q1
          rw [Int.zero_add]
          exact q1
        · refine ⟨⟨_, rfl⟩, x1.trans (x2.trans xH3), fun j r hj hr' => ?_⟩
          by_cases e : j = i
          · subst e
            rw [su] at hr'
            injection hr' with hr'
            subst hr'
            simpa using c
          · exact before j r (by omega) hr'
    · rintro σ H1 ⟨⟨v3, rfl⟩, x1, before⟩
      have q1 := q H1 x1
      rw [fir_no fun r hr => by
        obtain ⟨j, hj⟩ := List.mem_iff_getElem?.mp hr
        exact before j r (by have := (List.getElem?_eq_some_iff.mp hj).1; omega) hj] at q1
      exact q1
theorem ok_partedR (Fn : FnP K "_law_parted_right" s__law_parted_right f fd) (h_law_is_fit : Has P w K mg base 8 "_law_is_fit" ["_law_parts", "_law_told_here", "_law_tree"] (spIsFit K CT C)) (h_law_over : Has P w K mg base 7 "_law_over" ["_law_parts", "_law_tree"] (spLOver K CT C)) (h_law_holds : Has P w K mg base 2 "_law_holds" ["_law_over_here", "_law_fact"] (spHolds K)) (gB_isinstance : mg "isinstance" = none) (gB_tuple : mg "tuple" = none) (gB_len : mg "len" = none) (gB_bool : mg "bool" = none) : FnOk P w K mg base CX0 9 f fd ["_law_parts", "_law_told_here", "_law_more", "_law_found", "_law_due"] (spPartedR K CT C) := by
  refine Fn.ok sc__law_parted_right (fun vs H Q E h => ?_) (fun cdv A outer s H vs Q E hr h => ⟨_, PSs.nox
    (pss_cons (ps_if (PW.pt (pw_or (pt_cmpR op_isN (pv 4) pe_non (nomark _)) (pw_or1 (pt_cmpR op_isN (pv 3) pe_non (nomark _))))) (pss_one (ps_ret (pe_and (pe_cmpR op_isN (pv 4) pe_non (nomark _)) (pe_one (pe_cmpR op_isN (pv 3) pe_non (nomark _)))))) pss_nil)
      (pss_cons (ps_if (PW.pt (pw_or (pt_not (pt_val (pe_callB call_isi (by rfl) gB_isinstance boot_isinstance (pa_cons (pv 3) (pa_cons (pe_bltn (v := .ty "tuple") (by rfl) gB_tuple boot_tuple rfl) pa_nil))))) (pw_or (pt_cmpR op_ne (pe_callB call_len (by rfl) gB_len boot_len (pa_cons (pv 3) pa_nil)) pe_int (nomark _)) (pw_or (pt_cmpR op_ne (pe_ix ix_tup (pv 3) pe_int (fun _ _ => rfl)) (pv 4) (nomark _)) (pw_or1 (pt_val (pe_callB call_isi (by rfl) gB_isinstance boot_isinstance (pa_cons (pe_ix ix_tup (pv 3) pe_int (fun _ _ => rfl)) (pa_cons (pe_bltn (v := .ty "bool") (by rfl) gB_bool boot_bool rfl) pa_nil))))))))) (pss_one (ps_ret pe_bl)) pss_nil)
      (pss_one (ps_ret (pe_and (pe_has h_law_is_fit (hr.mono (by decide)) (pa_cons (pv 0) (pa_cons (pv 1) (pa_cons (pe_ix ix_tup (pv 3) pe_int (fun _ _ => rfl)) pa_nil)))) (pe_one (pe_not (pe_has h_law_holds (hr.mono (by decide)) (pa_cons (pe_has h_law_over (hr.mono (by decide)) (pa_cons (pv 0) (pa_cons (pe_ix ix_tup (pv 3) pe_int (fun _ _ => rfl)) pa_nil))) (pa_cons (pe_ix ix_list (pv 2) (pv 4) (fun _ _ => rfl)) pa_nil)))))))))), ?_⟩)
  · obtain ⟨t, l, m, fo, th, rs, more, v, rfl, _⟩ := h
    rfl
  · obtain ⟨t, l, m, fo, th, rs, more, v, rfl, pr, nok, fne, l8, rat, tr, rnd, rl, ⟨ym, hm, rwm⟩, frm, ml, pv, q⟩ := h
    have nd := nok.1
    have oks : OkS (fo ++ th) := fun z hz => (nok.2 z hz).2.1
    rcases pv with ⟨rfl, no⟩ | ⟨tt, t', q', d, i, r, rfl, stt, hr, trA, la, nb, before⟩
    · rw [fir_no no]
      refine ⟨_, rfl, rfl, _, rfl, iteT' rfl ?_⟩
      refine iteT' rfl ?_
      exact ⟨_, rfl, rfl, _, rfl, iteT' rfl ⟨_, rfl, rfl, q H Ext.rfl'⟩⟩
    · rw [fir_at hr nb before]
      obtain ⟨wd, a, b, rfl, isf⟩ := frm r (List.mem_of_getElem? hr)
      obtain ⟨y, hy⟩ : ∃ y, ym[i]? = some y := ⟨_, List.getElem?_eq_getElem (by have := rwm.len; have := (List.getElem?_eq_some_iff.mp hr).1; omega)⟩
      obtain ⟨u, r', rfl, su, hr'⟩ := rwm.at_ hy
      rw [hr] at hr'
      injection hr' with hr'
      subst hr'
      have fag := ag_fact nd isf
      have app : FactR fo th (rs ++ agF fo th wd a b) := fun x hx => (List.mem_append.mp hx).elim (tr.fact x) (fag x)
      have ei : onceR (rs.map (toldR (fo ++ th))) = rs := by rw [tr.told, once_nd rnd]
      have la' : Laid fo (onceR ((rs ++ agF fo th wd a b).map (toldR (fo ++ th)))) (fo ++ th) d := by
        rw [← add_once, ei]
        exact la
      have inF := laid_fit nd l8 app la'
      obtain ⟨tok, val, keeps⟩ := fit_val nd l8 app inF
      have allH := laid_all nd l8 app la'
      rw [List.all_append] at allH
      have h1 := (Bool.and_eq_true_iff.mp allH).1
      have h2 : holdsB (cutN (lyD (fo ++ th) d)) wd a b = false := by
        have nf := (ag_keeps nd isf val).mp fun w' p' q' hm' => keeps w' p' q' (List.mem_append_right _ hm')
        cases c : holdsB (cutN (lyD (fo ++ th) d)) wd a b with
        | false => rfl
        | true =>
          have := tok.len
          exact absurd ((holds_iff tok.ok tok.irr (by omega) isf.1).mp c) nf
      refine ⟨_, rfl, rfl, _, rfl, iteF' rfl ?_⟩
      refine ⟨_, rfl, rfl, _, rfl, iteF' rfl ?_⟩
      refine ⟨_, rfl, .ref tt, .ty "tuple", _, _, true, rfl, .ty _, tyx_sqT stt, kit_ty (by decide +kernel), _, rfl, iteF' rfl ?_⟩
      refine ⟨_, rfl, _, 2, rfl, .inr ⟨_, stt, rfl⟩, rfl, _, rfl, iteF' (by decide +kernel) ?_⟩
      refine ⟨_, rfl, tt, _, 1, .int (i : Nat), rfl, rfl, stt, rfl, _, rfl, rfl, _, rfl, iteF' (by simp) ?_⟩
      refine ⟨_, rfl, tt, _, 1, .int (i : Nat), rfl, rfl, stt, rfl, .int (i : Nat), .ty "bool", .type "int", .type "bool", false, rfl, .ty _, .base (.int _), kit_ty (by decide +kernel), _, rfl, iteF' rfl ?_⟩
      refine ⟨_, rfl, _, rfl, _, rfl, tt, _, 0, .ref t', rfl, rfl, stt, rfl, ?_⟩
      refine ⟨t, l, t', q', fo, th, lyD (fo ++ th) d, rs, rfl, pr, trA, nok, fne, l8, rat, tr.fact, by omega, fun H1 x1 => ⟨_, rfl, ?_⟩⟩
      rw [h1]
      refine iteT' rfl ?_
      refine ⟨_, rfl, _, rfl, tt, _, 0, .ref t', rfl, rfl, stt.ext x1, rfl, ?_⟩
      refine ⟨t, t', q', fo, th, lyD (fo ++ th) d, rfl, pr.ext x1, trA.ext x1, nok, fne, l8, fun D H2 x2 nD hD => ?_⟩
      have x02 := x1.trans x2
      refine ⟨_, rfl, _, rfl, m, ym, (i : Nat), .ref u, rfl, rfl, SqL.of (x02 _ _ hm), atI_nat hy, ?_⟩
      refine ⟨D, u, _, fo, wd, a, b, rfl, hD, tok.ok, su.ext x02, _, rfl, ?_⟩
      rw [h2]
      exact q H2 x02
end
end My

namespace My
open PySem PySem.Spec PyProof.Rows L2 LamX
theorem Rows.take {K : PySem.W.Frag} {H : Hp} : ∀ (n : Nat) {xs : List V} {rs : List (List Str)}, Rows K H xs rs → Rows K H (xs.take n) (rs.take n)
  | 0, _, _, _ => True.intro
  | _ + 1, [], [], _ => True.intro
  | n + 1, x :: xs, r :: rs, ⟨h1, h2⟩ => ⟨h1, Rows.take n h2⟩
  | _ + 1, [], _ :: _, h => h.elim
  | _ + 1, _ :: _, [], h => h.elim
theorem Rows.drop {K : PySem.W.Frag} {H : Hp} : ∀ (n : Nat) {xs : List V} {rs : List (List Str)}, Rows K H xs rs → Rows K H (xs.drop n) (rs.drop n)
  | 0, _, _, h => h
  | _ + 1, [], [], _ => True.intro
  | n + 1, x :: xs, r :: rs, ⟨h1, h2⟩ => Rows.drop n h2
  | _ + 1, [], _ :: _, h => h.elim
  | _ + 1, _ :: _, [], h => h.elim
/-- a turn of a law with lambdas that has lists of rows besides -/
structure LR (K : PySem.W.Frag) (CF C p t l fa : Addr) (fo th : List Str) (rs : List (List Str)) (lf lt : Addr) (T : List (Addr × Str)) (ys : List V) (ds : List Dic) (H0 : Hp) (R : List (Addr × List (List Str))) (G Q : List (Addr × List V)) (H : Hp) (n : Int) : Prop where
  ls : LS K CF C p t l fa fo th rs lf lt T ys ds H0 G Q H n
  r : ∀ q, q ∈ R → q.1 ≠ p ∧ RowsAt K H q.1 q.2
theorem rowsAt_but {K : PySem.W.Frag} {H H' : Hp} {a p : Addr} {rs : List (List Str)} {n : Int} (h : RowsAt K H a rs) (na : a ≠ p) (hp : Pool H p n) (b : But H H' p) : RowsAt K H' a rs := by
  obtain ⟨ys, e⟩ := hp.lst
  obtain ⟨xs, h1, h2⟩ := h
  exact ⟨xs, b _ _ na h1, h2.butL e b⟩
section
variable {K : PySem.W.Frag} {CF C p t l fa : Addr} {fo th : List Str} {rs : List (List Str)} {lf lt : Addr} {T : List (Addr × Str)} {ys : List V} {ds : List Dic} {H0 : Hp} {R : List (Addr × List (List Str))} {G Q : List (Addr × List V)} {H H' : Hp} {n m : Int}
theorem LR.law (s : LR K CF C p t l fa fo th rs lf lt T ys ds H0 R G Q H n) : LawS K CF C p t l fa fo th rs lf lt H := s.ls.law
theorem LR.pl (s : LR K CF C p t l fa fo th rs lf lt T ys ds H0 R G Q H n) : Pool H p n := s.ls.pl
theorem LR.tb (s : LR K CF C p t l fa fo th rs lf lt T ys ds H0 R G Q H n) : Tabs T H := s.ls.tb
theorem LR.tr (s : LR K CF C p t l fa fo th rs lf lt T ys ds H0 R G Q H n) : TrsAt H ys ds := s.ls.tr
theorem LR.nx (s : LR K CF C p t l fa fo th rs lf lt T ys ds H0 R G Q H n) : ExtN H0 H := s.ls.nx
theorem LR.ext (s : LR K CF C p t l fa fo th rs lf lt T ys ds H0 R G Q H n) (e : Ext H H') : LR K CF C p t l fa fo th rs lf lt T ys ds H0 R G Q H' n := ⟨s.ls.ext e, fun q hq => ⟨(s.r q hq).1, (s.r q hq).2.ext e⟩⟩
theorem LR.but (s : LR K CF C p t l fa fo th rs lf lt T ys ds H0 R G Q H n) (b : But H H' p) (pl : Pool H' p m) : LR K CF C p t l fa fo th rs lf lt T ys ds H0 R G Q H' m := ⟨s.ls.but b pl, fun q hq => ⟨(s.r q hq).1, rowsAt_but (s.r q hq).2 (s.r q hq).1 s.ls.pl b⟩⟩
theorem LR.extN (s : LR K CF C p t l fa fo th rs lf lt T ys ds H0 R G Q H n) (e : ExtN H H') (tb : Tabs T H') : LR K CF C p t l fa fo th rs lf lt T ys ds H0 R G Q H' n := ⟨s.ls.extN e tb, fun q hq => ⟨(s.r q hq).1, rowsAt_extN (s.r q hq).2 e⟩⟩
theorem LR.mono (s : LR K CF C p t l fa fo th rs lf lt T ys ds H0 R G Q H n) (h : n ≤ m) : LR K CF C p t l fa fo th rs lf lt T ys ds H0 R G Q H m := ⟨s.ls.mono h, s.r⟩
theorem LR.add (s : LR K CF C p t l fa fo th rs lf lt T ys ds H0 R G Q H n) {a : Addr} {xs : List V} (na : a ≠ p) (h : H a = some (.lst xs)) : LR K CF C p t l fa fo th rs lf lt T ys ds H0 R ((a, xs) :: G) Q H n := ⟨s.ls.add na h, s.r⟩
theorem LR.addQ (s : LR K CF C p t l fa fo th rs lf lt T ys ds H0 R G Q H n) {a : Addr} {xs : List V} (h : SeqP K H p a xs) : LR K CF C p t l fa fo th rs lf lt T ys ds H0 R G ((a, xs) :: Q) H n := ⟨s.ls.addQ h, s.r⟩
theorem LR.addR (s : LR K CF C p t l fa fo th rs lf lt T ys ds H0 R G Q H n) {a : Addr} {rr : List (List Str)} (na : a ≠ p) (h : RowsAt K H a rr) : LR K CF C p t l fa fo th rs lf lt T ys ds H0 ((a, rr) :: R) G Q H n := ⟨s.ls, fun q hq => (List.mem_cons.mp hq).elim (fun e => by rw [e]; exact ⟨na, h⟩) (s.r q)⟩
theorem LR.lst (s : LR K CF C p t l fa fo th rs lf lt T ys ds H0 R G Q H n) (i : Nat) {a : Addr} {xs : List V} (h : G[i]? = some (a, xs) := by rfl) : H a = some (.lst xs) := s.ls.lst i h
theorem LR.ln (s : LR K CF C p t l fa fo th rs lf lt T ys ds H0 R G Q H n) (i : Nat) {a : Addr} {xs : List V} (h : G[i]? = some (a, xs) := by rfl) : a ≠ p := s.ls.ln i h
theorem LR.sq (s : LR K CF C p t l fa fo th rs lf lt T ys ds H0 R G Q H n) (i : Nat) {a : Addr} {xs : List V} (h : Q[i]? = some (a, xs) := by rfl) : SeqP K H p a xs := s.ls.sq i h
theorem LR.rw (s : LR K CF C p t l fa fo th rs lf lt T ys ds H0 R G Q H n) (i : Nat) {a : Addr} {rr : List (List Str)} (h : R[i]? = some (a, rr) := by rfl) : RowsAt K H a rr := (s.r _ (List.mem_of_getElem? h)).2
theorem LR.rn (s : LR K CF C p t l fa fo th rs lf lt T ys ds H0 R G Q H n) (i : Nat) {a : Addr} {rr : List (List Str)} (h : R[i]? = some (a, rr) := by rfl) : a ≠ p := (s.r _ (List.mem_of_getElem? h)).1
theorem LR.of (s : LS K CF C p t l fa fo th rs lf lt T ys ds H0 G Q H n) : LR K CF C p t l fa fo th rs lf lt T ys ds H0 [] G Q H n := ⟨s, fun _ h => (by cases h)⟩
end
end My

namespace L2
open PySem PySem.Spec PyProof.Rows
section
variable {P : Program} {w : World} {K : PySem.W.Frag} {mg : Str → Option Value} {base : Heap} {x qual : Str} {params : Arguments} {body : List Stmt} {scope : Scope} {dvs : List V} {kws : List (Str × V)} {f : Addr} {fd : FuncData}
/-- a def's rule, its code object known -/
theorem FunD.okC {CX : CXT} {N ps : List Str} {k : Nat} {sp : Sp} (F : FunD K x qual params body scope dvs kws f fd) (S : FnScope N ps scope) (len : ∀ vs H Q E, sp vs H Q E → vs.length = ps.length)
    (hbody : ∀ (cdv : Value) (A : Around) (outer : List Env) (s : Shared) (H : Hp) (vs : List V) (Q : VK) (E : XK), fd.code = cdv → Room k (A.deeper (envOfC qual scope s.heap.objs.size f cdv)) → sp vs H Q E →
      ∃ t, PSs (cxOf CX P w K mg base N qual scope f cdv A outer s H E) body t ∧ t { nx := fun _ H' => Q .non H', rt := Q } (start N vs) H) : FnOk P w K mg base CX (k + 1) f fd ps sp := by
  obtain ⟨oc, od, dV, kV, doc, pm, an, cdv, ct, osl, rfl, lk, hcd, _, _⟩ := F.ex
  exact fn_of lk hcd S len fun A outer s H vs Q E hr hsp => hbody cdv A outer s H vs Q E rfl hr hsp
end
end L2
namespace My
open PySem PySem.Spec PyProof.Rows L2 LamX
/-! ### what is unlike -/
def TUnl (CUn : Addr) : (XK → Hp → VK → Prop) → Hp → VK → Prop := fun tl H Q => tl (fun cls _ H' => cls = .ref CUn ∧ Q (.bl true) H') H (fun _ H' => Q (.bl false) H')
structure UnlR (K : PySem.W.Frag) (mg : Str → Option Value) (CUn : Addr) : Prop where
  g : mg "UnlikeHouses" = some (.ref CUn)
  uu : PySem.W.exmOne K (.ref CUn) (.ref CUn) = some true
theorem unl_gives {X : Cx} {g CUn : Addr} {cdg : Value} {q : Str} (R : UnlR X.K X.mg CUn) :
    GivesTo X nm__law_unlike "_law_unlike" (defScope s__law_unlike) g cdg (defBody s__law_unlike) "_law_ask" q (TUnl CUn) := by
  intro f c' s H Q tl act hc h
  refine ⟨_, pss_cons (ps_try_all (X := (cxOf C8.CX0 X.prog X.w X.K X.mg X.base nm__law_unlike "_law_unlike" (defScope s__law_unlike) g cdg X.A X.stack s H C8.E0).nox)
      (tb := fun W D σ H => ∃ Ech : XK, (∀ cls d σ' H', Ech cls d H' → W cls d σ' H') ∧ tDrop (fun σ H Q => σ[0]? = some (some (.ref f)) ∧ H c' = some (CodeO c' q) ∧ tl Ech H Q) D σ H)
      rfl rfl sc__law_unlike.nd L2.takes0 (fun W pn xe tk _ => ?_)
      (.bare ⟨rfl, by decide, .inl R.g⟩ (fun a oe cls d pn hz hf => pss_one (ps_ret pe_bl)) .nil)) (pss_one (ps_ret pe_bl)), ?_⟩
  · refine ⟨fun pins s' σ H' D I h' => ?_⟩
    obtain ⟨Ech, hW, h1⟩ := h'
    exact (pss_one (ps_expr (act W pn xe Ech _ _ tk hW))).run pins s' σ H' D I h1
  · refine ⟨_, fun cls d σ' H' hE => ?_, rfl, hc, h⟩
    obtain ⟨rfl, hq⟩ := hE
    exact ⟨true, R.uu, fun _ a na => hq, fun z => nomatch z⟩
theorem pe_askUn {X : Cx} {g CUn : Addr} {fd : FuncData} {k i : Nat} {pins : List (Addr × Obj)} {σ : L2.St} {sb : Shared} {Hb : Hp} {fp : List Addr} {bsc : Scope} {cl : List (Str × Addr)} {C0 : Addr} {an : Str} {p pa pos : Pos} (R : UnlR X.K X.mg CUn) (Fn : FnP X.K "_law_unlike" s__law_unlike g fd) (hm : X.mg "_law_unlike" = some (.ref g)) (b : Binds X.K fd ["_law_ask"] []) (hr : Room (k + 2) X.A)
    (B : Beg X pins σ sb Hb fp) (hN : X.N[i]? = some an) (hv : Vis (compEnvC bsc cl C0 X.env).scope an) (hg : Gl (X.blk sb Hb bsc (compEnvC bsc cl C0 X.env) fp) "_law_unlike") (hst : starEach [.Name an pa] (compEnvC bsc cl C0 X.env) = (false, eval (.Name an pa) (compEnvC bsc cl C0 X.env)) :: starEach [] (compEnvC bsc cl C0 X.env) := by rfl)
    (hd2 : (an == ("__debug__" : Str)) = false := by decide) (hcd2 : (an == ("__classdict__" : Str)) = false := by decide) :
    PE (X.blk sb Hb bsc (compEnvC bsc cl C0 X.env) fp) (.Call (.Name "_law_unlike" p) [.Name an pa] [] pos) (tAskL X k i (TUnl CUn) σ) := by
  obtain ⟨oc, od, dV, kV, doc, pm, ann, cdv, ct, osl, rfl, lk, hcd, _, _⟩ := Fn.ex
  exact pe_askZ (X := X) rfl rfl rfl rfl rfl (clo_blk B) hg hm Fn.kp lk hcd b sc__law_unlike rfl (.inl rfl) (unl_gives R) hr hN hv hst (by decide) (by decide) (by decide) hd2 hcd2
theorem _root_.LamX.LamT.butL {X : Cx} {k : Nat} {t : XK → TE} {H H' : Hp} {f p : Addr} {xs : List V} (h : LamT X k t H f) (b : But H H' p) (hp : H p = some (.lst xs)) : LamT X k t H' f := by
  obtain ⟨pr, bd, sc, ⟨pm, ctv, c', h1, h2⟩, h3⟩ := h
  refine ⟨pr, bd, sc, ⟨pm, ctv, c', b _ _ (ne_of h1 hp fun z => nomatch z) h1, b _ _ (fun e => ?_) h2⟩, h3⟩
  rw [e, hp] at h2
  unfold CodeO at h2
  cases h2
theorem fir_congr {p q : List Str → Bool} {more : List (List Str)} (h : ∀ r, r ∈ more → p r = q r) : firI p more = firI q more := by
  unfold firI
  have e : more.findIdx? p = more.findIdx? q := by
    induction more with
    | nil => rfl
    | cons r rs ih =>
      rw [List.findIdx?_cons, List.findIdx?_cons, h r List.mem_cons_self, ih fun x hx => h x (List.mem_cons_of_mem _ hx)]
  rw [e]
theorem fir_non {p : List Str → Bool} {more : List (List Str)} : decide (firI p more = .non) = more.all fun r => !p r := by
  unfold firI
  cases c : more.findIdx? p with
  | none =>
    rw [List.findIdx?_eq_none_iff] at c
    exact (List.all_eq_true.mpr fun r hr => by rw [c r hr]; rfl).symm
  | some i =>
    obtain ⟨hi, hp, _⟩ := List.findIdx?_eq_some_iff_getElem.mp c
    have : (more.all fun r => !p r) = false := List.all_eq_false.mpr ⟨more[i], List.getElem_mem hi, by rw [hp]; decide⟩
    rw [this]
    rfl
theorem notB_any {fo th : List Str} {rs : List (List Str)} {r : List Str} (nd : (fo ++ th).Nodup) (len : (fo ++ th).length ≤ 8) (tr : TR fo th rs) (rnd : rs.Nodup) (hr : ∃ w a b, r = [w, a, b] ∧ IsF fo th w a b) : notB fo th rs r = (fitL fo (fo ++ th) rs).any fun d => !holdsR d r := by
  obtain ⟨w, a, b, rfl, isf⟩ := hr
  have e1 := fits_add (ss := agF fo th w a b) nd len tr.fact (ag_fact nd isf)
  rw [show onceR (rs.map (toldR (fo ++ th))) = rs by rw [tr.told, once_nd rnd]] at e1
  have e2 : (fitL fo (fo ++ th) rs).any (fun d => !holdsR d [w, a, b]) = true ↔ ∃ d, d ∈ fitL fo (fo ++ th) rs ∧ KeepsE (look d) (agF fo th w a b) := by
    rw [List.any_eq_true]
    constructor
    · rintro ⟨d, hd, h⟩
      obtain ⟨ok, v, _⟩ := fit_val nd len tr.fact hd
      have := ok.len
      refine ⟨d, hd, (ag_keeps nd isf v).mpr fun k => ?_⟩
      have c : holdsR d [w, a, b] = true := (holds_iff ok.ok ok.irr (by omega) isf.1).mpr k
      rw [c] at h
      cases h
    · rintro ⟨d, hd, k⟩
      obtain ⟨ok, v, _⟩ := fit_val nd len tr.fact hd
      have := ok.len
      refine ⟨d, hd, ?_⟩
      cases c : holdsR d [w, a, b] with
      | false => rfl
      | true => exact absurd ((holds_iff ok.ok ok.irr (by omega) isf.1).mp c) ((ag_keeps nd isf v).mp k)
  unfold notB
  rw [show agR fo th [w, a, b] = agF fo th w a b from rfl]
  cases c : fitB fo (fo ++ th) (addR (fo ++ th) rs (agF fo th w a b)) with
  | true => exact (e2.mpr (e1.mp c)).symm
  | false =>
    cases d : (fitL fo (fo ++ th) rs).any (fun d => !holdsR d [w, a, b]) with
    | false => rfl
    | true => rw [e1.mpr (e2.mp d)] at c; cases c
theorem fol_self {fo th : List Str} {rs : List (List Str)} (nd : (fo ++ th).Nodup) (len : (fo ++ th).length ≤ 8) (tr : TR fo th rs) (rnd : rs.Nodup) : folB fo th rs rs = true := List.all_eq_true.mpr fun r hr => by
  rw [notB_any nd len tr rnd (tr.fact r hr)]
  have : ((fitL fo (fo ++ th) rs).any fun d => !holdsR d r) = false := List.any_eq_false.mpr fun d hd => by
    have := List.all_eq_true.mp (List.mem_filter.mp hd).2 r hr
    rw [this]
    decide
  rw [this]
  rfl
theorem and_pure {ta tb : TE} {σ : L2.St} {H : Hp} {Q : VK} {b1 b2 : Bool} (h1 : ∀ Q' : VK, Q' (.bl b1) H → ta σ H Q') (h2 : ∀ Q' : VK, Q' (.bl b2) H → tb σ H Q') (q : Q (.bl (b1 && b2)) H) : tAndV ta tb σ H Q := h1 _ ⟨b1, rfl, by
  cases b1 with
  | true => exact iteT (h2 _ q)
  | false => exact iteF q⟩
abbrev nm_law : List Str := ["_law_script", "_law_turn", "_law_pool_here", "_law_parts", "_law_told_here", "_law_more", "_law_one", "_law_other", "_law_first_here", "_law_second", "_law_found", "_law_strange", "_law_asks", "_law_ask"]
theorem sc_law : FnScope nm_law ["_law_script"] (defScope s_law) := ⟨rfl, rfl, rfl, by decide +kernel, rfl, by decide +kernel, by decide +kernel⟩
abbrev qLam : Str := (envOfC "law" (defScope s_law) 0 0 .none).qual ++ "<lambda>"
def spLaw (K : PySem.W.Frag) (Pt : Addr) : Sp := fun vs H Q _ => ∃ (a : Addr) (ns : List Int), vs = [.ref a] ∧ SqL K H a (ns.map V.int) ∧ Tabs [(Pt, qLam)] H ∧ ∀ H', Q (.bl true) H'
section
variable {P : Program} {w : World} {K : PySem.W.Frag} {mg : Str → Option Value} {base : Heap} {f C CB CF CE CT CUn c Pt fR : Addr} {fd fdR : FuncData}
theorem ok_law (Fn : FnP K "law" s_law f fd) (hc : fd.code = .ref c) (TB : TabB base mg c Pt) (R : UnlR K mg CUn) (Fr : FnP K "_law_unlike" s__law_unlike fR fdR) (hmr : mg "_law_unlike" = some (.ref fR)) (br : Binds K fdR ["_law_ask"] []) (F : FacTxt P w K mg CF C CE)
    (h_law_cell : Has P w K mg base 1 "_law_cell" ["_law_script", "_law_k"] (spCell1 K)) (h_law_pool : Has P w K mg base 1 "_law_pool" ["_law_cell_here"] spPool)
    (h_law_small : Has P w K mg base 4 "_law_small" ["_law_pool_here"] (spSmall K)) (h_law_drawn_facts : Has P w K mg base 4 "_law_drawn_facts" ["_law_pool_here", "_law_parts", "_law_most"] (spDrawnFacts K)) (h_law_told : Has P w K mg base 1 "_law_told" ["_law_parts", "_law_facts_here"] (spLTold K))
    (h_law_others : Has P w K mg base 5 "_law_others" ["_law_pool_here", "_law_parts", "_law_told_here"] (spOthers K)) (h_law_facts : Has P w K mg base 9 "_law_facts" ["_law_pool_here", "_law_parts", "_law_told_here"] (spFactsL K CF C)) (h_law_fitting : Has P w K mg base 4 "_law_fitting" ["_law_parts", "_law_told_here"] (spFitting K))
    (h_law_first : Has P w K mg base 3 "_law_first" ["_law_parts", "_law_trees", "_law_more"] (spFirst K)) (h_law_parted_right : Has P w K mg base 9 "_law_parted_right" ["_law_parts", "_law_told_here", "_law_more", "_law_found", "_law_due"] (spPartedR K CT C)) (h_law_strange_house : Has P w K mg base 6 "_law_strange_house" ["_law_pool_here", "_law_parts"] (spStrange K C))
    (hfollows : HasX P w K mg base 11 "follows" ["facts", "more"] (spFollows K CF C CUn)) (halike : HasX P w K mg base 12 "alike" ["one", "other"] (spAlike K CF C CUn)) (hparted : HasX P w K mg base 10 "parted" ["facts", "more"] (spParted K CF C CT CUn))
    (gB_range : mg "range" = none) (gB_all : mg "all" = none) : FnOk P w K mg base CX0 16 f fd ["_law_script"] (spLaw K Pt) := by
  have hmT : (Pt, qLam) ∈ [(Pt, qLam)] := List.mem_singleton.mpr rfl
  have hu : ∀ p ∈ [(Pt, qLam)], p.1 = Pt → p.2 = qLam := fun p hp _ => by rw [List.mem_singleton.mp hp]
  refine Fn.okC sc_law (fun vs H Q E h => ?_) (fun cdv A outer s H vs Q E hcd hr h => ⟨_, PSs.nox
    (pss_cons (ps_for PassesOwn.never rfl (pi_range1 (by rfl) gB_range (pa_cons pe_int pa_nil)) (pg_name (i := 1) sc_law.nd rfl (Or.inl rfl))
      (pss_cons (ps_set (i := 2) sc_law.nd rfl (Or.inl rfl) (pe_has h_law_pool (hr.mono (by decide)) (pa_cons (pe_op op_add (pe_has h_law_cell (hr.mono (by decide)) (pa_cons (pv 0) (pa_cons (pv 1) pa_nil))) (pv 1)) pa_nil)))
      (pss_cons (ps_set (i := 3) sc_law.nd rfl (Or.inl rfl) (pe_has h_law_small (hr.mono (by decide)) (pa_cons (pv 2) pa_nil)))
      (pss_cons (ps_set (i := 4) sc_law.nd rfl (Or.inl rfl) (pe_has h_law_told (hr.mono (by decide)) (pa_cons (pv 3) (pa_cons (pe_has h_law_drawn_facts (hr.mono (by decide)) (pa_cons (pv 2) (pa_cons (pv 3) (pa_cons pe_int pa_nil)))) pa_nil))))
      (pss_cons (ps_set (i := 5) sc_law.nd rfl (Or.inl rfl) (pe_has h_law_others (hr.mono (by decide)) (pa_cons (pv 2) (pa_cons (pv 3) (pa_cons (pv 4) pa_nil)))))
      (pss_cons (ps_asg (pe_tup (pa_cons (pe_has h_law_facts (hr.mono (by decide)) (pa_cons (pv 2) (pa_cons (pv 3) (pa_cons (pv 4) pa_nil)))) (pa_cons (pe_has h_law_facts (hr.mono (by decide)) (pa_cons (pv 2) (pa_cons (pv 3) (pa_cons (pv 5) pa_nil)))) pa_nil))) (pg_tup rfl (pgs_cons (pg_name (i := 6) sc_law.nd rfl (Or.inr rfl)) (pgs_cons (pg_name (i := 7) sc_law.nd rfl (Or.inl rfl)) pgs_nil))))
      (pss_cons (ps_set (i := 8) sc_law.nd rfl (Or.inl rfl) (pe_has h_law_first (hr.mono (by decide)) (pa_cons (pv 3) (pa_cons (pe_has h_law_fitting (hr.mono (by decide)) (pa_cons (pv 3) (pa_cons (pv 4) pa_nil))) (pa_cons (pv 5) pa_nil)))))
      (pss_cons (ps_set (i := 9) sc_law.nd rfl (Or.inl rfl) (pe_has h_law_first (hr.mono (by decide)) (pa_cons (pv 3) (pa_cons (pe_has h_law_fitting (hr.mono (by decide)) (pa_cons (pv 3) (pa_cons (pv 5) pa_nil))) (pa_cons (pv 4) pa_nil)))))
      (pss_cons (ps_set (i := 10) sc_law.nd rfl (Or.inl rfl) (pe_lst (pa_cons (pe_hasX hfollows (hr.mono (by decide)) (pa_cons (pv 6) (pa_cons (pv 7) pa_nil)) passL) (pa_cons (pe_hasX hfollows (hr.mono (by decide)) (pa_cons (pv 7) (pa_cons (pv 6) pa_nil)) passL) (pa_cons (pe_hasX halike (hr.mono (by decide)) (pa_cons (pv 6) (pa_cons (pv 7) pa_nil)) passL) (pa_cons (pe_hasX halike (hr.mono (by decide)) (pa_cons (pv 7) (pa_cons (pv 7) pa_nil)) passL) pa_nil))))))
      (pss_cons (ps_if (pt_cmpR (op_neD hr.units) (pv 10) (pe_lst (pa_cons (pe_cmpR op_isN (pv 8) pe_non (nomark _)) (pa_cons (pe_cmpR op_isN (pv 9) pe_non (nomark _)) (pa_cons (pe_and (pe_cmpR op_isN (pv 8) pe_non (nomark _)) (pe_one (pe_cmpR op_isN (pv 9) pe_non (nomark _)))) (pa_cons pe_bl pa_nil))))) (nomark _)) (pss_one (ps_ret pe_bl)) pss_nil)
      (pss_cons (ps_if (pt_not (pt_val (pe_has h_law_parted_right (hr.mono (by decide)) (pa_cons (pv 3) (pa_cons (pv 4) (pa_cons (pv 5) (pa_cons (pe_hasX hparted (hr.mono (by decide)) (pa_cons (pv 6) (pa_cons (pv 7) pa_nil)) passL) (pa_cons (pv 8) pa_nil)))))))) (pss_one (ps_ret pe_bl)) pss_nil)
      (pss_cons (ps_if (pt_not (pt_val (pe_has h_law_parted_right (hr.mono (by decide)) (pa_cons (pv 3) (pa_cons (pv 5) (pa_cons (pv 4) (pa_cons (pe_hasX hparted (hr.mono (by decide)) (pa_cons (pv 7) (pa_cons (pv 6) pa_nil)) passL) (pa_cons (pv 9) pa_nil)))))))) (pss_one (ps_ret pe_bl)) pss_nil)
      (pss_cons (ps_set (i := 11) sc_law.nd rfl (Or.inr rfl) (pe_make F.M (F.I _) (hr.mono (by decide)) (by rfl) F.gF F.bD F.vD passL (pa_cons (pe_has h_law_strange_house (hr.mono (by decide)) (pa_cons (pv 2) (pa_cons (pv 3) pa_nil))) pa_nil)))
      (pss_cons (ps_set (i := 12) sc_law.nd rfl (Or.inl rfl) (pe_lst (pa_cons (pe_lamF hmT hu TB (hcd.symm.trans hc) (by show lamPB nm_law (defScope s_law) _ [] = true; decide +kernel)) pa_nil)))
      (pss_cons (ps_expr (pe_bm PySem.F.plainAttrs_list PySem.F.slot_list_append PySem.F.type_list_append mt_append (pv 12) (pa_cons (pe_lamF hmT hu TB (hcd.symm.trans hc) (by show lamPB nm_law (defScope s_law) _ [] = true; decide +kernel)) pa_nil)))
      (pss_cons (ps_expr (pe_bm PySem.F.plainAttrs_list PySem.F.slot_list_append PySem.F.type_list_append mt_append (pv 12) (pa_cons (pe_lamF hmT hu TB (hcd.symm.trans hc) (by show lamPB nm_law (defScope s_law) _ [] = true; decide +kernel)) pa_nil)))
      (pss_one (ps_if (pt_not (pt_val (pe_callB (cr_all rfl) (by rfl) gB_all boot_all (pa_cons (pe_lcG (own := [("_law_ask", 13)]) (g := (gName 13)) (tt := fun _ => tYes) rfl sc_law.nd (pi_list (pv 12)) (blkOk_by (N := nm_law) (sc := defScope s_law) (by decide +kernel)) (fun _ _ _ _ _ _ _ B => ⟨(pg_name (i := 13) sc_law.nd rfl (Or.inl rfl)), pts_nil, pe_askUn (i := 13) (k := 13) R Fr hmr br hr B rfl (.inl rfl) rfl⟩)) pa_nil)))) (pss_one (ps_ret pe_bl)) pss_nil))))))))))))))))))
      (pss_one (ps_ret pe_bl))), ?_⟩)
  · obtain ⟨a, ns, rfl, _⟩ := h
    rfl
  · obtain ⟨as, ns, rfl, hsc, tb0, q⟩ := h
    have lm : ∀ zs : List Str, (zs.map V.str).length = zs.length := fun zs => List.length_map _
    refine ⟨4, rfl, by decide, by decide, for_range (lo := 0) (n := 4) (fun _ σ H' => (∃ v1 v2 v3 v4 v5 v6 v7 v8 v9 va vb vc : Option V, σ = [some (.ref as), v1, v2, v3, v4, v5, v6, v7, v8, v9, va, vb, vc, none]) ∧ ExtN H H' ∧ Tabs [(Pt, qLam)] H') ⟨⟨_, _, _, _, _, _, _, _, _, _, _, _, rfl⟩, ExtN.refl H, tb0⟩ ?_ fun σ H' _ => q H'⟩
    rintro k σ H0 hk ⟨⟨v1, v2, v3, v4, v5, v6, v7, v8, v9, va, vb, vc, rfl⟩, x0, t0⟩
    refine ⟨_, rfl, _, rfl, as, ns, k, by rw [Int.zero_add]; rfl, sqL_extN hsc x0, fun i0 => ⟨_, rfl, _, _, rfl, rfl, _, rfl, fun p H1 hp hH1 => ?_⟩⟩
    obtain ⟨pa, pb, pa0, pb0, pb1, rfl⟩ := hH1
    obtain ⟨H1, hH1⟩ : ∃ H1, H1 = L2.upd H0 p (.lst [.int pa, .int pb, .int 0]) := ⟨_, rfl⟩
    rw [← hH1]
    have pool1 : Pool H1 p 0 := ⟨pa, pb, 0, by rw [hH1, upd_same], pa0, pb0, pb1, Int.le_refl _, Int.le_refl _⟩
    have x1 : Ext H0 H1 := by
      rw [hH1]
      exact Ext.upd hp
    clear hH1
    refine ⟨_, rfl, p, 0, rfl, pool1, by decide, fun t lf lt fo th H2 b2 p2 st2 hf2 ht2 nfp ntp nst f1 f4 len5 => ?_⟩
    have nd := nst.1
    have nok := nst.ok
    have oks : OkS (fo ++ th) := fun z hz => (nok.2 z hz).2.1
    have fne : fo ≠ [] := fun e => by
      subst e
      exact absurd f1 (by decide)
    have t8 : th.length ≤ 8 := by
      rw [List.length_append] at len5
      omega
    refine ⟨_, rfl, _, rfl, _, rfl, p, t, lf, lt, fo, th, 8, 50, rfl, st2, hf2, ht2, nfp, ntp, nd, f1, by omega, t8, by decide, p2, by decide, fun l0 xs0 rs0 H3 b3 p3 l00 hl3 rw3 fr0 rl0 => ?_⟩
    have nlp : l0 ≠ p := pool_ne p2 l00
    have st3 := sqT_p st2 p2 b3
    have hf3 := b3 _ _ nfp hf2
    have ht3 := b3 _ _ ntp ht2
    refine ⟨t, l0, fo, th, rs0, rfl, ⟨lf, lt, st3, hf3, ht3⟩, nd, by omega, oks, ⟨xs0, hl3, rw3⟩, fr0, by omega, fun l H4 x4 rat => ?_⟩
    obtain ⟨rs, hrs⟩ : ∃ rs, rs = onceR (rs0.map (toldR (fo ++ th))) := ⟨_, rfl⟩
    rw [← hrs] at rat
    have tr : TR fo th rs := by rw [hrs]; exact (told_TR nd fr0).once
    have rnd : rs.Nodup := by rw [hrs]; exact once_nodup' _ [] List.nodup_nil
    have rl : rs.length ≤ 8 := by
      rw [hrs]
      have := once_len (rs0.map (toldR (fo ++ th))) []
      rw [List.length_map, List.length_nil, Nat.zero_add] at this
      exact Nat.le_trans this rl0
    clear hrs
    have p4 := pool_ext p3 x4
    obtain ⟨xs, hl4, rw4⟩ := rat
    have nlp : l ≠ p := fun e => by
      obtain ⟨a1, a2, a3, e1, _⟩ := p4
      rw [e, e1] at hl4
      injection hl4 with hl4
      injection hl4 with hl4
      rw [← hl4] at rw4
      cases rs with
      | nil => exact rw4.elim
      | cons r rs =>
        obtain ⟨⟨u, eu, _⟩, _⟩ := rw4
        cases eu
    have xlen := rw4.len
    have tid : onceR (rs.map (toldR (fo ++ th))) = rs := by rw [tr.told, once_nd rnd]
    have lm : ∀ zs : List Str, (zs.map V.str).length = zs.length := fun zs => List.length_map _
    have st4 := st3.ext x4
    have hf4 := x4 _ _ hf3
    have ht4 := x4 _ _ ht3
    have b14 := (b2.trans b3).ext x4
    clear st3 hf3 ht3 hl3 rw3 st2 hf2 ht2 b2 b3 p2 p3 x4 fr0 rl0 l00
    refine ⟨_, rfl, _, rfl, _, rfl, p, t, l, lf, lt, fo, th, xs, rs, 350, rfl, st4, hf4, ht4, nfp, ntp, nd, oks, f1, by omega, t8, hl4, nlp, rw4, tr.fact, by omega, p4, by decide, fun m more H5 b5 p5 nmp ratm trm mnd ml => ?_⟩
    obtain ⟨y4, hy4⟩ := p4.lst
    have st5 := sqT_p st4 p4 b5
    have hf5 := b5 _ _ nfp hf4
    have ht5 := b5 _ _ ntp ht4
    have hl5 := b5 _ _ nlp hl4
    have rw5 := rw4.butL hy4 b5
    obtain ⟨xm, hm5, rwm5⟩ := ratm
    have xml := rwm5.len
    have midE : onceR (more.map (toldR (fo ++ th))) = more := by rw [trm.told, once_nd mnd]
    refine ⟨_, rfl, _, rfl, _, rfl, p, t, l, fo, th, xs, rs, 750, rfl, ⟨lf, lt, st5, hf5, ht5⟩, nok, fne, by omega, hl5, rw5, tr.fact, nlp, by omega, p5, by decide, fun fa H6 b6 p6 fac6 => ?_⟩
    obtain ⟨y5, hy5⟩ := p5.lst
    have st6 := sqT_p st5 p5 b6
    have hf6 := b6 _ _ nfp hf5
    have ht6 := b6 _ _ ntp ht5
    refine ⟨_, rfl, _, rfl, _, rfl, p, t, m, fo, th, xm, more, 800, rfl, ⟨lf, lt, st6, hf6, ht6⟩, nok, fne, by omega, b6 _ _ nmp hm5, rwm5.butL hy5 b6, trm.fact, nmp, by omega, p6, by decide, fun fb H7 b7 p7 fac7 => ⟨Nat.le_of_ble_eq_true rfl, fun tp htp => ?_⟩⟩
    rw [tid] at fac6
    rw [midE] at fac7
    obtain ⟨y6, hy6⟩ := p6.lst
    have b17 := (b14.trans b5).trans (b6.trans b7)
    have S7 : LR K CF C p t l fa fo th rs lf lt [(Pt, qLam)] [] [] H0 [(m, more)] [] [] H7 850 := by
      obtain ⟨y1, e1⟩ := pool1.lst
      have b57 := b6.trans b7
      refine ⟨⟨⟨sqT_p st6 p6 b7, b7 _ _ nfp hf6, b7 _ _ ntp ht6, nfp, ntp, nlp, ⟨xs, b57 _ _ nlp hl5, rw5.butL hy5 b57⟩, ?_⟩, hp, fun c u h ht => b17 c u (ne_of_none h hp) (x1 _ _ h), p7, tabs_but (t0.ext x1) b17 e1, True.intro, fun _ h => (by cases h), fun _ h => (by cases h)⟩, fun q hq => ?_⟩
      · rw [tid]
        exact fac6.butL hy6 b7
      · rw [List.mem_singleton.mp hq]
        exact ⟨nmp, xm, b57 _ _ nmp hm5, rwm5.butL hy5 b57⟩
    obtain ⟨H8, hH8⟩ : ∃ H8, H8 = L2.upd H7 tp (.tup [.ref fa, .ref fb]) := ⟨_, rfl⟩
    have xH8 : Ext H7 H8 := by
      rw [hH8]
      exact Ext.upd htp
    have nH8 : H8 tp = some (.tup [.ref fa, .ref fb]) := by rw [hH8, upd_same]
    rw [← hH8]
    clear hH8
    have S := S7.ext xH8
    have facB := fac7.ext xH8
    refine ⟨tp, _, rfl, SqT.of nH8, rfl, _, _, rfl, _, _, rfl, rfl, ?_⟩
    clear S7 fac6 fac7 st4 hf4 ht4 hl4 rw4 st5 hf5 ht5 hl5 rw5 st6 hf6 ht6 hm5 rwm5 b5 b6 b7 b14 b17 p4 p5 p6 p7 xH8 nH8 pool1 x1 htp hy4 hy5 hy6
    have l8 : (fo ++ th).length ≤ 8 := by omega
    have aokA : AskOk fo th rs 300 := ⟨nd, by omega, oks, tr, by omega⟩
    have aokB : AskOk fo th more 300 := ⟨nd, by omega, oks, trm, by omega⟩
    have okd : ∀ ss : List (List Str), FactR fo th ss → ∀ d, d ∈ fitL fo (fo ++ th) ss → DicOk fo d := fun ss fs d hd => (fit_val nd l8 fs hd).1.ok
    have dl : ∀ ss : List (List Str), (fitL fo (fo ++ th) ss).length ≤ 1000000 := fun ss => by
      have h1 := all_len fo (fo ++ th) [[]]
      have h2 : (fo.length + 1) ^ (fo ++ th).length ≤ 5 ^ 7 := Nat.le_trans (Nat.pow_le_pow_left (by omega) _) (Nat.pow_le_pow_right (by decide) (by omega))
      have h3 : (fitL fo (fo ++ th) ss).length ≤ (allT fo (fo ++ th)).length := List.length_filter_le _ _
      unfold allT at h3
      simp only [List.length_singleton, Nat.mul_one] at h1
      exact Nat.le_trans h3 (Nat.le_trans h1 (Nat.le_trans h2 (by decide)))
    -- the first one that some tree does not keep
    refine ⟨_, rfl, _, rfl, _, rfl, t, l, fo, th, rs, rfl, S.law.pr, nd, oks, f4, by omega, S.law.rat, tr.fact, by omega, fun u1 ys1 H9 x9 _ hu1 trs1 => ⟨_, rfl, ?_⟩⟩
    replace S := S.ext x9
    replace facB := facB.ext x9
    refine ⟨t, u1, m, fo, th, ys1, _, more, rfl, hu1, trs1, okd rs tr.fact, dl rs, S.rw 0, trm.fact, by omega, fun HA xA => ?_⟩
    rw [fir_congr fun r hr => (notB_any nd l8 tr rnd (trm.fact r hr)).symm]
    replace S := S.ext xA
    replace facB := facB.ext xA
    clear x9 hu1 trs1 xA
    refine ⟨_, rfl, _, rfl, _, rfl, t, m, fo, th, more, rfl, S.law.pr, nd, oks, f4, by omega, S.rw 0, trm.fact, by omega, fun u2 ys2 HB xB _ hu2 trs2 => ⟨_, rfl, ?_⟩⟩
    replace S := S.ext xB
    replace facB := facB.ext xB
    refine ⟨t, u2, l, fo, th, ys2, _, rs, rfl, hu2, trs2, okd more trm.fact, dl more, S.law.rat, tr.fact, by omega, fun HC xC => ?_⟩
    rw [fir_congr fun r hr => (notB_any nd l8 trm mnd (tr.fact r hr)).symm]
    replace S := S.ext xC
    replace facB := facB.ext xC
    clear xB hu2 trs2 xC
    have facA : FacAt HC K CF C fa fo th rs := by
      have := S.law.fac
      rwa [tid] at this
    -- the four answers
    refine ⟨_, rfl, _, rfl, fa, fb, fo, th, fo, th, rs, more, rfl, facA, aokA, facB, .inr ⟨rfl, rfl, trm, by omega, fun HD xD => ?_⟩⟩
    refine ⟨_, rfl, _, rfl, fb, fa, fo, th, fo, th, more, rs, rfl, facB.ext xD, aokB, facA.ext xD, .inr ⟨rfl, rfl, tr, by omega, fun HE xE => ?_⟩⟩
    have xCE := xD.trans xE
    refine ⟨_, rfl, _, rfl, fa, fb, fo, th, fo, th, rs, more, rfl, facA.ext xCE, aokA, facB.ext xCE, .inr ⟨rfl, rfl, aokB, fun HF xF => ?_⟩⟩
    have xCF := xCE.trans xF
    refine ⟨_, rfl, _, rfl, fb, fb, fo, th, fo, th, more, more, rfl, facB.ext xCF, aokB, facB.ext xCF, .inr ⟨rfl, rfl, aokB, fun HG xG => ⟨Nat.le_of_ble_eq_true rfl, fun g hg => ?_⟩⟩⟩
    have xCG := xCF.trans xG
    have e0 : folB fo th more more = true := fol_self nd l8 trm mnd
    obtain ⟨HH, hHH⟩ : ∃ HH, HH = L2.upd HG g (.lst [.bl (more.all fun r => !notB fo th rs r), .bl (rs.all fun r => !notB fo th more r), .bl (folB fo th rs more && folB fo th more rs), .bl (folB fo th more more && folB fo th more more)]) := ⟨_, rfl⟩
    have xHH : Ext HG HH := by
      rw [hHH]
      exact Ext.upd hg
    have nHH : HH g = some (.lst [.bl (more.all fun r => !notB fo th rs r), .bl (rs.all fun r => !notB fo th more r), .bl (folB fo th rs more && folB fo th more rs), .bl (folB fo th more more && folB fo th more more)]) := by rw [hHH, upd_same]
    rw [← hHH]
    clear hHH
    have xCH := xCG.trans xHH
    refine ⟨_, rfl, _, rfl, rfl, _, rfl, rfl, ?_⟩
    refine and_pure (b1 := decide (firI (notB fo th rs) more = .non)) (b2 := decide (firI (notB fo th more) rs = .non)) (fun Q' q' => ⟨_, rfl, rfl, q'⟩) (fun Q' q' => ⟨_, rfl, rfl, q'⟩) ?_
    refine ⟨Nat.le_of_ble_eq_true rfl, fun g2 hg2 => ?_⟩
    have f1 : decide (firI (notB fo th rs) more = .non) = more.all fun r => !notB fo th rs r := fir_non
    have f2 : decide (firI (notB fo th more) rs = .non) = rs.all fun r => !notB fo th more r := fir_non
    rw [f1, f2]
    rw [e0] at nHH
    unfold folB at nHH
    have eqn : ∀ zs, SeqAt.shaped (.list zs) = true → (!PyData.eqv (.list zs) (.list zs)) = false := fun zs h => by rw [SeqAt.eqv_refl _ (SeqAt.canLay_of_shaped h)]; rfl
    have shB : ∀ a b c d : Bool, SeqAt.shaped (.list [.bool a, .bool b, .bool c, .bool d]) = true := by decide +kernel
    obtain ⟨HI, hHI⟩ : ∃ HI, HI = L2.upd HH g2 (.lst [.bl (more.all fun r => !notB fo th rs r), .bl (rs.all fun r => !notB fo th more r), .bl ((more.all fun r => !notB fo th rs r) && rs.all fun r => !notB fo th more r), .bl true]) := ⟨_, rfl⟩
    have xHI : Ext HH HI := by
      rw [hHI]
      exact Ext.upd hg2
    have nHI : HI g2 = some (.lst [.bl (more.all fun r => !notB fo th rs r), .bl (rs.all fun r => !notB fo th more r), .bl ((more.all fun r => !notB fo th rs r) && rs.all fun r => !notB fo th more r), .bl true]) := by rw [hHI, upd_same]
    rw [← hHI]
    clear hHI
    refine ⟨.list [.bool _, .bool _, .bool _, .bool _], .list [.bool _, .bool _, .bool _, .bool _], .lst (SqL.of (xHI _ _ nHH)) (.cons (.bl _) (.cons (.bl _) (.cons (.bl _) (.cons (.bl _) .nil)))), .lst (SqL.of nHI) (.cons (.bl _) (.cons (.bl _) (.cons (.bl _) (.cons (.bl _) .nil)))), shB _ _ _ _, shB _ _ _ _, _, rfl, iteF' (eqn _ (shB _ _ _ _)) ?_⟩
    have xCI := xCH.trans xHI
    replace S := S.ext xCI
    replace facA := facA.ext xCI
    replace facB := facB.ext xCI
    clear xCI xCH xCG xCF xCE xD xE xF xG xHH xHI nHH nHI hg hg2 shB
    -- what is parted
    refine ⟨_, rfl, _, rfl, _, rfl, _, rfl, _, rfl, fa, fb, fo, th, fo, th, rs, more, rfl, facA, aokA, facB, .inr ⟨rfl, rfl, trm, by omega, fun v HJ xJ pv => ⟨_, rfl, ?_⟩⟩⟩
    replace S := S.ext xJ
    replace facA := facA.ext xJ
    replace facB := facB.ext xJ
    refine ⟨t, l, m, fo, th, rs, more, v, rfl, S.law.pr, nok, fne, l8, S.law.rat, tr, rnd, by omega, S.rw 0, trm.fact, by omega, pv, fun HK xK => ⟨_, rfl, iteF' rfl ?_⟩⟩
    replace S := S.ext xK
    replace facA := facA.ext xK
    replace facB := facB.ext xK
    clear xJ xK pv
    refine ⟨_, rfl, _, rfl, _, rfl, _, rfl, _, rfl, fb, fa, fo, th, fo, th, more, rs, rfl, facB, aokB, facA, .inr ⟨rfl, rfl, tr, by omega, fun v HL xL pv => ⟨_, rfl, ?_⟩⟩⟩
    replace S := S.ext xL
    replace facA := facA.ext xL
    replace facB := facB.ext xL
    refine ⟨t, m, l, fo, th, more, rs, v, rfl, S.law.pr, nok, fne, l8, S.rw 0, trm, mnd, by omega, S.law.rat, tr.fact, by omega, pv, fun HM xM => ⟨_, rfl, iteF' rfl ?_⟩⟩
    replace S := S.ext xM
    replace facA := facA.ext xM
    clear xL xM pv facB
    -- a strange house
    refine ⟨_, rfl, _, rfl, p, t, lf, lt, fo, th, 850, rfl, S.law.st, S.law.hf, S.law.ht, nfp, ntp, nst, by omega, l8, S.pl, by decide, fun h fo2 th2 HN bN pN hou k1 k2 k3 k4 => ?_⟩
    obtain ⟨y8, hy8⟩ := S.pl.lst
    replace facA := facA.butL hy8 bN
    replace S := S.but bN pN
    intro x dx hx hdx nx
    have tr0 : TR fo2 th2 [] := fun r hr => by cases hr
    refine mkF hou k1.1 (by rw [sizeLine_eq]; omega) (fun z hz => (k1.2 z hz).2.1) (.inr (F.tD _)) (Rows.raws (xs := []) (rs := []) True.intro) tr0.fact (by decide) hx hdx nx fun HO xO facS => ?_
    have facS : FacAt HO K CF C x fo2 th2 [] := facS
    have aokS : AskOk fo2 th2 [] 300 := ⟨k1.1, by omega, fun z hz => (k1.2 z hz).2.1, tr0, by decide⟩
    replace S := S.ext xO
    replace facA := facA.ext xO
    clear xO hx hdx hou bN pN hy8
    -- the lambdas
    refine ⟨S.tb, fun HP l1 eP tP _ la1 => ?_⟩
    have lt1 := la1.mk (k := 13) (t := fun E => tCall (spFollows K CF C CUn) [] E (tCons (tVar 6) (tCons (tVar 11) tNil))) (by show lamPB nm_law (defScope s_law) _ [] = true; decide +kernel) (fun f c' A outer s H E hr2 => (pe_hasX hfollows (hr2.mono (by decide)) (pa_cons (pv 6) (pa_cons (pv 11) pa_nil)) (passes_call (takes_of rfl rfl rfl rfl) (fun _ _ _ _ h => h))))
    replace S := S.extN eP tP
    replace facA := fac_extN facA eP
    replace facS := fac_extN facS eP
    have nxP := S.nx
    refine ⟨Nat.le_of_ble_eq_true rfl, fun al hal => ?_⟩
    obtain ⟨HQ, hHQ⟩ : ∃ HQ, HQ = L2.upd HP al (.lst [.ref l1]) := ⟨_, rfl⟩
    have xHQ : Ext HP HQ := by
      rw [hHQ]
      exact Ext.upd hal
    have nHQ : HQ al = some (.lst [.ref l1]) := by rw [hHQ, upd_same]
    rw [← hHQ]
    clear hHQ
    have nal : al ≠ p := pool_ne S.pl hal
    replace S := S.ext xHQ
    replace facA := facA.ext xHQ
    replace facS := facS.ext xHQ
    replace lt1 := lt1.ext xHQ
    clear la1 eP tP
    refine ⟨_, rfl, .inl ⟨rfl, _, SqL.of nHQ⟩, S.tb, fun HR l2 eR tR _ la2 => ?_⟩
    have lt2 := la2.mk (k := 13) (t := fun E => tCall (spParted K CF C CT CUn) [] E (tCons (tVar 11) (tCons (tVar 6) tNil))) (by show lamPB nm_law (defScope s_law) _ [] = true; decide +kernel) (fun f c' A outer s H E hr2 => (pe_hasX hparted (hr2.mono (by decide)) (pa_cons (pv 11) (pa_cons (pv 6) pa_nil)) (passes_call (takes_of rfl rfl rfl rfl) (fun _ _ _ _ h => h))))
    have alR := eR _ _ nHQ fun _ z => nomatch z
    replace S := S.extN eR tR
    replace facA := fac_extN facA eR
    replace facS := fac_extN facS eR
    replace lt1 := lt1.extN eR
    refine ⟨al, _, _, rfl, rfl, alR, by rw [sizeLine_eq]; exact Nat.le_of_ble_eq_true rfl, ?_⟩
    have nn : ∀ b o, H0 b = some o → (∀ ps, o ≠ L2.HO.tbl ps) → b ≠ al := fun b o h nt e => by
      have := nxP b o h nt
      rw [e, hal] at this
      cases this
    have nxS : ExtN H0 (L2.upd HR al (.lst ([.ref l1] ++ [.ref l2]))) := fun b o h nt => by
      rw [upd_ne (nn b o h nt)]
      exact S.nx b o h nt
    have buS : But HR (L2.upd HR al (.lst ([.ref l1] ++ [.ref l2]))) al := But.upd (ext_but Ext.rfl')
    have tbS := tabs_but S.tb buS alR
    replace facA := facA.butL alR buS
    replace facS := facS.butL alR buS
    replace lt1 := lt1.butL buS alR
    replace lt2 := lt2.butL buS alR
    obtain ⟨HS, hHS⟩ : ∃ HS, HS = L2.upd HR al (.lst ([.ref l1] ++ [.ref l2])) := ⟨_, rfl⟩
    have alS : HS al = some (.lst [.ref l1, .ref l2]) := by rw [hHS, upd_same]; rfl
    rw [← hHS] at nxS tbS facA facS lt1 lt2 ⊢
    clear hHS buS la2 eR tR alR S
    refine ⟨_, rfl, .inl ⟨rfl, _, SqL.of alS⟩, tbS, fun HT l3 eT tT _ la3 => ?_⟩
    have lt3 := la3.mk (k := 13) (t := fun E => tCall (spAlike K CF C CUn) [] E (tCons (tVar 6) (tCons (tVar 11) tNil))) (by show lamPB nm_law (defScope s_law) _ [] = true; decide +kernel) (fun f c' A outer s H E hr2 => (pe_hasX halike (hr2.mono (by decide)) (pa_cons (pv 6) (pa_cons (pv 11) pa_nil)) (passes_call (takes_of rfl rfl rfl rfl) (fun _ _ _ _ h => h))))
    have alT := eT _ _ alS fun _ z => nomatch z
    replace facA := fac_extN facA eT
    replace facS := fac_extN facS eT
    replace lt1 := lt1.extN eT
    replace lt2 := lt2.extN eT
    refine ⟨al, _, _, rfl, rfl, alT, by rw [sizeLine_eq]; exact Nat.le_of_ble_eq_true rfl, ?_⟩
    have nxU : ExtN H0 (L2.upd HT al (.lst ([.ref l1, .ref l2] ++ [.ref l3]))) := fun b o h nt => by
      rw [upd_ne (nn b o h nt)]
      exact eT b o (nxS b o h nt) nt
    have buU : But HT (L2.upd HT al (.lst ([.ref l1, .ref l2] ++ [.ref l3]))) al := But.upd (ext_but Ext.rfl')
    have tbU := tabs_but tT buU alT
    replace facA := facA.butL alT buU
    replace facS := facS.butL alT buU
    replace lt1 := lt1.butL buU alT
    replace lt2 := lt2.butL buU alT
    replace lt3 := lt3.butL buU alT
    obtain ⟨HU, hHU⟩ : ∃ HU, HU = L2.upd HT al (.lst ([.ref l1, .ref l2] ++ [.ref l3])) := ⟨_, rfl⟩
    have alU : HU al = some (.lst [.ref l1, .ref l2, .ref l3]) := by rw [hHU, upd_same]; rfl
    rw [← hHU] at nxU tbU facA facS lt1 lt2 lt3 ⊢
    clear hHU buU la3 eT tT alT nxS tbS alS
    -- all of them are refused
    refine ⟨_, rfl, al, rfl, ⟨_, SqL.of alU⟩, fun D hD => ?_⟩
    refine lc_list (K := K) (a := al) (xs := [.ref l1, .ref l2, .ref l3]) (fun i H' => Ext HU H' ∧ H' D = some (.lst ((List.replicate i true).map V.bl))) ⟨Ext.upd hD, upd_same⟩ (fun i H' _ z => SqL.of (z.1 _ _ alU)) ?_ ?_
    · rintro i v HV hv ⟨xV, dV⟩
      refine ⟨rfl, lcYes ?_⟩
      have fin : ∀ H', Ext HV H' → ∃ acc, H' D = some (.lst acc) ∧ acc.length < sizeLine ∧ Ext HU (L2.upd H' D (.lst (acc ++ [.bl true]))) ∧ L2.upd H' D (.lst (acc ++ [.bl true])) D = some (.lst ((List.replicate (i + 1) true).map V.bl)) := fun H' x' => by
        have il : i < 3 := (List.getElem?_eq_some_iff.mp hv).1
        refine ⟨_, x' _ _ dV, by rw [List.length_map, List.length_replicate, sizeLine_eq]; omega, (xV.trans x').over hD, ?_⟩
        rw [upd_same, List.replicate_succ', List.map_append]
        rfl
      match i, hv, fin with
      | 0, hv, fin =>
        injection hv with hv
        subst hv
        exact ⟨l1, _, rfl, lt1.ext xV, _, rfl, _, rfl, fa, x, fo, th, fo2, th2, rs, [], rfl, facA.ext xV, aokA, facS.ext xV, .inl ⟨k4, fun H' x' => ⟨rfl, fin H' x'⟩⟩⟩
      | 1, hv, fin =>
        injection hv with hv
        subst hv
        exact ⟨l2, _, rfl, lt2.ext xV, _, rfl, _, rfl, x, fa, fo2, th2, fo, th, [], rs, rfl, facS.ext xV, aokS, facA.ext xV, .inl ⟨fun e => k4 ⟨e.1.symm, e.2.symm⟩, fun H' x' => ⟨rfl, fin H' x'⟩⟩⟩
      | 2, hv, fin =>
        injection hv with hv
        subst hv
        exact ⟨l3, _, rfl, lt3.ext xV, _, rfl, _, rfl, fa, x, fo, th, fo2, th2, rs, [], rfl, facA.ext xV, aokA, facS.ext xV, .inl ⟨k4, fun H' x' => ⟨rfl, fin H' x'⟩⟩⟩
      | i + 3, hv, fin => cases hv
    · rintro HV ⟨xV, dV⟩
      refine ⟨D, [true, true, true], rfl, SqL.of dV, _, rfl, iteF' rfl ?_⟩
      exact ⟨⟨_, _, _, _, _, _, _, _, _, _, _, _, rfl⟩, x0.trans (nxU.trans (ExtN.of xV)), tbU.ext xV⟩
end
end My

namespace My
open PySem PySem.Spec PyProof.Rows L2 He
section
variable {P : Program} {w : World} {K : PySem.W.Frag} {h : Heap} {mg : Str → Option Value} {base : Heap}
theorem facts {f : Addr} (X : K.In h) (G : h.Ns mainGlobals mg) (hfa : mg ("law" : Str) = some (.ref f)) (c : SaysD fa fn K) (e : houB K = true) :
    ∃ fd : FuncData, (∀ (s : Shared) (v : Value), BindsTo s fd ⟨[v], []⟩ [("_law_script", v)]) ∧ ∀ base : Heap, K.In base → base.Ns mainGlobals mg → LamX.TabB base mg (cT K ("law", none)).1 (cT K ("law", none)).2 → FnOk P w K mg base CX0 16 f fd ["_law_script"] (spLaw K (cT K ("law", none)).2) := by
  obtain ⟨fd_BadHouse_init, F_BadHouse_init⟩ := c.def_ 0 (d := d_BadHouse_init) rfl
  obtain ⟨fd_NoNode_init, F_NoNode_init⟩ := c.def_ 1 (d := d_NoNode_init) rfl
  obtain ⟨fd_NoFolder_init, F_NoFolder_init⟩ := c.def_ 2 (d := d_NoFolder_init) rfl
  obtain ⟨fd_Ringed_init, F_Ringed_init⟩ := c.def_ 3 (d := d_Ringed_init) rfl
  obtain ⟨fd_BadFact_init, F_BadFact_init⟩ := c.def_ 4 (d := d_BadFact_init) rfl
  obtain ⟨fd_is_list, F_is_list⟩ := c.def_ 5 (d := d_is_list) rfl
  obtain ⟨fd_is_name, F_is_name⟩ := c.def_ 6 (d := d_is_name) rfl
  obtain ⟨fd_is_fact, F_is_fact⟩ := c.def_ 7 (d := d_is_fact) rfl
  obtain ⟨fd_wrong_fact, F_wrong_fact⟩ := c.def_ 8 (d := d_wrong_fact) rfl
  obtain ⟨fd_as_told, F_as_told⟩ := c.def_ 9 (d := d_as_told) rfl
  obtain ⟨fd_each_once, F_each_once⟩ := c.def_ 10 (d := d_each_once) rfl
  obtain ⟨fd_against, F_against⟩ := c.def_ 11 (d := d_against) rfl
  obtain ⟨fd_Facts_init, F_Facts_init⟩ := c.def_ 12 (d := d_Facts_init) rfl
  obtain ⟨fd_Facts_told, F_Facts_told⟩ := c.def_ 13 (d := d_Facts_told) rfl
  obtain ⟨fd_Facts_add, F_Facts_add⟩ := c.def_ 14 (d := d_Facts_add) rfl
  obtain ⟨fd_Facts_len, F_Facts_len⟩ := c.def_ 15 (d := d_Facts_len) rfl
  obtain ⟨fd_Facts_contains, F_Facts_contains⟩ := c.def_ 16 (d := d_Facts_contains) rfl
  obtain ⟨fd_Facts_iter, F_Facts_iter⟩ := c.def_ 17 (d := d_Facts_iter) rfl
  obtain ⟨fd_Facts_eq, F_Facts_eq⟩ := c.def_ 18 (d := d_Facts_eq) rfl
  obtain ⟨fd_wrong_name, F_wrong_name⟩ := c.def_ 19 (d := d_wrong_name) rfl
  obtain ⟨fd_wrong_part, F_wrong_part⟩ := c.def_ 20 (d := d_wrong_part) rfl
  obtain ⟨fd_House_init, F_House_init⟩ := c.def_ 21 (d := d_House_init) rfl
  obtain ⟨fd_House_len, F_House_len⟩ := c.def_ 22 (d := d_House_len) rfl
  obtain ⟨fd_House_contains, F_House_contains⟩ := c.def_ 23 (d := d_House_contains) rfl
  obtain ⟨fd_House_iter, F_House_iter⟩ := c.def_ 24 (d := d_House_iter) rfl
  obtain ⟨fd_House_eq, F_House_eq⟩ := c.def_ 25 (d := d_House_eq) rfl
  obtain ⟨fd_must_be_node, F_must_be_node⟩ := c.def_ 26 (d := d_must_be_node) rfl
  obtain ⟨fd_must_be_folder, F_must_be_folder⟩ := c.def_ 27 (d := d_must_be_folder) rfl
  obtain ⟨fd_ring, F_ring⟩ := c.def_ 28 (d := d_ring) rfl
  obtain ⟨fd_Tree_init, F_Tree_init⟩ := c.def_ 29 (d := d_Tree_init) rfl
  obtain ⟨fd_Tree_over, F_Tree_over⟩ := c.def_ 30 (d := d_Tree_over) rfl
  obtain ⟨fd_Tree_above, F_Tree_above⟩ := c.def_ 31 (d := d_Tree_above) rfl
  obtain ⟨fd_Tree_below, F_Tree_below⟩ := c.def_ 32 (d := d_Tree_below) rfl
  obtain ⟨fd_Tree_lies, F_Tree_lies⟩ := c.def_ 33 (d := d_Tree_lies) rfl
  obtain ⟨fd_Tree_eq, F_Tree_eq⟩ := c.def_ 34 (d := d_Tree_eq) rfl
  obtain ⟨fd_steps_of, F_steps_of⟩ := c.def_ 35 (d := d_steps_of) rfl
  obtain ⟨fd_bars_of, F_bars_of⟩ := c.def_ 36 (d := d_bars_of) rfl
  obtain ⟨fd_reached, F_reached⟩ := c.def_ 37 (d := d_reached) rfl
  obtain ⟨fd_parts_of, F_parts_of⟩ := c.def_ 38 (d := d_parts_of) rfl
  obtain ⟨fd_tops_of, F_tops_of⟩ := c.def_ 39 (d := d_tops_of) rfl
  obtain ⟨fd_tree_or_group, F_tree_or_group⟩ := c.def_ 40 (d := d_tree_or_group) rfl
  obtain ⟨fd_tree_for, F_tree_for⟩ := c.def_ 41 (d := d_tree_for) rfl
  obtain ⟨fd_parted, F_parted⟩ := c.def_ 42 (d := d_parted) rfl
  obtain ⟨fd_follows, F_follows⟩ := c.def_ 43 (d := d_follows) rfl
  obtain ⟨fd_alike, F_alike⟩ := c.def_ 44 (d := d_alike) rfl
  obtain ⟨fd__law_cell, F__law_cell⟩ := c.def_ 45 (d := d__law_cell) rfl
  obtain ⟨fd__law_pool, F__law_pool⟩ := c.def_ 46 (d := d__law_pool) rfl
  obtain ⟨fd__law_take, F__law_take⟩ := c.def_ 47 (d := d__law_take) rfl
  obtain ⟨fd__law_picked, F__law_picked⟩ := c.def_ 48 (d := d__law_picked) rfl
  obtain ⟨fd__law_names, F__law_names⟩ := c.def_ 49 (d := d__law_names) rfl
  obtain ⟨fd__law_plan, F__law_plan⟩ := c.def_ 50 (d := d__law_plan) rfl
  obtain ⟨fd__law_house, F__law_house⟩ := c.def_ 51 (d := d__law_house) rfl
  obtain ⟨fd__law_drawn_tree, F__law_drawn_tree⟩ := c.def_ 52 (d := d__law_drawn_tree) rfl
  obtain ⟨fd__law_lies, F__law_lies⟩ := c.def_ 53 (d := d__law_lies) rfl
  obtain ⟨fd__law_holds, F__law_holds⟩ := c.def_ 54 (d := d__law_holds) rfl
  obtain ⟨fd__law_keeps, F__law_keeps⟩ := c.def_ 55 (d := d__law_keeps) rfl
  obtain ⟨fd__law_drawn_fact, F__law_drawn_fact⟩ := c.def_ 56 (d := d__law_drawn_fact) rfl
  obtain ⟨fd__law_drawn_facts, F__law_drawn_facts⟩ := c.def_ 57 (d := d__law_drawn_facts) rfl
  obtain ⟨fd__law_told, F__law_told⟩ := c.def_ 58 (d := d__law_told) rfl
  obtain ⟨fd__law_over, F__law_over⟩ := c.def_ 59 (d := d__law_over) rfl
  obtain ⟨fd__law_is_fit, F__law_is_fit⟩ := c.def_ 60 (d := d__law_is_fit) rfl
  obtain ⟨fd__law_loose, F__law_loose⟩ := c.def_ 61 (d := d__law_loose) rfl
  obtain ⟨fd__law_all_trees, F__law_all_trees⟩ := c.def_ 62 (d := d__law_all_trees) rfl
  obtain ⟨fd__law_fitting, F__law_fitting⟩ := c.def_ 63 (d := d__law_fitting) rfl
  obtain ⟨fd__law_facts, F__law_facts⟩ := c.def_ 64 (d := d__law_facts) rfl
  obtain ⟨fd__law_small, F__law_small⟩ := c.def_ 65 (d := d__law_small) rfl
  obtain ⟨fd__law_strange_house, F__law_strange_house⟩ := c.def_ 66 (d := d__law_strange_house) rfl
  obtain ⟨fd__law_others, F__law_others⟩ := c.def_ 67 (d := d__law_others) rfl
  obtain ⟨fd__law_first, F__law_first⟩ := c.def_ 68 (d := d__law_first) rfl
  obtain ⟨fd__law_parted_right, F__law_parted_right⟩ := c.def_ 69 (d := d__law_parted_right) rfl
  obtain ⟨fd__law_unlike, F__law_unlike⟩ := c.def_ 70 (d := d__law_unlike) rfl
  obtain ⟨fd_law, F_law⟩ := c.def_ 71 (d := d_law) rfl
  have b_is_list : Binds K fd_is_list ["thing"] [] := FunD.bindsN F_is_list fun _ _ _ _ _ _ us hl => match us, hl with | [_], _ => rfl
  have b_is_name : Binds K fd_is_name ["thing"] [] := FunD.bindsN F_is_name fun _ _ _ _ _ _ us hl => match us, hl with | [_], _ => rfl
  have b_is_fact : Binds K fd_is_fact ["house", "thing"] [] := FunD.bindsN F_is_fact fun _ _ _ _ _ _ us hl => match us, hl with | [_, _], _ => rfl
  have b_wrong_fact : Binds K fd_wrong_fact ["house", "facts"] [] := FunD.bindsN F_wrong_fact fun _ _ _ _ _ _ us hl => match us, hl with | [_, _], _ => rfl
  have b_as_told : Binds K fd_as_told ["house", "fact"] [] := FunD.bindsN F_as_told fun _ _ _ _ _ _ us hl => match us, hl with | [_, _], _ => rfl
  have b_each_once : Binds K fd_each_once ["house", "facts"] [] := FunD.bindsN F_each_once fun _ _ _ _ _ _ us hl => match us, hl with | [_, _], _ => rfl
  have b_against : Binds K fd_against ["house", "fact"] [] := FunD.bindsN F_against fun _ _ _ _ _ _ us hl => match us, hl with | [_, _], _ => rfl
  have b_Facts_told : Binds K fd_Facts_told ["self"] [] := FunD.bindsN F_Facts_told fun _ _ _ _ _ _ us hl => match us, hl with | [_], _ => rfl
  have b_Facts_add : Binds K fd_Facts_add ["self", "other"] [] := FunD.bindsN F_Facts_add fun _ _ _ _ _ _ us hl => match us, hl with | [_, _], _ => rfl
  have b_Facts_len : Binds K fd_Facts_len ["self"] [] := FunD.bindsN F_Facts_len fun _ _ _ _ _ _ us hl => match us, hl with | [_], _ => rfl
  have b_Facts_contains : Binds K fd_Facts_contains ["self", "x"] [] := FunD.bindsN F_Facts_contains fun _ _ _ _ _ _ us hl => match us, hl with | [_, _], _ => rfl
  have b_Facts_iter : Binds K fd_Facts_iter ["self"] [] := FunD.bindsN F_Facts_iter fun _ _ _ _ _ _ us hl => match us, hl with | [_], _ => rfl
  have b_Facts_eq : Binds K fd_Facts_eq ["self", "other"] [] := FunD.bindsN F_Facts_eq fun _ _ _ _ _ _ us hl => match us, hl with | [_, _], _ => rfl
  have b_wrong_name : Binds K fd_wrong_name ["things"] [] := FunD.bindsN F_wrong_name fun _ _ _ _ _ _ us hl => match us, hl with | [_], _ => rfl
  have b_wrong_part : Binds K fd_wrong_part ["folders", "things"] [] := FunD.bindsN F_wrong_part fun _ _ _ _ _ _ us hl => match us, hl with | [_, _], _ => rfl
  have b_House_len : Binds K fd_House_len ["self"] [] := FunD.bindsN F_House_len fun _ _ _ _ _ _ us hl => match us, hl with | [_], _ => rfl
  have b_House_contains : Binds K fd_House_contains ["self", "x"] [] := FunD.bindsN F_House_contains fun _ _ _ _ _ _ us hl => match us, hl with | [_, _], _ => rfl
  have b_House_iter : Binds K fd_House_iter ["self"] [] := FunD.bindsN F_House_iter fun _ _ _ _ _ _ us hl => match us, hl with | [_], _ => rfl
  have b_House_eq : Binds K fd_House_eq ["self", "other"] [] := FunD.bindsN F_House_eq fun _ _ _ _ _ _ us hl => match us, hl with | [_, _], _ => rfl
  have b_must_be_node : Binds K fd_must_be_node ["house", "thing"] [] := FunD.bindsN F_must_be_node fun _ _ _ _ _ _ us hl => match us, hl with | [_, _], _ => rfl
  have b_must_be_folder : Binds K fd_must_be_folder ["house", "thing"] [] := FunD.bindsN F_must_be_folder fun _ _ _ _ _ _ us hl => match us, hl with | [_, _], _ => rfl
  have b_ring : Binds K fd_ring ["house", "lying"] [] := FunD.bindsN F_ring fun _ _ _ _ _ _ us hl => match us, hl with | [_, _], _ => rfl
  have b_Tree_init : Binds K fd_Tree_init ["self", "house", "over"] [] := FunD.bindsN F_Tree_init fun _ _ _ _ _ _ us hl => match us, hl with | [_, _, _], _ => rfl
  have b_Tree_over : Binds K fd_Tree_over ["self", "node"] [] := FunD.bindsN F_Tree_over fun _ _ _ _ _ _ us hl => match us, hl with | [_, _], _ => rfl
  have b_Tree_above : Binds K fd_Tree_above ["self", "node"] [] := FunD.bindsN F_Tree_above fun _ _ _ _ _ _ us hl => match us, hl with | [_, _], _ => rfl
  have b_Tree_below : Binds K fd_Tree_below ["self", "folder"] [] := FunD.bindsN F_Tree_below fun _ _ _ _ _ _ us hl => match us, hl with | [_, _], _ => rfl
  have b_Tree_lies : Binds K fd_Tree_lies ["self", "node", "folder"] [] := FunD.bindsN F_Tree_lies fun _ _ _ _ _ _ us hl => match us, hl with | [_, _, _], _ => rfl
  have b_Tree_eq : Binds K fd_Tree_eq ["self", "other"] [] := FunD.bindsN F_Tree_eq fun _ _ _ _ _ _ us hl => match us, hl with | [_, _], _ => rfl
  have b_steps_of : Binds K fd_steps_of ["facts"] [] := FunD.bindsN F_steps_of fun _ _ _ _ _ _ us hl => match us, hl with | [_], _ => rfl
  have b_bars_of : Binds K fd_bars_of ["facts"] [] := FunD.bindsN F_bars_of fun _ _ _ _ _ _ us hl => match us, hl with | [_], _ => rfl
  have b_reached : Binds K fd_reached ["steps", "nodes"] [] := FunD.bindsN F_reached fun _ _ _ _ _ _ us hl => match us, hl with | [_, _], _ => rfl
  have b_parts_of : Binds K fd_parts_of ["steps", "nodes"] [] := FunD.bindsN F_parts_of fun _ _ _ _ _ _ us hl => match us, hl with | [_, _], _ => rfl
  have b_tops_of : Binds K fd_tops_of ["bars", "nodes"] [] := FunD.bindsN F_tops_of fun _ _ _ _ _ _ us hl => match us, hl with | [_, _], _ => rfl
  have b_tree_or_group : Binds K fd_tree_or_group ["facts"] [] := FunD.bindsN F_tree_or_group fun _ _ _ _ _ _ us hl => match us, hl with | [_], _ => rfl
  have b_tree_for : Binds K fd_tree_for ["facts"] [] := FunD.bindsN F_tree_for fun _ _ _ _ _ _ us hl => match us, hl with | [_], _ => rfl
  have b_parted : Binds K fd_parted ["facts", "more"] [] := FunD.bindsN F_parted fun _ _ _ _ _ _ us hl => match us, hl with | [_, _], _ => rfl
  have b_follows : Binds K fd_follows ["facts", "more"] [] := FunD.bindsN F_follows fun _ _ _ _ _ _ us hl => match us, hl with | [_, _], _ => rfl
  have b_alike : Binds K fd_alike ["one", "other"] [] := FunD.bindsN F_alike fun _ _ _ _ _ _ us hl => match us, hl with | [_, _], _ => rfl
  have b__law_cell : Binds K fd__law_cell ["_law_script", "_law_k"] [] := FunD.bindsN F__law_cell fun _ _ _ _ _ _ us hl => match us, hl with | [_, _], _ => rfl
  have b__law_pool : Binds K fd__law_pool ["_law_cell_here"] [] := FunD.bindsN F__law_pool fun _ _ _ _ _ _ us hl => match us, hl with | [_], _ => rfl
  have b__law_take : Binds K fd__law_take ["_law_pool_here", "_law_many"] [] := FunD.bindsN F__law_take fun _ _ _ _ _ _ us hl => match us, hl with | [_, _], _ => rfl
  have b__law_picked : Binds K fd__law_picked ["_law_pool_here", "_law_things", "_law_share"] [] := FunD.bindsN F__law_picked fun _ _ _ _ _ _ us hl => match us, hl with | [_, _, _], _ => rfl
  have b__law_names : Binds K fd__law_names ["_law_pool_here", "_law_many"] [] := FunD.bindsN F__law_names fun _ _ _ _ _ _ us hl => match us, hl with | [_, _], _ => rfl
  have b__law_plan : Binds K fd__law_plan ["_law_pool_here", "_law_folders", "_law_things"] [] := FunD.bindsN F__law_plan fun _ _ _ _ _ _ us hl => match us, hl with | [_, _, _], _ => rfl
  have b__law_house : Binds K fd__law_house ["_law_parts"] [] := FunD.bindsN F__law_house fun _ _ _ _ _ _ us hl => match us, hl with | [_], _ => rfl
  have b__law_drawn_tree : Binds K fd__law_drawn_tree ["_law_pool_here", "_law_parts"] [] := FunD.bindsN F__law_drawn_tree fun _ _ _ _ _ _ us hl => match us, hl with | [_, _], _ => rfl
  have b__law_lies : Binds K fd__law_lies ["_law_over_here", "_law_node", "_law_folder"] [] := FunD.bindsN F__law_lies fun _ _ _ _ _ _ us hl => match us, hl with | [_, _, _], _ => rfl
  have b__law_holds : Binds K fd__law_holds ["_law_over_here", "_law_fact"] [] := FunD.bindsN F__law_holds fun _ _ _ _ _ _ us hl => match us, hl with | [_, _], _ => rfl
  have b__law_keeps : Binds K fd__law_keeps ["_law_over_here", "_law_told_here"] [] := FunD.bindsN F__law_keeps fun _ _ _ _ _ _ us hl => match us, hl with | [_, _], _ => rfl
  have b__law_drawn_fact : Binds K fd__law_drawn_fact ["_law_pool_here", "_law_parts"] [] := FunD.bindsN F__law_drawn_fact fun _ _ _ _ _ _ us hl => match us, hl with | [_, _], _ => rfl
  have b__law_drawn_facts : Binds K fd__law_drawn_facts ["_law_pool_here", "_law_parts", "_law_most"] [] := FunD.bindsN F__law_drawn_facts fun _ _ _ _ _ _ us hl => match us, hl with | [_, _, _], _ => rfl
  have b__law_told : Binds K fd__law_told ["_law_parts", "_law_facts_here"] [] := FunD.bindsN F__law_told fun _ _ _ _ _ _ us hl => match us, hl with | [_, _], _ => rfl
  have b__law_over : Binds K fd__law_over ["_law_parts", "_law_tree"] [] := FunD.bindsN F__law_over fun _ _ _ _ _ _ us hl => match us, hl with | [_, _], _ => rfl
  have b__law_is_fit : Binds K fd__law_is_fit ["_law_parts", "_law_told_here", "_law_tree"] [] := FunD.bindsN F__law_is_fit fun _ _ _ _ _ _ us hl => match us, hl with | [_, _, _], _ => rfl
  have b__law_loose : Binds K fd__law_loose ["_law_pool_here", "_law_told_here"] [] := FunD.bindsN F__law_loose fun _ _ _ _ _ _ us hl => match us, hl with | [_, _], _ => rfl
  have b__law_all_trees : Binds K fd__law_all_trees ["_law_parts"] [] := FunD.bindsN F__law_all_trees fun _ _ _ _ _ _ us hl => match us, hl with | [_], _ => rfl
  have b__law_fitting : Binds K fd__law_fitting ["_law_parts", "_law_told_here"] [] := FunD.bindsN F__law_fitting fun _ _ _ _ _ _ us hl => match us, hl with | [_, _], _ => rfl
  have b__law_facts : Binds K fd__law_facts ["_law_pool_here", "_law_parts", "_law_told_here"] [] := FunD.bindsN F__law_facts fun _ _ _ _ _ _ us hl => match us, hl with | [_, _, _], _ => rfl
  have b__law_small : Binds K fd__law_small ["_law_pool_here"] [] := FunD.bindsN F__law_small fun _ _ _ _ _ _ us hl => match us, hl with | [_], _ => rfl
  have b__law_strange_house : Binds K fd__law_strange_house ["_law_pool_here", "_law_parts"] [] := FunD.bindsN F__law_strange_house fun _ _ _ _ _ _ us hl => match us, hl with | [_, _], _ => rfl
  have b__law_others : Binds K fd__law_others ["_law_pool_here", "_law_parts", "_law_told_here"] [] := FunD.bindsN F__law_others fun _ _ _ _ _ _ us hl => match us, hl with | [_, _, _], _ => rfl
  have b__law_first : Binds K fd__law_first ["_law_parts", "_law_trees", "_law_more"] [] := FunD.bindsN F__law_first fun _ _ _ _ _ _ us hl => match us, hl with | [_, _, _], _ => rfl
  have b__law_parted_right : Binds K fd__law_parted_right ["_law_parts", "_law_told_here", "_law_more", "_law_found", "_law_due"] [] := FunD.bindsN F__law_parted_right fun _ _ _ _ _ _ us hl => match us, hl with | [_, _, _, _, _], _ => rfl
  have b__law_unlike : Binds K fd__law_unlike ["_law_ask"] [] := FunD.bindsN F__law_unlike fun _ _ _ _ _ _ us hl => match us, hl with | [_], _ => rfl
  have q := hfa.symm.trans (glo_ok X G (c.fact 57 (f := .glo "law") rfl))
  cases q
  have b := FunD.bindsA (ps := ["_law_script"]) F_law fun _ _ _ _ _ _ us hl => match us, hl with | [_], _ => rfl
  have hco : fd_law.code = .ref (cT K ("law", none)).1 := by
    obtain ⟨oc, od, dV, kV, doc, pm, an, cdv, ct, osl, e, lk, hcd, _, _⟩ := F_law.ex
    obtain ⟨c0, rfl⟩ := codeIn_ref hcd
    have e2 : fd_law.code = .ref c0 := by rw [e]
    rw [e2]
    exact congrArg Value.ref (codeOf_eq (p := ("law", none)) lk e2).symm
  refine ⟨fd_law, fun s v => b s [v] rfl, fun base XB GB TB => ?_⟩
  obtain ⟨eK, z0⟩ := ba e
  obtain ⟨eC, z1⟩ := ba z0
  obtain ⟨eN, z2⟩ := ba z1
  obtain ⟨eS, z3⟩ := ba z2
  obtain ⟨eT, z4⟩ := ba z3
  obtain ⟨eD, z5⟩ := ba z4
  obtain ⟨eW, z6⟩ := ba z5
  obtain ⟨xBadHouse, z7⟩ := ba z6
  obtain ⟨xNoNode, z8⟩ := ba z7
  obtain ⟨xNoFolder, z9⟩ := ba z8
  obtain ⟨xRinged, z10⟩ := ba z9
  obtain ⟨xBadFact, z11⟩ := ba z10
  obtain ⟨tK, z12⟩ := ba z11
  obtain ⟨tT, z13⟩ := ba z12
  obtain ⟨uU, z14⟩ := ba z13
  obtain ⟨aA, z15⟩ := ba z14
  obtain ⟨aR, z16⟩ := ba z15
  obtain ⟨aQ, z17⟩ := ba z16
  obtain ⟨fK, f1⟩ := ba z17
  obtain ⟨fC, f2⟩ := ba f1
  obtain ⟨fN, f3⟩ := ba f2
  obtain ⟨fT, f4⟩ := ba f3
  obtain ⟨fS, fD⟩ := ba f4
  have KC := kitCB_ok eK
  have KF := kitCB_ok fK
  have nbF : ∀ T, T ∈ ["NoneType", "list", "tuple", "int", "str"] → PySem.W.notFirst K (ga K "Facts") (.type T) = true ∧ PySem.W.kitOne K (.type T) (.ref (ga K "Facts")) = some false := fun T hT => by
    obtain ⟨k1, k2⟩ := ba (List.all_eq_true.mp fT T hT)
    exact ⟨k1, of_decide_eq_true k2⟩
  have nb : ∀ T, T ∈ ["NoneType", "list", "tuple", "int", "str"] → PySem.W.notFirst K (ga K "House") (.type T) = true ∧ PySem.W.kitOne K (.type T) (.ref (ga K "House")) = some false := fun T hT => by
    obtain ⟨k1, k2⟩ := ba (List.all_eq_true.mp eT T hT)
    exact ⟨k1, of_decide_eq_true k2⟩
  have EB : ∀ base, Er P w K mg base "BadHouse" "index" (ga K "BadHouse") := fun base => by
    have T := errB_ok (glo_ok X G (c.fact 0 (f := .glo "BadHouse") rfl)) xBadHouse
    have S : FnScope ["self", "index"] ["self", "index"] (defScope s_BadHouse_init) := ⟨rfl, rfl, rfl, by decide +kernel, rfl, by decide +kernel, by decide +kernel⟩
    refine ⟨_, fd_BadHouse_init, T, ok_init (st := s_BadHouse_init) (qual := "BadHouse.__init__") T F_BadHouse_init S ⟨_, _, _, _, rfl⟩ (by decide) (by decide), FunD.bindsN F_BadHouse_init fun _ _ _ _ _ _ us hl => match us, hl with | [_, _], _ => rfl, fun s u v _ => ?_⟩
    obtain ⟨oc, od, dV, kV, doc, pm, an, cdv, ct, osl, rfl, lk, hcd, hD, hK⟩ := F_BadHouse_init.ex
    rcases hD with ⟨_, rfl⟩ | ⟨z, _⟩
    · exact .of_eq rfl
    · exact absurd rfl z
  have EN : ∀ base, Er P w K mg base "NoNode" "node" (ga K "NoNode") := fun base => by
    have T := errB_ok (glo_ok X G (c.fact 1 (f := .glo "NoNode") rfl)) xNoNode
    have S : FnScope ["self", "node"] ["self", "node"] (defScope s_NoNode_init) := ⟨rfl, rfl, rfl, by decide +kernel, rfl, by decide +kernel, by decide +kernel⟩
    refine ⟨_, fd_NoNode_init, T, ok_init (st := s_NoNode_init) (qual := "NoNode.__init__") T F_NoNode_init S ⟨_, _, _, _, rfl⟩ (by decide) (by decide), FunD.bindsN F_NoNode_init fun _ _ _ _ _ _ us hl => match us, hl with | [_, _], _ => rfl, fun s u v _ => ?_⟩
    obtain ⟨oc, od, dV, kV, doc, pm, an, cdv, ct, osl, rfl, lk, hcd, hD, hK⟩ := F_NoNode_init.ex
    rcases hD with ⟨_, rfl⟩ | ⟨z, _⟩
    · exact .of_eq rfl
    · exact absurd rfl z
  have EFo : ∀ base, Er P w K mg base "NoFolder" "folder" (ga K "NoFolder") := fun base => by
    have T := errB_ok (glo_ok X G (c.fact 2 (f := .glo "NoFolder") rfl)) xNoFolder
    have S : FnScope ["self", "folder"] ["self", "folder"] (defScope s_NoFolder_init) := ⟨rfl, rfl, rfl, by decide +kernel, rfl, by decide +kernel, by decide +kernel⟩
    refine ⟨_, fd_NoFolder_init, T, ok_init (st := s_NoFolder_init) (qual := "NoFolder.__init__") T F_NoFolder_init S ⟨_, _, _, _, rfl⟩ (by decide) (by decide), FunD.bindsN F_NoFolder_init fun _ _ _ _ _ _ us hl => match us, hl with | [_, _], _ => rfl, fun s u v _ => ?_⟩
    obtain ⟨oc, od, dV, kV, doc, pm, an, cdv, ct, osl, rfl, lk, hcd, hD, hK⟩ := F_NoFolder_init.ex
    rcases hD with ⟨_, rfl⟩ | ⟨z, _⟩
    · exact .of_eq rfl
    · exact absurd rfl z
  have ER : ∀ base, Er P w K mg base "Ringed" "folders" (ga K "Ringed") := fun base => by
    have T := errB_ok (glo_ok X G (c.fact 3 (f := .glo "Ringed") rfl)) xRinged
    have S : FnScope ["self", "folders"] ["self", "folders"] (defScope s_Ringed_init) := ⟨rfl, rfl, rfl, by decide +kernel, rfl, by decide +kernel, by decide +kernel⟩
    refine ⟨_, fd_Ringed_init, T, ok_init (st := s_Ringed_init) (qual := "Ringed.__init__") T F_Ringed_init S ⟨_, _, _, _, rfl⟩ (by decide) (by decide), FunD.bindsN F_Ringed_init fun _ _ _ _ _ _ us hl => match us, hl with | [_, _], _ => rfl, fun s u v _ => ?_⟩
    obtain ⟨oc, od, dV, kV, doc, pm, an, cdv, ct, osl, rfl, lk, hcd, hD, hK⟩ := F_Ringed_init.ex
    rcases hD with ⟨_, rfl⟩ | ⟨z, _⟩
    · exact .of_eq rfl
    · exact absurd rfl z
  have EF : ∀ base, Er P w K mg base "BadFact" "index" (ga K "BadFact") := fun base => by
    have T := errB_ok (glo_ok X G (c.fact 4 (f := .glo "BadFact") rfl)) xBadFact
    have S : FnScope ["self", "index"] ["self", "index"] (defScope s_BadFact_init) := ⟨rfl, rfl, rfl, by decide +kernel, rfl, by decide +kernel, by decide +kernel⟩
    refine ⟨_, fd_BadFact_init, T, ok_init (st := s_BadFact_init) (qual := "BadFact.__init__") T F_BadFact_init S ⟨_, _, _, _, rfl⟩ (by decide) (by decide), FunD.bindsN F_BadFact_init fun _ _ _ _ _ _ us hl => match us, hl with | [_, _], _ => rfl, fun s u v _ => ?_⟩
    obtain ⟨oc, od, dV, kV, doc, pm, an, cdv, ct, osl, rfl, lk, hcd, hD, hK⟩ := F_BadFact_init.ex
    rcases hD with ⟨_, rfl⟩ | ⟨z, _⟩
    · exact .of_eq rfl
    · exact absurd rfl z
  have T : HouC K (ga K "House") := ⟨cls_ok (c.fact 85 (f := .cls "House") rfl), noat_ok (c.fact 86 (f := .noat "House" "folders") rfl), noat_ok (c.fact 87 (f := .noat "House" "things") rfl), noat_ok (c.fact 88 (f := .noat "House" "nodes") rfl), KC.at_, KC.sp, KC.tk, KC.ob⟩
  have mt : ∀ m, Meth K (ga K "House") m (ma K (ga K "House") m) → OwnM K (ga K "House") m (ma K (ga K "House") m) := fun m z => ⟨z.at_, z.fn⟩
  obtain ⟨tL, gLL⟩ := str_ok X G (c.fact 74 (f := .str "LETTERS" letters) rfl)
  obtain ⟨t8, g88⟩ := int_ok X G (c.fact 73 (f := .int "LONGEST" 8) rfl)
  have IL : ∀ base, FnOk P w K mg base CX0 1 _ fd_is_list ["thing"] (spIsList K) := fun base => ok_isList F_is_list (free_ok X G (c.fact 61 (f := .free "isinstance") rfl)) (free_ok X G (c.fact 64 (f := .free "list") rfl)) (free_ok X G (c.fact 65 (f := .free "tuple") rfl))
  have WN : ∀ base, FnOk P w K mg base CX0 2 _ fd_wrong_name ["things"] (spWrongName K) := fun base => ok_wrongName F_wrong_name (ok_isName F_is_name (free_ok X G (c.fact 61 (f := .free "isinstance") rfl)) (free_ok X G (c.fact 66 (f := .free "str") rfl)) (free_ok X G (c.fact 60 (f := .free "len") rfl)) (free_ok X G (c.fact 63 (f := .free "all") rfl)) g88 gLL) (glo_ok X G (c.fact 7 (f := .glo "is_name") rfl)) F_is_name.kp b_is_name (free_ok X G (c.fact 67 (f := .free "enumerate") rfl))
  have WP : ∀ base, FnOk P w K mg base CX0 3 _ fd_wrong_part ["folders", "things"] (spWrongPart K) := fun base => ok_wrongPart F_wrong_part (IL base) (glo_ok X G (c.fact 6 (f := .glo "is_list") rfl)) F_is_list.kp b_is_list ((WN base).imp wn_imp) (glo_ok X G (c.fact 14 (f := .glo "wrong_name") rfl)) F_wrong_name.kp b_wrong_name (free_ok X G (c.fact 60 (f := .free "len") rfl))
  have HI : ∀ base, FnOk P w K mg base (L2.CX P w) 4 _ fd_House_init ["self", "folders", "things"] (spHInit K (ga K "House") (ga K "BadHouse")) := fun base => ok_hInit F_House_init T (WP base) (glo_ok X G (c.fact 15 (f := .glo "wrong_part") rfl)) F_wrong_part.kp b_wrong_part (EB base) (free_ok X G (c.fact 65 (f := .free "tuple") rfl))
  obtain ⟨d3, vd3, bI⟩ := FunD.binds1 (ps := ["self", "folders", "things"]) F_House_init 3 1 (by simp [DefD.dvs, d_House_init]) rfl fun T kV doc pm an cdv ct us its hu hi => by
    match us, hu, its, hi with
    | [_, _, _], _, [_], _ => exact ⟨_, rfl, rfl⟩
  obtain ⟨d2, vd2, bD⟩ := FunD.binds1 (ps := ["self", "folders", "things"]) F_House_init 2 0 (by simp [DefD.dvs, d_House_init]) rfl fun T kV doc pm an cdv ct us its hu hi => by
    match us, hu, its, hi with
    | [_, _], _, [_], _ => exact ⟨_, rfl, rfl⟩
  have nD : ∀ H, SqT K H (aDef K) [] := dflB_ok eD
  have e3' : d3 = [] := by
    cases vd3
    rfl
  subst e3'
  obtain ⟨u2, e2', ru2⟩ := vd2.one
  subst e2'
  have eu : u2 = .ref (aDef K) := ru2
  have HE : ∀ base, FnOk P w K mg base CX0 1 _ fd_House_eq ["self", "other"] (spHEq K (ga K "House")) := fun base => ok_hEq F_House_eq T (free_ok X G (c.fact 61 (f := .free "isinstance") rfl)) (glo_ok X G (c.fact 16 (f := .glo "House") rfl)) (of_decide_eq_true eC)
  let Z : HouseTxt P w K mg (ga K "House") (ga K "BadHouse") := {
    T := T, gH := (glo_ok X G (c.fact 16 (f := .glo "House") rfl)), kCC := of_decide_eq_true eC, ne := of_decide_eq_true eN, noStr := of_decide_eq_true eS, nb := nb,
    fI := _, fdI := fd_House_init, M := mkr_ok (c.fact 93 (f := .mkr "House") rfl), I := HI, bI := bI, uD := u2, bD := bD, aD := aDef K, eD := eu, tD := nD,
    fL := _, fdL := fd_House_len, mL := (mt _ (meth_ok (c.fact 89 (f := .meth "House" "__len__") rfl))), L := fun base => ok_hLen F_House_len T (free_ok X G (c.fact 60 (f := .free "len") rfl)), bL := b_House_len,
    fS := _, fdS := fd_House_contains, mS := (mt _ (meth_ok (c.fact 90 (f := .meth "House" "__contains__") rfl))), S := fun base => ok_hHas F_House_contains T (of_decide_eq_true eS) (mt _ (meth_ok (c.fact 92 (f := .meth "House" "__eq__") rfl))) (HE base) b_House_eq (nb "str" (by decide)).2, bS := b_House_contains,
    fW := _, fdW := fd_House_iter, mW := (mt _ (meth_ok (c.fact 91 (f := .meth "House" "__iter__") rfl))), W := fun base => ok_hIter F_House_iter T (free_ok X G (c.fact 68 (f := .free "iter") rfl)), bW := b_House_iter,
    fE := _, fdE := fd_House_eq, mE := (mt _ (meth_ok (c.fact 92 (f := .meth "House" "__eq__") rfl))), E := HE, bE := b_House_eq }
  have HL : ∀ base, Has P w K mg base 1 "is_list" ["thing"] (spIsList K) := fun base => ⟨_, fd_is_list, IL base, (glo_ok X G (c.fact 6 (f := .glo "is_list") rfl)), F_is_list.kp, b_is_list⟩
  have HF : ∀ base, Has P w K mg base 5 "is_fact" ["house", "thing"] (spIsFact K (ga K "House")) := fun base => ⟨_, fd_is_fact, ok_isFact F_is_fact Z (HL base) (free_ok X G (c.fact 60 (f := .free "len") rfl)) (glo_ok X G (c.fact 58 (f := .glo "WORDS") rfl)) (worB_ok eW), (glo_ok X G (c.fact 8 (f := .glo "is_fact") rfl)), F_is_fact.kp, b_is_fact⟩
  have HT : ∀ base, Has P w K mg base 1 "as_told" ["house", "fact"] (spAsTold K (ga K "House")) := fun base => ⟨_, fd_as_told, ok_asTold F_as_told Z, (glo_ok X G (c.fact 10 (f := .glo "as_told") rfl)), F_as_told.kp, b_as_told⟩
  have HWF : ∀ base, Has P w K mg base 6 "wrong_fact" ["house", "facts"] (spWrongFact K (ga K "House")) := fun base => ⟨_, fd_wrong_fact, ok_wrongFact F_wrong_fact (HL base) (HF base) (free_ok X G (c.fact 67 (f := .free "enumerate") rfl)), (glo_ok X G (c.fact 9 (f := .glo "wrong_fact") rfl)), F_wrong_fact.kp, b_wrong_fact⟩
  have HEO : ∀ base, Has P w K mg base 2 "each_once" ["house", "facts"] (spEachOnce K (ga K "House")) := fun base => ⟨_, fd_each_once, ok_eachOnce F_each_once (HT base) (free_ok X G (c.fact 65 (f := .free "tuple") rfl)), (glo_ok X G (c.fact 11 (f := .glo "each_once") rfl)), F_each_once.kp, b_each_once⟩
  have TF : FacC K (ga K "Facts") := ⟨cls_ok (c.fact 75 (f := .cls "Facts") rfl), noat_ok (c.fact 76 (f := .noat "Facts" "house") rfl), noat_ok (c.fact 77 (f := .noat "Facts" "rows") rfl), KF.at_, KF.sp, KF.tk, KF.ob⟩
  have mtF : ∀ m, Meth K (ga K "Facts") m (ma K (ga K "Facts") m) → OwnM K (ga K "Facts") m (ma K (ga K "Facts") m) := fun m z => ⟨z.at_, z.fn⟩
  have FI : ∀ base, FnOk P w K mg base (L2.CX P w) 7 _ fd_Facts_init ["self", "house", "facts"] (spFInit K (ga K "Facts") (ga K "House") (ga K "BadFact")) := fun base => ok_fInit F_Facts_init TF (HWF base) (HEO base) (EF base)
  obtain ⟨d3f, vd3f, bIf⟩ := FunD.binds1 (ps := ["self", "house", "facts"]) F_Facts_init 3 1 (by simp [DefD.dvs, d_Facts_init]) rfl fun T kV doc pm an cdv ct us its hu hi => by
    match us, hu, its, hi with
    | [_, _, _], _, [_], _ => exact ⟨_, rfl, rfl⟩
  obtain ⟨d2f, vd2f, bDf⟩ := FunD.binds1 (ps := ["self", "house", "facts"]) F_Facts_init 2 0 (by simp [DefD.dvs, d_Facts_init]) rfl fun T kV doc pm an cdv ct us its hu hi => by
    match us, hu, its, hi with
    | [_, _], _, [_], _ => exact ⟨_, rfl, rfl⟩
  have nDF : ∀ H, SqT K H (aDefF K) [] := dflBF_ok fD
  have e3f' : d3f = [] := by
    cases vd3f
    rfl
  subst e3f'
  obtain ⟨u2f, e2f', ru2f⟩ := vd2f.one
  subst e2f'
  have euf : u2f = .ref (aDefF K) := ru2f
  have FE : ∀ base, FnOk P w K mg base CX0 2 _ fd_Facts_eq ["self", "other"] (spFEq K (ga K "Facts") (ga K "House")) := fun base => ok_fEq F_Facts_eq TF Z (free_ok X G (c.fact 61 (f := .free "isinstance") rfl)) (glo_ok X G (c.fact 13 (f := .glo "Facts") rfl)) (of_decide_eq_true fC)
  let FF : FacTxt P w K mg (ga K "Facts") (ga K "House") (ga K "BadFact") := {
    T := TF, gF := (glo_ok X G (c.fact 13 (f := .glo "Facts") rfl)), kFF := of_decide_eq_true fC, ne := of_decide_eq_true fN, nb := nbF, kSeq := of_decide_eq_true fS,
    fI := _, fdI := fd_Facts_init, M := mkr_ok (c.fact 84 (f := .mkr "Facts") rfl), I := FI, bI := bIf, uD := u2f, bD := bDf, aD := aDefF K, eD := euf, tD := nDF,
    fT := _, fdT := fd_Facts_told, mT := meth_ok (c.fact 78 (f := .meth "Facts" "told") rfl), To := fun base => ok_told F_Facts_told TF (free_ok X G (c.fact 64 (f := .free "list") rfl)), bT := b_Facts_told,
    fL := _, fdL := fd_Facts_len, mL := (mtF _ (meth_ok (c.fact 80 (f := .meth "Facts" "__len__") rfl))), L := fun base => ok_fLen F_Facts_len TF (free_ok X G (c.fact 60 (f := .free "len") rfl)), bL := b_Facts_len,
    fS := _, fdS := fd_Facts_contains, mS := (mtF _ (meth_ok (c.fact 81 (f := .meth "Facts" "__contains__") rfl))), S := fun base => ok_fHas F_Facts_contains TF (HF base) (HT base), bS := b_Facts_contains,
    fW := _, fdW := fd_Facts_iter, mW := (mtF _ (meth_ok (c.fact 82 (f := .meth "Facts" "__iter__") rfl))), W := fun base => ok_fIter F_Facts_iter TF (free_ok X G (c.fact 68 (f := .free "iter") rfl)), bW := b_Facts_iter,
    fE := _, fdE := fd_Facts_eq, mE := (mtF _ (meth_ok (c.fact 83 (f := .meth "Facts" "__eq__") rfl))), E := FE, bE := b_Facts_eq }
  have TK : FnOk P w K mg base CX0 1 _ fd__law_take ["_law_pool_here", "_law_many"] spTake := ok_take F__law_take (free_ok X G (c.fact 59 (f := .free "int") rfl))
  have h__law_take : Has P w K mg base 1 "_law_take" ["_law_pool_here", "_law_many"] spTake := ⟨_, fd__law_take, TK, (glo_ok X G (c.fact 33 (f := .glo "_law_take") rfl)), F__law_take.kp, b__law_take⟩
  have h__law_cell : Has P w K mg base 1 "_law_cell" ["_law_script", "_law_k"] (spCell1 K) := ⟨_, fd__law_cell, ok_cell F__law_cell (free_ok X G (c.fact 60 (f := .free "len") rfl)), (glo_ok X G (c.fact 31 (f := .glo "_law_cell") rfl)), F__law_cell.kp, b__law_cell⟩
  have h__law_pool : Has P w K mg base 1 "_law_pool" ["_law_cell_here"] spPool := ⟨_, fd__law_pool, ok_pool F__law_pool (free_ok X G (c.fact 59 (f := .free "int") rfl)), (glo_ok X G (c.fact 32 (f := .glo "_law_pool") rfl)), F__law_pool.kp, b__law_pool⟩
  have KT := kitCB_ok tK
  have kTT : PySem.W.kitOne K (.ref (ga K "Tree")) (.ref (ga K "Tree")) = some true := of_decide_eq_true tT
  have HN : ∀ base, HasX P w K mg base 4 "must_be_node" ["house", "thing"] (spMustNode K (ga K "House") (ga K "NoNode")) := fun base => ⟨_, fd_must_be_node, ok_mustNode F_must_be_node Z (EN base), (glo_ok X G (c.fact 17 (f := .glo "must_be_node") rfl)), F_must_be_node.kp, b_must_be_node⟩
  have HFo : ∀ base, HasX P w K mg base 4 "must_be_folder" ["house", "thing"] (spMustFolder K (ga K "House") (ga K "NoFolder")) := fun base => ⟨_, fd_must_be_folder, ok_mustFolder F_must_be_folder Z (EFo base), (glo_ok X G (c.fact 18 (f := .glo "must_be_folder") rfl)), F_must_be_folder.kp, b_must_be_folder⟩
  have HR : ∀ base, Has P w K mg base 2 "ring" ["house", "lying"] (spRing K (ga K "House")) := fun base => ⟨_, fd_ring, ok_ring F_ring Z (free_ok X G (c.fact 65 (f := .free "tuple") rfl)), (glo_ok X G (c.fact 19 (f := .glo "ring") rfl)), F_ring.kp, b_ring⟩
  have TT : TreC K (ga K "Tree") := ⟨cls_ok (c.fact 94 (f := .cls "Tree") rfl), noat_ok (c.fact 95 (f := .noat "Tree" "house") rfl), noat_ok (c.fact 96 (f := .noat "Tree" "lying") rfl), KT.at_, KT.sp, KT.tk, KT.ob⟩
  have TI : ∀ base, FnOk P w K mg base (L2.CX P w) 6 _ fd_Tree_init ["self", "house", "over"] (spTInit K (ga K "Tree") (ga K "House") (ga K "NoFolder") (ga K "Ringed")) := fun base => ok_tInit F_Tree_init Z TT (HN base) (HFo base) (HR base) (ER base)
  have TV : ∀ base, FnOk P w K mg base (L2.CX P w) 5 _ fd_Tree_over ["self", "node"] (spTOver K (ga K "Tree") (ga K "House") (ga K "NoNode")) := fun base => ok_tOver F_Tree_over TT (HN base)
  let MM : AddTxt P w K mg (ga K "Facts") (ga K "House") (ga K "BadFact") := {
    fA := _, fdA := fd_Facts_add, mA := ⟨mtF _ (meth_ok (c.fact 79 (f := .meth "Facts" "__add__") rfl)), of_decide_eq_true aR, aQ⟩, A := fun base => ok_fAdd F_Facts_add FF, bA := b_Facts_add,
    add := fun T hT => addB_ok (List.all_eq_true.mp aA T hT) }
  obtain ⟨u1, u2'⟩ := ba uU
  obtain ⟨u3, u4⟩ := ba u2'
  obtain ⟨u5, u6⟩ := ba u4
  let EUn : UnC K mg (ga K "UnlikeHouses") := { bmB := bmV, B := "ValueError", newId := "ValueError.__new__", initId := "ValueError.__init__", F := PySem.F.excBase_ValueError, q := u1, g := (glo_ok X G (c.fact 5 (f := .glo "UnlikeHouses") rfl)), k := u3, s1 := of_decide_eq_true u5, s2 := of_decide_eq_true u6 }
  have HPV : Has P w K mg base 2 "_law_picked" ["_law_pool_here", "_law_things", "_law_share"] spPickedV := ⟨_, fd__law_picked, okV_picked F__law_picked h__law_take (free_ok X G (c.fact 62 (f := .free "range") rfl)) (free_ok X G (c.fact 60 (f := .free "len") rfl)) (free_ok X G (c.fact 64 (f := .free "list") rfl)), (glo_ok X G (c.fact 34 (f := .glo "_law_picked") rfl)), F__law_picked.kp, b__law_picked⟩
  have h_against : ∀ base, HasX P w K mg base 6 "against" ["house", "fact"] (spAgainst K (ga K "House") (ga K "BadFact")) := fun base => ⟨_, fd_against, ok_against F_against Z (EF base) (HF base) (HT base), (glo_ok X G (c.fact 12 (f := .glo "against") rfl)), F_against.kp, b_against⟩
  have h__law_names : Has P w K mg base 2 "_law_names" ["_law_pool_here", "_law_many"] (spNames K) := ⟨_, fd__law_names, ok_names F__law_names h__law_take (free_ok X G (c.fact 62 (f := .free "range") rfl)) (free_ok X G (c.fact 60 (f := .free "len") rfl)), (glo_ok X G (c.fact 35 (f := .glo "_law_names") rfl)), F__law_names.kp, b__law_names⟩
  have h__law_plan : Has P w K mg base 3 "_law_plan" ["_law_pool_here", "_law_folders", "_law_things"] (spPlan K) := ⟨_, fd__law_plan, ok_plan F__law_plan h__law_take h__law_names (free_ok X G (c.fact 60 (f := .free "len") rfl)) (free_ok X G (c.fact 70 (f := .free "min") rfl)), (glo_ok X G (c.fact 36 (f := .glo "_law_plan") rfl)), F__law_plan.kp, b__law_plan⟩
  have h__law_small : Has P w K mg base 4 "_law_small" ["_law_pool_here"] (spSmall K) := ⟨_, fd__law_small, ok_small F__law_small h__law_take h__law_plan, (glo_ok X G (c.fact 51 (f := .glo "_law_small") rfl)), F__law_small.kp, b__law_small⟩
  have h__law_picked : Has P w K mg base 2 "_law_picked" ["_law_pool_here", "_law_things", "_law_share"] (spPicked K) := ⟨_, fd__law_picked, ok_picked F__law_picked h__law_take (free_ok X G (c.fact 62 (f := .free "range") rfl)) (free_ok X G (c.fact 60 (f := .free "len") rfl)) (free_ok X G (c.fact 64 (f := .free "list") rfl)), (glo_ok X G (c.fact 34 (f := .glo "_law_picked") rfl)), F__law_picked.kp, b__law_picked⟩
  have h__law_drawn_tree : Has P w K mg base 3 "_law_drawn_tree" ["_law_pool_here", "_law_parts"] (spDrawnTree K) := ⟨_, fd__law_drawn_tree, ok_drawnTree F__law_drawn_tree h__law_take h__law_picked (free_ok X G (c.fact 60 (f := .free "len") rfl)), (glo_ok X G (c.fact 38 (f := .glo "_law_drawn_tree") rfl)), F__law_drawn_tree.kp, b__law_drawn_tree⟩
  have h__law_drawn_fact : Has P w K mg base 2 "_law_drawn_fact" ["_law_pool_here", "_law_parts"] (spDrawnFact K) := ⟨_, fd__law_drawn_fact, ok_drawnFact F__law_drawn_fact h__law_take (free_ok X G (c.fact 60 (f := .free "len") rfl)), (glo_ok X G (c.fact 42 (f := .glo "_law_drawn_fact") rfl)), F__law_drawn_fact.kp, b__law_drawn_fact⟩
  have h__law_lies : Has P w K mg base 1 "_law_lies" ["_law_over_here", "_law_node", "_law_folder"] (spLies K) := ⟨_, fd__law_lies, ok_lies F__law_lies (free_ok X G (c.fact 62 (f := .free "range") rfl)), (glo_ok X G (c.fact 39 (f := .glo "_law_lies") rfl)), F__law_lies.kp, b__law_lies⟩
  have h__law_holds : Has P w K mg base 2 "_law_holds" ["_law_over_here", "_law_fact"] (spHolds K) := ⟨_, fd__law_holds, ok_holds F__law_holds h__law_lies, (glo_ok X G (c.fact 40 (f := .glo "_law_holds") rfl)), F__law_holds.kp, b__law_holds⟩
  have h__law_drawn_facts : Has P w K mg base 4 "_law_drawn_facts" ["_law_pool_here", "_law_parts", "_law_most"] (spDrawnFacts K) := ⟨_, fd__law_drawn_facts, ok_drawnFacts F__law_drawn_facts h__law_take h__law_drawn_tree h__law_drawn_fact h__law_holds (free_ok X G (c.fact 60 (f := .free "len") rfl)) (free_ok X G (c.fact 62 (f := .free "range") rfl)), (glo_ok X G (c.fact 43 (f := .glo "_law_drawn_facts") rfl)), F__law_drawn_facts.kp, b__law_drawn_facts⟩
  have h__law_told : Has P w K mg base 1 "_law_told" ["_law_parts", "_law_facts_here"] (spLTold K) := ⟨_, fd__law_told, ok_lTold F__law_told, (glo_ok X G (c.fact 44 (f := .glo "_law_told") rfl)), F__law_told.kp, b__law_told⟩
  have h__law_others : Has P w K mg base 5 "_law_others" ["_law_pool_here", "_law_parts", "_law_told_here"] (spOthers K) := ⟨_, fd__law_others, ok_others F__law_others HPV h__law_take h__law_drawn_facts h__law_told, (glo_ok X G (c.fact 53 (f := .glo "_law_others") rfl)), F__law_others.kp, b__law_others⟩
  have h__law_loose : Has P w K mg base 2 "_law_loose" ["_law_pool_here", "_law_told_here"] (spLoose K) := ⟨_, fd__law_loose, ok_loose F__law_loose h__law_take (free_ok X G (c.fact 64 (f := .free "list") rfl)) (free_ok X G (c.fact 65 (f := .free "tuple") rfl)), (glo_ok X G (c.fact 47 (f := .glo "_law_loose") rfl)), F__law_loose.kp, b__law_loose⟩
  have h__law_house : Has P w K mg base 6 "_law_house" ["_law_parts"] (spLawHouse K (ga K "House")) := ⟨_, fd__law_house, ok_lawHouse F__law_house Z (free_ok X G (c.fact 65 (f := .free "tuple") rfl)) (free_ok X G (c.fact 64 (f := .free "list") rfl)), (glo_ok X G (c.fact 37 (f := .glo "_law_house") rfl)), F__law_house.kp, b__law_house⟩
  have h__law_facts : Has P w K mg base 9 "_law_facts" ["_law_pool_here", "_law_parts", "_law_told_here"] (spFactsL K (ga K "Facts") (ga K "House")) := ⟨_, fd__law_facts, ok_factsL F__law_facts FF h__law_loose h__law_house, (glo_ok X G (c.fact 50 (f := .glo "_law_facts") rfl)), F__law_facts.kp, b__law_facts⟩
  have h__law_all_trees : Has P w K mg base 2 "_law_all_trees" ["_law_parts"] (spTrees K) := ⟨_, fd__law_all_trees, ok_trees F__law_all_trees h__law_lies (free_ok X G (c.fact 71 (f := .free "dict") rfl)) (free_ok X G (c.fact 64 (f := .free "list") rfl)), (glo_ok X G (c.fact 48 (f := .glo "_law_all_trees") rfl)), F__law_all_trees.kp, b__law_all_trees⟩
  have h__law_keeps : Has P w K mg base 3 "_law_keeps" ["_law_over_here", "_law_told_here"] (spKeeps K) := ⟨_, fd__law_keeps, ok_keeps F__law_keeps h__law_holds, (glo_ok X G (c.fact 41 (f := .glo "_law_keeps") rfl)), F__law_keeps.kp, b__law_keeps⟩
  have h__law_fitting : Has P w K mg base 4 "_law_fitting" ["_law_parts", "_law_told_here"] (spFitting K) := ⟨_, fd__law_fitting, ok_fitting F__law_fitting h__law_all_trees h__law_keeps, (glo_ok X G (c.fact 49 (f := .glo "_law_fitting") rfl)), F__law_fitting.kp, b__law_fitting⟩
  have h__law_first : Has P w K mg base 3 "_law_first" ["_law_parts", "_law_trees", "_law_more"] (spFirst K) := ⟨_, fd__law_first, ok_first F__law_first h__law_holds (free_ok X G (c.fact 62 (f := .free "range") rfl)) (free_ok X G (c.fact 60 (f := .free "len") rfl)), (glo_ok X G (c.fact 54 (f := .glo "_law_first") rfl)), F__law_first.kp, b__law_first⟩
  have h__law_over : Has P w K mg base 7 "_law_over" ["_law_parts", "_law_tree"] (spLOver K (ga K "Tree") (ga K "House")) := ⟨_, fd__law_over, ok_lOver F__law_over Z TT (meth_ok (c.fact 97 (f := .meth "Tree" "over") rfl)) (TV base) b_Tree_over (glo_ok X G (c.fact 20 (f := .glo "Tree") rfl)) kTT h__law_house h__law_lies (free_ok X G (c.fact 61 (f := .free "isinstance") rfl)), (glo_ok X G (c.fact 45 (f := .glo "_law_over") rfl)), F__law_over.kp, b__law_over⟩
  have h__law_is_fit : Has P w K mg base 8 "_law_is_fit" ["_law_parts", "_law_told_here", "_law_tree"] (spIsFit K (ga K "Tree") (ga K "House")) := ⟨_, fd__law_is_fit, ok_isFit F__law_is_fit h__law_over h__law_keeps, (glo_ok X G (c.fact 46 (f := .glo "_law_is_fit") rfl)), F__law_is_fit.kp, b__law_is_fit⟩
  have h__law_parted_right : Has P w K mg base 9 "_law_parted_right" ["_law_parts", "_law_told_here", "_law_more", "_law_found", "_law_due"] (spPartedR K (ga K "Tree") (ga K "House")) := ⟨_, fd__law_parted_right, ok_partedR F__law_parted_right h__law_is_fit h__law_over h__law_holds (free_ok X G (c.fact 61 (f := .free "isinstance") rfl)) (free_ok X G (c.fact 65 (f := .free "tuple") rfl)) (free_ok X G (c.fact 60 (f := .free "len") rfl)) (free_ok X G (c.fact 72 (f := .free "bool") rfl)), (glo_ok X G (c.fact 55 (f := .glo "_law_parted_right") rfl)), F__law_parted_right.kp, b__law_parted_right⟩
  have h__law_strange_house : Has P w K mg base 6 "_law_strange_house" ["_law_pool_here", "_law_parts"] (spStrange K (ga K "House")) := ⟨_, fd__law_strange_house, ok_strange F__law_strange_house Z h__law_take (free_ok X G (c.fact 60 (f := .free "len") rfl)), (glo_ok X G (c.fact 52 (f := .glo "_law_strange_house") rfl)), F__law_strange_house.kp, b__law_strange_house⟩
  have h_steps_of : Has P w K mg base 2 "steps_of" ["facts"] (spSteps K (ga K "Facts") (ga K "House")) := ⟨_, fd_steps_of, ok_steps F_steps_of FF Z, (glo_ok X G (c.fact 21 (f := .glo "steps_of") rfl)), F_steps_of.kp, b_steps_of⟩
  have h_bars_of : Has P w K mg base 2 "bars_of" ["facts"] (spBars K (ga K "Facts") (ga K "House")) := ⟨_, fd_bars_of, ok_bars F_bars_of FF Z, (glo_ok X G (c.fact 22 (f := .glo "bars_of") rfl)), F_bars_of.kp, b_bars_of⟩
  have h_reached : Has P w K mg base 1 "reached" ["steps", "nodes"] (spReached K) := ⟨_, fd_reached, ok_reached F_reached (free_ok X G (c.fact 69 (f := .free "any") rfl)), (glo_ok X G (c.fact 23 (f := .glo "reached") rfl)), F_reached.kp, b_reached⟩
  have h_parts_of : Has P w K mg base 2 "parts_of" ["steps", "nodes"] (spParts K) := ⟨_, fd_parts_of, ok_parts F_parts_of h_reached, (glo_ok X G (c.fact 24 (f := .glo "parts_of") rfl)), F_parts_of.kp, b_parts_of⟩
  have h_tops_of : Has P w K mg base 1 "tops_of" ["bars", "nodes"] (spTops K) := ⟨_, fd_tops_of, ok_tops F_tops_of (free_ok X G (c.fact 69 (f := .free "any") rfl)) (free_ok X G (c.fact 60 (f := .free "len") rfl)), (glo_ok X G (c.fact 25 (f := .glo "tops_of") rfl)), F_tops_of.kp, b_tops_of⟩
  have h_tree_or_group : Has P w K mg base 3 "tree_or_group" ["facts"] (spTreeOr K (ga K "Facts") (ga K "House")) := ⟨_, fd_tree_or_group, ok_treeOr F_tree_or_group FF Z h_steps_of h_bars_of h_parts_of h_tops_of (free_ok X G (c.fact 65 (f := .free "tuple") rfl)), (glo_ok X G (c.fact 26 (f := .glo "tree_or_group") rfl)), F_tree_or_group.kp, b_tree_or_group⟩
  have h_tree_for : Has P w K mg base 8 "tree_for" ["facts"] (spTreeFor K (ga K "Facts") (ga K "House") (ga K "Tree")) := ⟨_, fd_tree_for, ok_treeFor F_tree_for FF (mkr_ok (c.fact 102 (f := .mkr "Tree") rfl)) (TI base) b_Tree_init (glo_ok X G (c.fact 20 (f := .glo "Tree") rfl)) h_tree_or_group, (glo_ok X G (c.fact 27 (f := .glo "tree_for") rfl)), F_tree_for.kp, b_tree_for⟩
  have h_parted : HasX P w K mg base 10 "parted" ["facts", "more"] (spParted K (ga K "Facts") (ga K "House") (ga K "Tree") (ga K "UnlikeHouses")) := ⟨_, fd_parted, ok_parted F_parted FF Z MM EUn h_tree_for (h_against base) (free_ok X G (c.fact 67 (f := .free "enumerate") rfl)), (glo_ok X G (c.fact 28 (f := .glo "parted") rfl)), F_parted.kp, b_parted⟩
  have h_follows : HasX P w K mg base 11 "follows" ["facts", "more"] (spFollows K (ga K "Facts") (ga K "House") (ga K "UnlikeHouses")) := ⟨_, fd_follows, ok_follows F_follows h_parted, (glo_ok X G (c.fact 29 (f := .glo "follows") rfl)), F_follows.kp, b_follows⟩
  have h_alike : HasX P w K mg base 12 "alike" ["one", "other"] (spAlike K (ga K "Facts") (ga K "House") (ga K "UnlikeHouses")) := ⟨_, fd_alike, ok_alike F_alike h_follows, (glo_ok X G (c.fact 30 (f := .glo "alike") rfl)), F_alike.kp, b_alike⟩
  exact ok_law F_law hco TB ⟨(glo_ok X G (c.fact 5 (f := .glo "UnlikeHouses") rfl)), exm_ok (c.fact 103 (f := .exm "UnlikeHouses" "UnlikeHouses" true) rfl)⟩ F__law_unlike (glo_ok X G (c.fact 56 (f := .glo "_law_unlike") rfl)) b__law_unlike FF h__law_cell h__law_pool h__law_small h__law_drawn_facts h__law_told h__law_others h__law_facts h__law_fitting h__law_first h__law_parted_right h__law_strange_house h_follows h_alike h_parted (free_ok X G (c.fact 62 (f := .free "range") rfl)) (free_ok X G (c.fact 63 (f := .free "all") rfl))
end
end My

open PySem PySem.W PySem.Calls PyProof.Rows
theorem PySem.Challenge.cw_whatopened_k49_whole_facts_compared_holds : PySem.Challenge.rw_whatopened_k49_whole_facts_compared.Holds := by
  w_on; o_law
  refine HandSHeadRun.head_any (r := OpenLaw.row PySem.Challenge.rw_whatopened_k49_whole_facts_compared) (q := view (OpenLaw.row PySem.Challenge.rw_whatopened_k49_whole_facts_compared).prog [70]) (H := My.hk) (ob := My.ob) (M := 8000) (loose := My.loose) (d := HandSHeadRun.topDef (OpenLaw.row PySem.Challenge.rw_whatopened_k49_whole_facts_compared).prog 70) (kwd := []) My.ob_eq
    (by kernel_rfl) (fun s => by kernel_rfl) My.run (by kernel_rfl) (by kernel_rfl) (by kernel_rfl) (by rfl) (by first | assumption | decide +kernel) (by decide +kernel) ⟨rfl, rfl, rfl, rfl, rfl, by decide +kernel⟩ ?hw ?hc
  case hw => w_witness2
  case hc =>
    refine LamX.walk_ofTsE (l := PySem.Challenge.rw_whatopened_k49_whole_facts_compared) (n := 63) (k := 16) (x := "_law_script") (CX := fun _ => L2.CX0) rfl (by decide) (by kernel_rfl) ⟨rfl, by decide, by decide⟩ ?F (fun _ _ _ _ _ z => z)
    intro w mg fa h Y G hmg0
    obtain ⟨K, KX, c⟩ := Y
    have hmg : mg ("law" : PySem.Str) = some (.ref fa) := by
      have e : (HandSHeadRun.topDef (OpenLaw.row PySem.Challenge.rw_whatopened_k49_whole_facts_compared).prog 70).name = ("law" : PySem.Str) := by kernel_rfl
      rw [← e]
      exact hmg0
    obtain ⟨fd, hb, hF⟩ := My.facts (P := (PySem.Challenge.rw_whatopened_k49_whole_facts_compared).prog) (w := w) KX G hmg c.t.d c.more
    have one : ∀ q : PySem.Addr × PySem.Addr, q ∈ [He.cT K ("law", none)] → q = He.cT K ("law", none) := fun q hq => List.mem_singleton.mp hq
    refine ⟨K, KX, fd, [He.cT K ("law", none)], My.spLaw K (He.cT K ("law", none)).2, fun q hq => ?_, fun q hq => ?_, fun q hq => ?_, hb, fun H a ns hl _ hT hS => ⟨a, ns, rfl, hS, fun q hq => ?_, fun _ => rfl⟩, fun base XB GB hT => hF base XB GB (hT _ (List.mem_singleton.mpr rfl))⟩
    · rw [one q hq]; exact c.empty _ (List.mem_singleton.mpr rfl)
    · rw [one q hq]; exact c.out _ (List.mem_singleton.mpr rfl)
    · rw [one q hq]; exact codeHd_of_K KX (c.hd _ (List.mem_singleton.mpr rfl))
    · rw [List.mem_singleton.mp hq]; exact LamX.TabS.nil (hT _ (List.mem_singleton.mpr rfl))
#print axioms PySem.Challenge.cw_whatopened_k49_whole_facts_compared_holds

